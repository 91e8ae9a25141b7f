import PyProof.Rows.All
import Wide.All
import OpenK.AllK
import Wide.FinOn
import HandS.ForMost
import HandS.Flow
import HandS.Wide
import HandS.Gcd
import HandS.IsInst
import HandS.Zip
import HandS.Ends
import HandS.Walk
import KE.KMathGC
import HandS.ExcInit
import HandS.ExcField
import HandS.TryMany
import HandS.TryOnly
import HandS.ExcOwn
import HandS.WordsExc
import KE.KExcInit
import KE.KExcPX
import HandS.EndTab
import HandS.Lambda
import KE.KNestM
import Flt.RightSqrt
import HandS.Style
import PyProof.ReprBulk
import PyProof.Rows.StrJoinMade
import HandS.Dict
import PyProof.ReprRoads
import PyProof.CallFns
import HandS.ExcIs
import HandS.SetFor
import PyProof.Rows.CountFlat
import PyProof.EqKinds
import PyProof.FactsAll.dict
import PyProof.NeKinds
import PyProof.FactsAll.dict_2
import HandS.Iter
import KE.GoesMore
import KE.GoesEnum
import PyProof.Draws
import HandS.TupMul
import HandS.TupAny
import HandS.Conv
import KE.GoesZip
import HandS.Text
import KE.DataMinMax
import KE.DataEq
import KE.KExcLine
import PySem.Challenge.RW_firstterms_k41_any_value_as_a_form
set_option Elab.async false
set_option maxRecDepth 100000
namespace Ft
open PySem L2

/-! ### general: what a def may be called for -/
structure Cal (P : Program) (w : World) (K : PySem.W.Frag) (mg : Str → Option Value) (base : Heap) (k : Nat) (x : Str) (sp : Sp) : Prop where
  ex : ∃ (f : Addr) (fd : FuncData) (ps : List Str), FnOk P w K mg base CX0 k f fd ps sp ∧ mg x = some (.ref f) ∧ PySem.W.keepIn K (.ref f) = true ∧ Binds K fd ps []
/-- a def of the top: its text stands, its name leads to it, its arguments bind -/
structure Df (K : PySem.W.Frag) (mg : Str → Option Value) (x : Str) (st : Stmt) (ps : List Str) : Prop where
  ex : ∃ (f : Addr) (fd : FuncData), Fun K x x st f fd ∧ mg x = some (.ref f) ∧ Binds K fd ps []
section
variable {X : Cx} {k j : Nat} {x : Str} {sp : Sp} {p pos : Pos} {e : Expr} {es : List Expr} {t : TA}
theorem pe_c (c : Cal X.prog X.w X.K X.mg X.base k x sp) (hr : Room j X.A) (hk : k ≤ j) (hg : Gl X x) (ha : PA X (e :: es) t)
    (hdb : (x == ("__debug__" : Str)) = false := by decide) (he : starEach (e :: es) X.env = (false, eval e X.env) :: starEach es X.env := by rfl) (hpl : (backTo pos (starEach es X.env)).any (·.1) = false := by rfl) :
    PE X (.Call (.Name x p) (e :: es) [] pos) (tCall sp [] E0 t) := by
  obtain ⟨f, fd, ps, F, hm, kp, b⟩ := c.ex
  exact pe_call F (hr.mono hk) hg hm kp b .nil pass0 ha hdb he hpl
end
/-- what may be called for by keywords alone, in this order -/
structure CalK (P : Program) (w : World) (K : PySem.W.Frag) (mg : Str → Option Value) (base : Heap) (k : Nat) (x : Str) (ks : List Str) (gV : List V → List V → List V) (sp : Sp) : Prop where
  ex : ∃ (f : Addr) (fd : FuncData) (ps : List Str) (g : List Value → List Value → List Value), FnOk P w K mg base CX0 k f fd ps sp ∧ mg x = some (.ref f) ∧ PySem.W.keepIn K (.ref f) = true ∧ KBinds K fd ps ks g gV
section
variable {X : Cx} {k j : Nat} {x : Str} {ks : List Str} {gV : List V → List V → List V} {sp : Sp} {p pos : Pos} {kws : List Keyword} {tk : TA}
theorem pe_k0 (c : CalK X.prog X.w X.K X.mg X.base k x ks gV sp) (hr : Room j X.A) (hk : k ≤ j) (hg : Gl X x) (hkw : PK X kws tk)
    (hall : (backToKw pos (keywordEach kws X.env)).all (·.1.isSome) = true := by rfl) (hks : (backToKw pos (keywordEach kws X.env)).filterMap (·.1) = ks := by rfl) (hdb : (x == ("__debug__" : Str)) = false := by decide)
    (hpl : ((backTo pos (starEach [] X.env)).any (·.1) || (backToKw pos (keywordEach kws X.env)).any (·.1.isNone)) = false := by rfl) :
    PE X (.Call (.Name x p) [] kws pos) (tCallK sp gV E0 tNil tk) := by
  obtain ⟨f, fd, ps, g, F, hm, kp, b⟩ := c.ex
  refine ⟨fun pins s σ H Q I h => wpAny_Call_Name_kw (ld_glob I hg hm ?_ hdb)⟩
  refine PySem.W.callWith_KW0 (h₀ := X.base) I.ok.mod.kin kp hall (thn (hkw.run pos pins s σ H _ I h) fun ws s2 ⟨zs, H2, I2, rz, q2⟩ => ⟨I2.kIn, ?_⟩) hpl
  rw [hks]
  exact run_fnk F (hr.mono hk) b pass0 I2 .nil rz q2
end
section
variable {X : Cx}
theorem pe_ty {x : Str} {n : String} {pos : Pos} (hg : Gl X x) (hm : X.mg x = none) (hv : bootBuiltins x = some (.type n)) (hn : x ≠ "__name__" := by decide) (hd : (x == ("__debug__" : Str)) = false := by decide) : PE X (.Name x pos) (tC (.ty n)) := pe_bltn hg hm hv rfl hn hd
end
theorem kit_int_int {K : PySem.W.Frag} : PySem.W.kitOne K (.type "int") (.type "int") = some true := kit_ty (by decide +kernel)
theorem kit_int_bool {K : PySem.W.Frag} : PySem.W.kitOne K (.type "int") (.type "bool") = some false := kit_ty (by decide +kernel)
theorem ifD {c A B : Prop} [Decidable c] (h1 : c → A) (h2 : ¬ c → B) : if decide c = true then A else B := by
  by_cases h : c
  · rw [decide_eq_true h]; exact iteT (h1 h)
  · rw [decide_eq_false h]; exact iteF (h2 h)
theorem ifI {i j : Int} {A B : Prop} (h1 : i = j → A) (h2 : i ≠ j → B) : if decide (V.int i = V.int j) = true then A else B :=
  ifD (fun h => h1 (V.int.inj h)) fun h => h2 fun e => h (congrArg V.int e)
theorem ifN {c A B : Prop} [Decidable c] (h1 : ¬ c → A) (h2 : c → B) : if (!decide c) = true then A else B := by
  by_cases h : c
  · rw [decide_eq_true h]; exact iteF (h2 h)
  · rw [decide_eq_false h]; exact iteT (h1 h)
theorem ifNI {i j : Int} {A B : Prop} (h1 : i ≠ j → A) (h2 : i = j → B) : if (!decide (V.int i = V.int j)) = true then A else B :=
  ifN (fun h => h1 fun e => h (congrArg V.int e)) fun h => h2 (V.int.inj h)
/-- what follows, said once for all ways that lead there -/
theorem tSeq_join {a b : TS} {D : Ends} {σ : L2.St} {H : Hp} (J : L2.St → Hp → Prop) (h1 : ∀ N : L2.St → Hp → Prop, (∀ σ H, J σ H → N σ H) → a { D with nx := N } σ H) (h2 : ∀ σ H, J σ H → b D σ H) : tSeq a b D σ H := h1 (b D) h2
/-- while, by an invariant and a measure -/
theorem while_go {c : TT} {tb : TS} {D : Ends} {σ : L2.St} {H : Hp} (Pv : L2.St → Hp → Prop) (μ : L2.St → Hp → Nat) (h0 : Pv σ H)
    (hs : ∀ σ H, Pv σ H → c σ H fun b H1 => if b = true then ∃ N : L2.St → Hp → Prop, (∀ σ' H', N σ' H' → ∃ m', m' < μ σ H ∧ m' = μ σ' H' ∧ Pv σ' H') ∧ tb { D with nx := N, ct := N, bk := D.nx } σ H1 else D.nx σ H1) :
    tWhile c tb D σ H := by
  refine ⟨fun m σ H => m = μ σ H ∧ Pv σ H, ⟨_, rfl, h0⟩, ?_⟩
  rintro m σ H ⟨rfl, p⟩
  exact hs σ H p
/-- math.isqrt below 2 ^ 64 -/
def rIsqrt : List V → Hp → VK → Prop := fun vs H Q => ∃ a : Int, vs = [.int a] ∧ 0 ≤ a ∧ a < 2 ^ 64 ∧ Q (.int ((Float64.isqrt a.toNat : Nat) : Int)) H
theorem cr_isqrt {X : Cx} : CallR X (.builtin "math.isqrt") rIsqrt := by
  intro pins s σ H vs us Q I r h
  obtain ⟨a, rfl, h0, h1, q⟩ := h
  obtain ⟨u, rfl, t, rfl⟩ := vals1 r
  exact PySem.W.mg_isqrt h0 h1 ⟨.int _, H, I.tok _, ⟨_, rfl⟩, q⟩
/-- the built-ins of the text -/
structure Bi (mg : Str → Option Value) : Prop where
  TypeError : mg "TypeError" = none
  abs : mg "abs" = none
  all : mg "all" = none
  bool : mg "bool" = none
  dict : mg "dict" = none
  enumerate : mg "enumerate" = none
  int : mg "int" = none
  int_ : mg "int" = none
  isinstance : mg "isinstance" = none
  len : mg "len" = none
  len_ : mg "len" = none
  list : mg "list" = none
  max : mg "max" = none
  max_ : mg "max" = none
  min : mg "min" = none
  min_ : mg "min" = none
  range : mg "range" = none
  repr : mg "repr" = none
  reversed : mg "reversed" = none
  str : mg "str" = none
  sum : mg "sum" = none
  tuple : mg "tuple" = none
  zip : mg "zip" = none
/-- math.comb of ints from 0 to 18000 -/
def rComb : List V → Hp → VK → Prop := fun vs H Q => ∃ a b : Int, vs = [.int a, .int b] ∧ 0 ≤ a ∧ 0 ≤ b ∧ a ≤ 18000 ∧ Q (.int (PySem.W.mcComb a b)) H
theorem cr_comb {X : Cx} : CallR X (.builtin "math.comb") rComb := by
  intro pins s σ H vs us Q I r h
  obtain ⟨a, b, rfl, h0, h1, h2, q⟩ := h
  obtain ⟨t, u, rfl⟩ := Vals.int2 r
  exact PySem.W.mc_comb h0 h1 (by omega) (.inr h2) fun _ => ⟨.int _, H, I.tok _, ⟨_, rfl⟩, q⟩
end Ft

namespace Ft
open PySem L2
/-! ### own errors over Exception, whose __init__ stores one field -/
abbrev excBm : List Value := [.type "Exception", .type "BaseException", .type "object"]
/-- what the top has left of an error's class at C; f: the field that it stores -/
structure ErrC (K : PySem.W.Frag) (C : Addr) (f : Str) : Prop where
  made : PySem.W.excInitIn K C excBm "Exception.__new__" = true
  ov : PySem.W.excOver K C excBm = true
  sa : PySem.W.findIn K (.ref C) "__setattr__" = some (some (.builtin "object.__setattr__"))
  xf : XfC K C
  ty : PySem.W.typeIn K (.ref C) = some (.type "type")
  kp : PySem.W.keepIn K (.ref C) = true
  no : PySem.W.findIn K (.ref C) f = some none
section
variable {prog : Program} {w : World} {A : Around} {R : Result → Shared → Prop} {hp : Heap} {g : Array GenState} {d : Drawn} {t : Nat} {os : OsState} {K : PySem.W.Frag} {C x t1 : Addr} {f : Str} {tk : Tok} {v : Value}
/-- the first field of a new error, in the heap -/
theorem err_store (T : ErrC K C f) (X : K.In hp) (hx : hp.get? x = some (PySem.HandSPX.excO C t1))
    (q : ∀ h' tk', h'.Ns1 hp.objs.size (fun y => if y = f then some v else none) → h'.get? x = some { cls := .ref C, dict := some hp.objs.size, data := .fields #[.ref t1, .none, .none, .none, .bool false, .none] } →
      (∀ b o, b ≠ x → hp.get? b = some o → h'.get? b = some o) → R (.ok (.ret .none)) ⟨h', g, d, tk', os⟩) :
    codeAny (model prog w) A (.call (.builtin "object.__setattr__") ⟨[.ref x, .str f tk, v], []⟩) R ⟨hp, g, d, t, os⟩ := by
  obtain ⟨cd, hc, hd⟩ := PySem.W.any_some T.xf.hdC
  have ht : PySem.W.takerIn K C f = some none := by unfold PySem.W.takerIn; rw [T.no]; rfl
  have lt : x < hp.objs.size := Heap.lt_size hx
  refine PySem.W.osa_openX (s := ⟨hp, g, d, t, os⟩) (od := none) F.store_Exception X ⟨hx, rfl, rfl, trivial⟩ T.ov ht fun b => ?_
  refine wpAny_bind (wpAny_pure (wpAny_bind (PySem.W.instanceDict_exc (s := ⟨hp, g, d, t, os⟩) hx (PySem.W.looks_clsIn X hc) hd ?_)))
  refine PySem.HandSPX.store_in_new ?_ fun h' tk' hn hs => ?_
  · exact ⟨PySem.W.dictOf [] 0, #[], 0, (Heap.get?_update_ne _ _ _ _ (Nat.ne_of_gt lt)).trans (Heap.get?_push_at (o := PySem.W.dictOf [] 0) rfl rfl), rfl, fun e he => absurd he (by simp), fun _ => rfl⟩
  · refine q h' tk' hn ?_ fun b o nb ho => ?_
    · exact (hs.2 x (Nat.ne_of_lt lt)).trans (Heap.get?_update_self _ (Heap.get?_push_of_some _ hx) rfl)
    · exact (hs.2 b (Nat.ne_of_lt (Heap.lt_size ho))).trans ((Heap.get?_update_ne _ _ _ _ nb).trans (Heap.get?_push_of_some _ ho))
end
/-- self.f = e, self an error that is being made -/
def tErr (K : PySem.W.Frag) (f : Str) (to te : TE) : TS := fun D σ H => te σ H fun y H1 => to σ H1 fun x H2 => ∃ a C, x = .ref a ∧ ErrC K C f ∧ H2 a = some (exo a C none) ∧ ∀ dx, H2 dx = none → dx ≠ a → D.nx σ (upd (upd H2 dx (exd dx [(f, y)])) a (exo a C (some dx)))
section
variable {X : Cx} {o e : Expr} {to te : TE} {f : Str} {p' pos : Pos}
theorem ps_err (ho : PE X o to) (he : PE X e te) (hs : swapsWith e (some (.Attribute o f p')) pos.line X.env = pure false := by rfl) : PS X (.Assign [.Attribute o f p'] e pos) (tErr X.K f to te) := by
  refine ⟨fun pins s σ H D I h => ?_⟩
  refine plainObj_wpAny_Assign_Attribute (thn (he.run pins s σ H _ I h) fun v s1 ⟨y, H1, I1, r1, q1⟩ => thn (ho.run pins s1 σ H1 _ I1 q1) fun u s2 ⟨x, H2, I2, r2, a, C, ex, T, ea, q⟩ => ?_) hs
  subst ex
  obtain rfl : u = Value.ref a := r2
  obtain ⟨t1, hx⟩ := exo_at I2.hok ea
  obtain ⟨hp, g, d, t, os⟩ := s2
  refine PySem.W.set_plain (s := ⟨hp, g, d, t, os⟩) I2.kIn (od := none) ⟨hx, rfl, rfl, trivial⟩ T.sa ?_
  refine err_store T I2.kIn hx fun h' tk' hn hx' k => ?_
  have nd : H2 hp.objs.size = none := I2.hok.fresh (Nat.le_refl _)
  have da : hp.objs.size ≠ a := Nat.ne_of_gt (Heap.lt_size hx)
  have off : ∀ {b : Addr}, b ≠ a → b ≠ hp.objs.size → upd (upd H2 hp.objs.size (exd hp.objs.size [(f, y)])) a (exo a C (some hp.objs.size)) b = H2 b := fun n1 n2 => by rw [upd_ne n1, upd_ne n2]
  have old : ∀ {b : Addr} {ob : Obj}, hp.get? b = some ob → b ≠ hp.objs.size := fun z => Nat.ne_of_lt (Heap.lt_size z)
  have unk : ∀ {b : Addr}, H2 b = none → b ≠ a := fun n z => by rw [z, ea] at n; cases n
  have oth : ∀ {b : Addr} {u : HO}, H2 b = some u → exo a C none ≠ u → b ≠ a ∧ b ≠ hp.objs.size := fun z n => ⟨at_ne ea z n, ne_of_none z nd⟩
  have U : Un X.fs [] H2 (upd (upd H2 hp.objs.size (exd hp.objs.size [(f, y)])) a (exo a C (some hp.objs.size))) hp h' := by
    refine ⟨fun b ob z n _ _ => k b ob (unk n) z, fun b ob z n _ _ => ⟨ob.slots, k b ob (unk n) z⟩, fun b ob z n _ => (off (unk n) (old z)).trans n, fun b ob z _ => ?_,
      fun b xs z => (off (oth z exo_tup).1 (oth z exo_tup).2).trans z, fun b ob v z => (off (oth z exo_frz).1 (oth z exo_frz).2).trans z, fun b ps z => ⟨#[], by rw [off (oth z exo_tbl).1 (oth z exo_tbl).2, z]; simp⟩⟩
    by_cases hb : b = a
    · exact ⟨_, hb ▸ hx'⟩
    · exact ⟨ob, k b ob hb z⟩
  refine ⟨σ, _, I2.un (t' := tk') U fun b ob z => ?_, q _ nd da⟩
  · by_cases hb : b = a
    · subst hb
      rw [upd_same] at z
      cases z
      exact exo_ok hx'
    by_cases hd : b = hp.objs.size
    · subst hd
      rw [upd_ne hb, upd_same] at z
      cases z
      exact exd_ok hn (relO_put (fs := []) r1 fun _ => True.intro)
    · rw [off hb hd] at z
      refine (I2.hok b ob z).stay (fun c v hc y => k c v ?_ y) (fun c hc => ?_) fun c xs hc => ?_
      · rcases hc with hc | hc
        · exact hc ▸ hb
        · exact (oth hc exo_own).1
      · rw [off (oth hc exo_own).1 (oth hc exo_own).2]; exact hc
      · rw [off (oth hc exo_tup).1 (oth hc exo_tup).2]; exact hc
end
/-- what an error's own __init__ keeps: it stores its argument -/
def sp_init (K : PySem.W.Frag) (f : Str) : Sp := fun vs H Q _ => ∃ (a C : Addr) (y : V), vs = [.ref a, y] ∧ ErrC K C f ∧ H a = some (exo a C none) ∧ ∀ dx, H dx = none → dx ≠ a → Q .non (upd (upd H dx (exd dx [(f, y)])) a (exo a C (some dx)))
/-- the class of an error with its __init__ -/
structure Err (P : Program) (w : World) (K : PySem.W.Frag) (mg : Str → Option Value) (base : Heap) (x : Str) (C : Addr) (f : Str) : Prop where
  c : ErrC K C f
  g : mg x = some (.ref C)
  ini : ∃ (fI : Addr) (fd : FuncData) (ps : List Str), PySem.W.findIn K (.ref C) "__init__" = some (some (.ref fI)) ∧ PySem.W.typeIn K (.ref fI) = some (.type "function") ∧ FnOk P w K mg base CX0 2 fI fd ps (sp_init K f) ∧ Binds K fd ps []
/-- C(e) -/
def tNew (C : Addr) (f : Str) (ta : TA) : St → Hp → XK → Prop := fun σ H Q => ta σ H fun vs H1 => ∃ y, vs = [y] ∧ ∀ d, H1 d = none → Q (.ref C) (some d) (upd H1 d (.xd [(f, y)]))
theorem made_heap {H : Hp} {a d C : Addr} {f : Str} {y : V} (n : H a = none) : upd (del (upd (upd (upd H a (exo a C none)) d (exd d [(f, y)])) a (exo a C (some d))) a) d (.xd [(f, y)]) = upd H d (.xd [(f, y)]) := funext fun b => by
  by_cases hd : b = d
  · subst hd; rw [upd_same, upd_same]
  · rw [upd_ne hd, upd_ne hd]
    by_cases ha : b = a
    · subst ha; rw [del_same, n]
    · rw [del_ne ha, upd_ne ha, upd_ne hd, upd_ne ha]
section
variable {X : Cx} {C : Addr} {x f : Str} {e : Expr} {ta : TA} {p pos : Pos} {j : Nat}
theorem pmk_err (T : Err X.prog X.w X.K X.mg X.base x C f) (hr : Room j X.A) (hj : 3 ≤ j) (hg : Gl X x) (ha : PA X [e] ta)
    (hdb : (x == ("__debug__" : Str)) = false := by decide) (he : starEach [e] X.env = (false, eval e X.env) :: starEach [] X.env := by rfl) (hpl : (backTo pos (starEach [] X.env)).any (·.1) = false := by rfl) :
    PMk X (.Call (.Name x p) [e] [] pos) (tNew C f ta) := by
  intro pins s σ H Q I h
  obtain ⟨fI, fd, ps, iC, tI, F1, hb⟩ := T.ini
  refine wpAny_Call_Name_kw (ld_glob I hg T.g ?_ hdb)
  refine PySem.W.callWith_K (h₀ := X.base) I.ok.mod.kin T.c.kp (thn (ha.run pos pins s σ H _ I h) fun us s1 ⟨vs, H1, I1, r1, y, ev, q⟩ => ⟨I1.kIn, ?_⟩) he hpl
  subst ev
  show wpAny _ _ (call (.ref C) us) _ _ _
  obtain ⟨nm, N, qn, bs, bm, hdct, sn, sub, ab, col, dd, k0, k1, k2, k3, k5, hC, hT⟩ := PySem.W.excInit_of I1.kIn T.c.made
  obtain ⟨hp, g, dr, tk, os⟩ := s1
  have hsz : hp.objs.size ≤ hp.objs.size + 1 := Nat.le_succ _
  have n1 : H1 (hp.objs.size + 1) = none := I1.hok.fresh hsz
  have kk : ∀ b o, hp.get? b = some o → ((hp.push (PySem.W.kdv_tup us)).push (PySem.HandSPX.excO C hp.objs.size)).get? b = some o := fun b o z => Heap.get?_push_of_some _ (Heap.get?_push_of_some _ z)
  have I2 := I1.laid (t' := tk) (a := hp.objs.size + 1) (o := exo (hp.objs.size + 1) C none) (h' := (hp.push (PySem.W.kdv_tup us)).push (PySem.HandSPX.excO C hp.objs.size)) kk hsz (exo_ok (t1 := hp.objs.size) (by heap_get))
  have r2 : Vals [V.ref (hp.objs.size + 1), y] (Value.ref (hp.objs.size + 1) :: us) := .cons rfl r1
  have sp1 : sp_init X.K f [V.ref (hp.objs.size + 1), y] (upd H1 (hp.objs.size + 1) (exo (hp.objs.size + 1) C none)) (fun v H2 => v = .non ∧ ∃ d, H1 d = none ∧ H2 = upd (upd (upd H1 (hp.objs.size + 1) (exo (hp.objs.size + 1) C none)) d (exd d [(f, y)])) (hp.objs.size + 1) (exo (hp.objs.size + 1) C (some d)) ∧ d ≠ hp.objs.size + 1) (fun _ _ _ => False) :=
    ⟨_, C, y, rfl, T.c, upd_same, fun dx n ne => ⟨rfl, dx, by rwa [upd_ne ne] at n, rfl, ne⟩⟩
  have hl : (Value.ref (hp.objs.size + 1) :: us).length = ps.length := r2.length.symm.trans (F1.len _ _ _ _ sp1)
  have hus : us.length ≤ sizeLine := by
    rw [← Paired.length r1]
    show 1 ≤ sizeLine
    decide
  have hb' := hb ⟨(hp.push (PySem.W.kdv_tup us)).push (PySem.HandSPX.excO C hp.objs.size), g, dr, tk, os⟩ (Value.ref (hp.objs.size + 1) :: us) I2.kIn (by rw [List.append_nil]; exact hl)
  rw [List.append_nil] at hb'
  refine wpAny_call (PySem.PX.call_own F.excBase_Exception hT hC (PySem.W.looks_findIn I1.kIn iC) (fun self => PySem.W.bind_fn I1.kIn self tI) hus
    (codeAny_mono (F1.run _ X.stack _ _ ⟨Value.ref (hp.objs.size + 1) :: us, []⟩ (Value.ref (hp.objs.size + 1) :: us) _ _ (fun _ _ _ => False) ((hr.mono hj).make C us []) (I2.env0.make C us []) hb' r2 sp1) fun r s' hq' => ?_))
  cases r with
  | error er => exact pass0 pins σ _ _ er s' I2 hq'
  | ok fl =>
    cases fl with
    | ret u =>
      obtain ⟨v, H2, os2, bare2, un2, hok2, rv, ev, d, nd, eH, ne⟩ := hq'
      subst ev
      subst eH
      obtain ⟨h2, g2, d2, t2, os'⟩ := s'
      refine ⟨rv, mk_end (fs := [(f, y)]) (raises_own T.c.xf.exC T.c.ty) I1 hsz kk un2 hok2 os2 bare2 upd_same (by rw [upd_ne ne, upd_same]) nd ?_⟩
      rw [made_heap n1]
      exact q d nd
    | next => exact False.elim hq'
    | brk => exact False.elim hq'
    | cont => exact False.elim hq'
end
def clsBody : Stmt → List Stmt
  | .ClassDef _ _ _ b _ _ _ _ _ _ _ => b
  | _ => []
/-- the __init__ of a class statement whose body is that alone -/
def initOf (c : Stmt) : Stmt := (clsBody c).getD 0 (.Pass ⟨0, 0, 0, 0⟩)
/-- what the top has left of an error's class: the class, its __init__ -/
structure ErrT (K : PySem.W.Frag) (mg : Str → Option Value) (x f q : Str) (st : Stmt) (C : Addr) : Prop where
  c : ErrC K C f
  g : mg x = some (.ref C)
  i : ∃ (fI : Addr) (fd : FuncData), PySem.W.findIn K (.ref C) "__init__" = some (some (.ref fI)) ∧ PySem.W.typeIn K (.ref fI) = some (.type "function") ∧ Fun K "__init__" q st fI fd ∧ Binds K fd ["self", f] []
theorem err_mk {K : PySem.W.Frag} {h : Heap} {mg : Str → Option Value} {x f q : Str} {st : Stmt} {C fI : Addr} {oc kV doc pm cdv ct : Value} {od an : Option Addr} {osl : Array (Option Value)} (X : K.In h) (G : h.Ns mainGlobals mg)
    (a : PySem.W.nsIn K mainGlobals x = some (some (.ref C))) (m : PySem.W.excInitIn K C excBm "Exception.__new__" = true) (ov : PySem.W.excOver K C excBm = true)
    (sa : PySem.W.findIn K (.ref C) "__setattr__" = some (some (.builtin "object.__setattr__"))) (ga : PySem.W.findIn K (.ref C) "__getattribute__" = some (some (.builtin "BaseException.__getattribute__"))) (gg : PySem.W.findIn K (.ref C) "__getattr__" = some none)
    (ex : PySem.W.subIn K (.ref C) (.type "BaseException") = some true) (hd : PySem.W.hasDictIn K C = true) (ty : PySem.W.typeIn K (.ref C) = some (.type "type")) (kp : PySem.W.keepIn K (.ref C) = true) (no : PySem.W.findIn K (.ref C) f = some none)
    (i : PySem.W.findIn K (.ref C) "__init__" = some (some (.ref fI))) (tI : PySem.W.typeIn K (.ref fI) = some (.type "function"))
    (l : K.lookup fI = some ⟨oc, od, .func (PySem.W.fnOf "__init__" q (defArgs st) (defBody st) (defScope st) .none kV doc pm an cdv ct), osl⟩) (c : PySem.W.codeIn K cdv q = true) (k : PySem.W.keepIn K (.ref fI) = true)
    (hb : ∀ (kV doc pm : Value) (an : Option Addr) (cdv ct : Value) (us : List Value), us.length = (["self", f] : List Str).length → bindArgs (PySem.W.fnOf "__init__" q (defArgs st) (defBody st) (defScope st) .none kV doc pm an cdv ct) ⟨us, []⟩ = pure ((["self", f] : List Str).zip us)) : ErrT K mg x f q st C :=
  have F := fun_mk (st := st) l c k
  ⟨⟨m, ov, sa, ⟨ga, gg, ex, hd⟩, ty, kp, no⟩, PySem.W.mg_of X G a, ⟨fI, _, i, tI, F, F.binds hb⟩⟩
/-- an error's own class in an except clause -/
theorem exm_own {K : PySem.W.Frag} {C D : Addr} {b : Bool} (h1 : PySem.W.subIn K (.ref D) (.type "BaseException") = some true) (h2 : PySem.W.isClsIn K D = true) (h3 : PySem.W.typeIn K (.ref D) = some (.type "type")) (h4 : PySem.W.subIn K (.ref C) (.ref D) = some b) :
    PySem.W.exmOne K (.ref C) (.ref D) = some b := by
  have e2 : ((PySem.W.clsIn K D).isSome && PySem.W.typeIn K (.ref D) == some (.type "type")) = true := by
    rw [h3]
    show (PySem.W.isClsIn K D && _) = true
    rw [h2]
    rfl
  show (if (PySem.W.subIn K (.ref D) (.type "BaseException") == some true) = true then (if ((PySem.W.clsIn K D).isSome && PySem.W.typeIn K (.ref D) == some (.type "type")) = true then PySem.W.subIn K (.ref C) (.ref D) else none) else none) = some b
  rw [h1, if_pos (by rfl), if_pos e2]
  exact h4
theorem cut_on {A B : Prop} (a : A) (h : A → B) : B := h a
end Ft

namespace Ft
open PySem L2 PySem.Spec PyProof.Rows
/-! ### several except clauses, some with a name -/
abbrev Clause := Value × Option Nat × (Addr → Value → Option Addr → TS)
/-- the ends behind a clause whose name stands in slot i -/
def gone (i : Nat) (D : Ends) : Ends := { nx := fun σ H => D.nx (σ.set i none) H, rt := D.rt, bk := fun σ H => D.bk (σ.set i none) H, ct := fun σ H => D.ct (σ.set i none) H }
def endsOf (D : Ends) : Option Nat → Ends
  | none => D
  | some i => gone i D
def slotOf (σ : L2.St) (a : Addr) : Option Nat → L2.St
  | none => σ
  | some i => σ.set i (some (.ref a))
def wN (K : PySem.W.Frag) (Wout : WX) (D : Ends) : List Clause → WX
  | [] => Wout
  | (c, i, ts) :: r => fun cls d σ H => ∃ b, PySem.W.exmOne K cls c = some b ∧ (b = true → ∀ a, H a = none → ts a cls d (endsOf D i) (slotOf σ a i) H) ∧ (b = false → wN K Wout D r cls d σ H)
inductive HdN (X : Cx) : List ExceptHandler → List Clause → Prop
  | nil : HdN X [] []
  | plain {x : Str} {c : Value} {ts : Addr → Value → Option Addr → TS} {b : Stmt} {bs : List Stmt} {p q : Pos} {hs : List ExceptHandler} {l : List Clause} (hc : Names X x c)
      (hb : ∀ (a : Addr) (oe : Obj) (cls : Value) (d : Option Addr) (pn : List (Addr × Obj)), Zc cls d oe → (∃ vs, oe.data = .fields vs) → PSs (X.suite a ((a, oe) :: pn)) (b :: bs) (ts a cls d)) (r : HdN X hs l) :
      HdN X (.ExceptHandler (some (.Name x p)) none (b :: bs) q :: hs) ((c, none, ts) :: l)
  | named {x n : Str} {i : Nat} {c : Value} {ts : Addr → Value → Option Addr → TS} {b : Stmt} {bs : List Stmt} {p q : Pos} {hs : List ExceptHandler} {l : List Clause} (hc : Names X x c) (hi : X.N[i]? = some n) (hn : X.env.kindOf n = some .local)
      (hb : ∀ (a : Addr) (oe : Obj) (cls : Value) (d : Option Addr) (pn : List (Addr × Obj)), Zc cls d oe → (∃ vs, oe.data = .fields vs) → PSs (X.suite a ((a, oe) :: pn)) (b :: bs) (ts a cls d)) (r : HdN X hs l) :
      HdN X (.ExceptHandler (some (.Name x p)) (some n) (b :: bs) q :: hs) ((c, some i, ts) :: l)
/-- an error that came down to this frame -/
structure Down (X : Cx) (pins : List (Addr × Obj)) (a : Addr) (cls : Value) (d : Option Addr) (σ : L2.St) (H : Hp) (sI s : Shared) (B h : Heap) : Prop where
  J : Inv X pins σ H sI
  nb : ∀ b o, sI.heap.get? b = some o → b ∉ frs X.stack → B.get? b = some o
  up : sI.heap.UpToSlots h
  fl : HandSPX.FlyingZ B (X.env :: X.outer) a (Zc cls d) h
  na : H a = none
  os : s.os = sI.os
  ag : AllBare s.gens
section
variable {X : Cx} {pins : List (Addr × Obj)} {a : Addr} {cls : Value} {d : Option Addr} {σ : L2.St} {H : Hp} {sI s : Shared} {B h : Heap}
theorem Down.now (x : Down X pins a cls d σ H sI s B h) : Inv X pins σ H { s with heap := h } := x.J.landed x.nb x.fl.1 x.up x.os x.ag
/-- the state of a suite -/
theorem Down.suite (x : Down X pins a cls d σ H sI s B h) (hf : X.env.frame = some X.env.locals) : ∃ oe, Zc cls d oe ∧ (∃ vs, oe.data = .fields vs) ∧ h.get? a = some oe ∧ Inv (X.suite a ((a, oe) :: (X.pn ++ pins))) [] σ H { s with heap := h } := by
  obtain ⟨oe, vs, he, hz, hd⟩ := x.fl.there
  have out : a ∉ frs (X.env :: X.outer) := fun z => by
    obtain ⟨_, o, e, n⟩ := x.fl.2.2.1.mem z
    rw [he] at e
    cases e
    exact n _ hd
  have inF : ∀ e ∈ X.env :: X.outer, e.frame ≠ some a := fun e m z => out (List.mem_filterMap.mpr ⟨e, m, z⟩)
  refine ⟨oe, hz, ⟨vs, hd⟩, he, x.now.suite he hd x.na (fun z => inF _ List.mem_cons_self (by rw [hf, z])) fun z => ?_⟩
  obtain ⟨e, m, q⟩ := List.mem_filterMap.mp z
  exact inF e (List.mem_cons_of_mem _ m) q
theorem Down.again (x : Down X pins a cls d σ H sI s B h) {h' : Heap} (f : HandSPX.FlyingZ B (X.env :: X.outer) a (Zc cls d) h') (u : h.UpToSlots h') : Down X pins a cls d σ H sI s B h' := ⟨x.J, x.nb, x.up.trans u, f, x.na, x.os, x.ag⟩
/-- the clause's test -/
theorem Down.test (x : Down X pins a cls d σ H sI s B h) (hf : X.env.frame = some X.env.locals) {n : Str} {c : Value} {b : Bool} {p : Pos} {Q : Bool → Shared → Prop} {E E' : Value → Shared → Prop} (hc : Names X n c) (e : PySem.W.exmOne X.K cls c = some b) (q : Q b { s with heap := h }) :
    wpAny (model X.prog X.w) (X.A.mark (some (.ref a))) (eval (.Name n p) X.env) (fun c s1 => wpAny (model X.prog X.w) (X.A.mark (some (.ref a))) (excMatches (.ref a) c) Q E s1) E' { s with heap := h } := by
  obtain ⟨oe, hz, _, he, S⟩ := x.suite hf
  have T : PySem.W.Looks (model X.prog X.w) h (typeOf (.ref a)) cls := fun A Q E s k q => wpAny_typeOf_ref (k _ _ he) (by rw [hz.1]; exact q)
  have m := PySem.W.exm_one (M := model X.prog X.w) x.now.kIn T e
  obtain ⟨g, db, y | ⟨y, v, nn⟩⟩ := hc
  · exact ld_glob (X := X.suite a ((a, oe) :: (X.pn ++ pins))) S g y (m.here q) db
  · exact ld_blt (X := X.suite a ((a, oe) :: (X.pn ++ pins))) S g y v (m.here q) nn db
/-- the state behind a suite goes on as the frame's own -/
theorem sp_back {q : Addr × Obj} {D : Ends} {f : Flow} {s' : Shared} (ok : X.Ok) (z : SP (X.suite a (q :: (X.pn ++ pins))) [] D f s') : SP X pins D f s' := by
  cases f with
  | ret u =>
    obtain ⟨v, σ', H', I, r, z⟩ := z
    exact ⟨v, σ', H', I.unsuite ok, r, z⟩
  | next =>
    obtain ⟨σ', H', I, z⟩ := z
    exact ⟨σ', H', I.unsuite ok, z⟩
  | brk =>
    obtain ⟨σ', H', I, z⟩ := z
    exact ⟨σ', H', I.unsuite ok, z⟩
  | cont =>
    obtain ⟨σ', H', I, z⟩ := z
    exact ⟨σ', H', I.unsuite ok, z⟩
/-- behind a named clause the name goes -/
theorem sp_gone {D : Ends} {f : Flow} {i : Nat} {n : Str} {p : Pos} {s' : Shared} {A : Around} {E : Value → Shared → Prop} (hN : X.N.Nodup) (hi : X.N[i]? = some n) (hl : X.env.kindOf n = some .local) (z : SP X pins (gone i D) f s') :
    wpAny (model X.prog X.w) A (do bindName X.env n .none; unbindBehindTheSuite X.env n p) (fun _ s3 => SP X pins D f s3) E s' := by
  cases f with
  | ret u =>
    obtain ⟨v, σ', H', I, r, z⟩ := z
    exact gone_ok I hN hi hl fun s3 J => ⟨v, _, H', J, r, z⟩
  | next =>
    obtain ⟨σ', H', I, z⟩ := z
    exact gone_ok I hN hi hl fun s3 J => ⟨_, H', J, z⟩
  | brk =>
    obtain ⟨σ', H', I, z⟩ := z
    exact gone_ok I hN hi hl fun s3 J => ⟨_, H', J, z⟩
  | cont =>
    obtain ⟨σ', H', I, z⟩ := z
    exact gone_ok I hN hi hl fun s3 J => ⟨_, H', J, z⟩
theorem handleN (hs : X.stack = X.env :: X.outer) (hf : X.env.frame = some X.env.locals) (hN : X.N.Nodup) {Wout : WX} (tk : Takes X Wout) {D : Ends} {hds : List ExceptHandler} {l : List Clause} (k : HdN X hds l) (x : Down X pins a cls d σ H sI s B h) (w : wN X.K Wout D l cls d σ H) :
    wpAny (model X.prog X.w) X.A (handleBy (.ref a) X.env hds) (SP X pins D) X.xe { s with heap := h } := by
  have ok := x.J.ok
  induction k generalizing h with
  | nil =>
    refine wpAny_handleBy_nil ?_
    obtain ⟨_, _, _, oe, vs, T, _, _, he, _, hd, h1, _⟩ := id x.fl
    unfold PySem.passOn
    refine wpAny_bind (wpAny_field he hd h1 ?_)
    rw [if_neg (show ¬ ((Value.ref T == Value.none) = true) from by simp)]
    have fin : wpAny (model X.prog X.w) X.A (setFlight (.ref a) X.env.frame) (fun _ s4 => wpAny (model X.prog X.w) X.A (throw (.ref a) : Sem Flow) (SP X pins D) X.xe s4) X.xe { s with heap := h } := by
      rw [hf]
      exact HandSPX.setFlight_upZ x.fl fun h4 f4 u4 => wpAny_throw (tk _ _ ⟨a, B, sI, pins, σ, H, cls, d, rfl, x.J, x.nb, x.up.trans u4, .inr (.inr (by rw [hs]; exact f4)), x.na, x.os, x.ag, w⟩)
    first
      | exact wpAny_bind (wpAny_pure (wpAny_bind fin))
      | exact wpAny_bind fin
  | plain hc hb r ih =>
    obtain ⟨b, e, y, n⟩ := w
    refine wpAny_handleBy_cons (codeAny_handlers_test (x.test hf hc e ?_)) (by intro q; cases q)
    cases b with
    | false => exact ih x (n rfl)
    | true =>
      refine codeAny_handlers_suite (HandSPX.lands_againZ x.fl fun h4 f4 u4 => ?_)
      have x4 := x.again f4 u4
      obtain ⟨oe, hz, hd, _, S⟩ := x4.suite hf
      exact wpAny_mono ((hb a oe cls d _ hz hd).run [] _ _ H _ S (y rfl a x.na)) (fun f s6 z => sp_back ok z) (fun _ _ z => False.elim z)
  | named hc hi hn hb r ih =>
    obtain ⟨b, e, y, n⟩ := w
    refine wpAny_handleBy_cons (codeAny_handlers_test (x.test hf hc e ?_)) (by intro q; cases q)
    cases b with
    | false => exact ih x (n rfl)
    | true =>
      refine codeAny_handlers_suite_as (HandSPX.lands_againZ x.fl fun h4 f4 u4 => ?_)
      have x4 := x.again f4 u4
      obtain ⟨oe, hz, hd, _, S⟩ := x4.suite hf
      refine store_ok (X := X.suite a ((a, oe) :: (X.pn ++ pins))) (v := .ref a) S hN hi (.inl hn) rfl (fun s5 S5 => ?_) (.inr hn)
      exact wpAny_mono ((hb a oe cls d _ hz hd).run [] s5 _ H _ S5 (y rfl a x.na)) (fun f s6 z => sp_gone hN hi hn (sp_back ok z)) (fun _ _ z => False.elim z)
end
section
variable {X : Cx} {body : List Stmt} {hds : List ExceptHandler} {h0 : ExceptHandler} {l : List Clause} {pos : Pos} {tb : WX → TS} {Wout : WX}
theorem ps_tryN (hs : X.stack = X.env :: X.outer) (hf : X.env.frame = some X.env.locals) (hN : X.N.Nodup) (tk : Takes X Wout)
    (hb : ∀ (W : WX) (pn : List (Addr × Obj)) (xe : Value → Shared → Prop), Takes (X.tr pn xe) W → PassesOwn (model X.prog X.w) X.A X.env xe → PSs (X.tr pn xe) body (tb W)) (k : HdN X (h0 :: hds) l) :
    PS X (.Try body (h0 :: hds) [] [] pos) (fun D σ H => tb (wN X.K Wout D l) D σ H) := by
  refine ⟨fun pins s σ H D I h => wpAny_Try_except (wpAny_mono ((hb (wN X.K Wout D l) (X.pn ++ pins) (fun e s1 => wpAny (model X.prog X.w) X.A (noteFrame e X.env) (fun _ s2 => wpAny (model X.prog X.w) X.A (setFlight e none) (fun _ s3 =>
    wpAny (model X.prog X.w) X.A (handleBy e X.env (h0 :: hds)) (SP X pins D) X.xe s3) X.xe s2) X.xe s1) (fun u s' z => ?_) PassesOwn.looking).run [] s σ H D (I.toTry _) h) (fun f s1 z => ?_) fun _ _ z => z)⟩
  · have ok := I.ok
    obtain ⟨a, B, sI, _, σ', H', cls, d, rfl, J, nb, up, sky, na, os, ag, w⟩ := z
    refine Sky.land Zc.steady (by rw [ok.frames, hs]) hf (by rw [← hs]; exact sky) fun h3 f3 u3 => ?_
    exact handleN hs hf hN tk k ⟨J.ofTry ok, nb, up.trans u3, f3, na, os, ag⟩ w
  · have ok := I.ok
    cases f with
    | ret u =>
      obtain ⟨v, σ', H', J, r, q⟩ := z
      exact ⟨v, σ', H', J.ofTry ok, r, q⟩
    | next =>
      obtain ⟨σ', H', J, q⟩ := z
      exact wpAny_execs_nil ⟨σ', H', J.ofTry ok, q⟩
    | brk =>
      obtain ⟨σ', H', J, q⟩ := z
      exact ⟨σ', H', J.ofTry ok, q⟩
    | cont =>
      obtain ⟨σ', H', J, q⟩ := z
      exact ⟨σ', H', J.ofTry ok, q⟩
end
end Ft

/-! Defs that are called where no repr is under way (A.guards = some []): their texts may say repr of a list or a tuple. -/
namespace Ft
open PySem L2 PySem.Spec PyProof.Rows

structure FnG (P : Program) (w : World) (K : PySem.W.Frag) (mg : Str → Option Value) (base : Heap) (k : Nat) (f : Addr) (fd : FuncData) (ps : List Str) (sp : Sp) : Prop where
  len : ∀ vs H Q E, sp vs H Q E → vs.length = ps.length
  go : ∀ (A : Around) (outer : List Env) (s : Shared) (H : Hp) (args : Args) (us : List Value) (vs : List V) (Q : VK) (E : XK), A.guards = some [] → Room k A →
    Env0 P w K mg base A outer s H → BindsTo s fd args (ps.zip us) → Vals vs us → sp vs H Q E → codeAny (model P w) A (.call (.ref f) args) (CR CX0 outer P w H s Q E) s
theorem FnG.of {P : Program} {w : World} {K : PySem.W.Frag} {mg : Str → Option Value} {base : Heap} {k : Nat} {f : Addr} {fd : FuncData} {ps : List Str} {sp : Sp} (F : FnOk P w K mg base CX0 k f fd ps sp) : FnG P w K mg base k f fd ps sp :=
  ⟨F.len, fun A outer s H args us vs Q E _ => F.run A outer s H args us vs Q E⟩
/-- what may be called for, where no repr is under way -/
structure CalG (P : Program) (w : World) (K : PySem.W.Frag) (mg : Str → Option Value) (base : Heap) (k : Nat) (x : Str) (sp : Sp) : Prop where
  ex : ∃ (f : Addr) (fd : FuncData) (ps : List Str), FnG P w K mg base k f fd ps sp ∧ mg x = some (.ref f) ∧ PySem.W.keepIn K (.ref f) = true ∧ Binds K fd ps []
section
variable {X : Cx} {k j : Nat} {x : Str} {sp : Sp} {p pos : Pos} {e : Expr} {es : List Expr} {t : TA}
theorem pe_g (c : CalG X.prog X.w X.K X.mg X.base k x sp) (hgd : X.A.guards = some []) (hr : Room j X.A) (hk : k ≤ j) (hg : Gl X x) (ha : PA X (e :: es) t)
    (hdb : (x == ("__debug__" : Str)) = false := by decide) (he : starEach (e :: es) X.env = (false, eval e X.env) :: starEach es X.env := by rfl) (hpl : (backTo pos (starEach es X.env)).any (·.1) = false := by rfl) :
    PE X (.Call (.Name x p) (e :: es) [] pos) (tCall sp [] E0 t) := by
  obtain ⟨f, fd, ps, F, hm, kp, b⟩ := c.ex
  refine ⟨fun pins s σ H Q I h => wpAny_Call_Name_kw (ld_glob I hg hm ?_ hdb)⟩
  refine PySem.W.callWith_K (h₀ := X.base) I.ok.mod.kin kp (thn (ha.run pos pins s σ H _ I h) fun us s1 ⟨vs, H1, I1, rv, q1⟩ => ⟨I1.kIn, ?_⟩) he hpl
  have rv' : Vals (vs ++ []) us := by rw [List.append_nil]; exact rv
  have hl : us.length = ps.length := by
    have z := F.len _ _ _ _ q1
    rw [rv'.length] at z
    exact z
  have bd := b s1 us I1.kIn (by rw [List.append_nil]; exact hl)
  rw [List.append_nil] at bd
  refine wpAny_call (codeAny_mono (F.go X.A X.stack s1 H1 ⟨us, []⟩ us (vs ++ []) Q E0 hgd (hr.mono hk) I1.env0 bd rv' q1) fun r s2 hq => ?_)
  match r, hq with
  | .error _, hq => exact (hq : False).elim
  | .ok (.ret _), hq => exact I1.after hq
  | .ok .next, hq => exact (hq : False).elim
  | .ok .brk, hq => exact (hq : False).elim
  | .ok .cont, hq => exact (hq : False).elim
end
/-- a def by its body, where no repr is under way -/
theorem fun_g {P : Program} {w : World} {K : PySem.W.Frag} {mg : Str → Option Value} {base : Heap} {x qual : Str} {st : Stmt} {f : Addr} {fd : FuncData} {N ps : List Str} {k : Nat} {sp : Sp} (F : Fun K x qual st f fd) (S : FnScope N ps (defScope st))
    (len : ∀ vs H Q E, sp vs H Q E → vs.length = ps.length)
    (body : ∀ (cdv : Value) (A : Around) (outer : List Env) (s : Shared) (H : Hp) (vs : List V) (Q : VK) (E : XK), (A.deeper (envOfC qual (defScope st) s.heap.objs.size f cdv)).guards = some [] →
      Room k (A.deeper (envOfC qual (defScope st) s.heap.objs.size f cdv)) → sp vs H Q E →
      ∃ t, PSs (cxOf CX0 P w K mg base N qual (defScope st) f cdv A outer s H E).nox (defBody st) t ∧ t { nx := fun _ H' => Q .non H', rt := Q } (start N vs) H) : FnG P w K mg base (k + 1) f fd ps sp := by
  obtain ⟨oc, od, kV, doc, pm, an, cdv, ct, osl, rfl, lk, hcd⟩ := F.ex
  refine ⟨len, fun A outer s H args us vs Q E hgd hr e0 hb rv hsp => ?_⟩
  have inK : K.In s.heap := e0.mod.kin.keeps fun b o e => (e0.bs b o e).1
  have noL : s.heap.NoLimit := e0.mod.nolimit.keeps fun b o e => (e0.bs b o e).1
  have kinds : ∀ y ∈ ps.zip us, (defScope st).names.lookup y.1 = some .local ∨ ((defScope st).names.lookup y.1 = some .cell ∧ ((cellsFrom (s.heap.objs.size + 1) (defScope st).names []).lookup y.1).isSome = true) := by
    intro y hy
    rcases S.par y.1 (List.of_mem_zip hy).1 with q | q
    · exact .inl q
    · exact .inr ⟨q, PySem.W.cellsFrom_some _ _ _ (.inl q)⟩
  refine codeAny_call_function hr.depth (inK _ _ lk) rfl S.co S.gen rfl (PySem.W.codeRec_of inK hcd) (hb _ _ _ _ ?_)
  refine wpAny_newFunctionEnv_cells S.kind kinds fun env he s1 made => ?_
  subst he
  refine ⟨noL.keeps made.toInCall.keep, codeAny_func ?_⟩
  obtain ⟨t, ht, hq⟩ := body cdv A outer s H vs Q E hgd (hr.deeper _) hsp
  have J0 : Inv (cxOf CX0 P w K mg base N qual (defScope st) f cdv A outer s H E) [] (start N vs) H s1 := inv_start S hr.hd e0 (len _ _ _ _ hsp) rv made
  refine wpAny_mono (ht.nox.run [] s1 (start N vs) H _ J0 hq) (fun fl s' hs => ?_) fun _ _ hs => hs
  match fl, hs with
  | .ret u, hs =>
    obtain ⟨v, σ', H', J, rv', q⟩ := hs
    exact ⟨v, H', J.os, J.bare, J.base, J.hok, rv', q⟩
  | .next, hs =>
    obtain ⟨σ', H', J, q⟩ := hs
    exact ⟨V.non, H', J.os, J.bare, J.base, J.hok, rfl, q⟩
  | .brk, hs => exact (hs.choose_spec.choose_spec.2 : False).elim
  | .cont, hs => exact (hs.choose_spec.choose_spec.2 : False).elim
end Ft

/-! The law's call, from a promise that holds where no repr is under way. -/
namespace Ft
open PySem L2 PySem.Spec PyProof.Rows

/-- the heap behind the top, seen with the script tracked (or nothing) -/
theorem call_of {P : Program} {w : World} {K : PySem.W.Frag} {mg mb : Str → Option Value} {k : Nat} {fa a : Addr} {fd : FuncData} {x : Str} {sp : Sp} {s1 : Shared} {vs : List Value} {H : Hp}
    (inK : K.In s1.heap) (hns : s1.heap.Ns mainGlobals mg) (hb : s1.heap.Ns builtinsNs mb) (hbb : ∀ x : Str, x ≠ "__name__" → mb x = bootBuiltins x) (hlim : s1.heap.NoLimit) (hg : s1.gens = #[])
    (ha : s1.heap.get? a = some { cls := .type "list", data := .seq vs.toArray }) (hr : Room k callerA)
    (F : ∀ base : Heap, K.In base → base.Ns mainGlobals mg → FnG P w K mg base k fa fd [x] sp) (hbind : ∀ (s : Shared) (u : Value), BindsTo s fd ⟨[u], []⟩ [(x, u)])
    (hO : Only H) (hp : sp [.ref a] H (fun v _ => v = .bl true) fun _ _ _ => False) (hok : HOk P w H s1.heap) (only : ∀ b, H b ≠ none → b = a) (notK : H a ≠ none → K.lookup a = none) :
    codeAny (model P w) callerA (.call (.ref fa) ⟨[.ref a], []⟩) (fun r s2 => r = .ok (.ret (.bool true)) ∧ OldK s1.heap s2.heap ∧ s2.os = s1.os ∧ AllBare s2.gens) s1 := by
  have below : ∀ {b : Addr} {o : Obj}, s1.heap.get? b = some o → H b = none → (hidT s1.heap H).get? b = some o := fun e n => hidT_get e n
  have dictFree : ∀ {b : Addr} {o : Obj} {es : Array DictEntry} {ep : Nat}, s1.heap.get? b = some o → o.data = .dict es ep → H b = none := by
    intro b o es ep e d
    cases q : H b with
    | none => rfl
    | some z =>
      obtain rfl : b = a := only b (fun n => by rw [n] at q; cases q)
      rw [ha] at e
      cases e
      exact absurd (show Data.seq vs.toArray _ = Data.dict es ep from d) (fun z => by cases z)
  have spaces : ∀ {b : Addr} {m : Str → Option Value}, s1.heap.Ns b m → (hidT s1.heap H).Ns b m := fun {b m} ⟨o, es, ep, e, d, r⟩ => ⟨o, es, ep, below e (dictFree e d), d, r⟩
  have inB : K.In (hidT s1.heap H) := by
    intro b o e
    refine below (inK b o e) ?_
    cases q : H b with
    | none => rfl
    | some z =>
      have nz : H b ≠ none := fun n => by rw [n] at q; cases q
      obtain rfl : b = a := only b nz
      rw [notK nz] at e
      cases e
  have hM : Mod K mg (hidT s1.heap H) := ⟨inB, spaces hns, ⟨mb, spaces hb, hbb⟩, hlim.elim fun mc z => ⟨mc, spaces z.1, z.2⟩⟩
  have noFr : ∀ b ∈ frs ([] : List Env), H b = none := fun b z => absurd (show b ∈ ([] : List Addr) from z) List.not_mem_nil
  have e0 : Env0 P w K mg (hidT s1.heap H) callerA [] s1 H := ⟨rfl, hM, fun b o e => of_hidT e, Nat.le_of_eq (hidT_size _ _), trivial, noFr, hok, .of_eq hg⟩
  refine codeAny_mono ((F _ inB (spaces hns)).go callerA [] s1 H ⟨[.ref a], []⟩ [.ref a] [.ref a] _ _ rfl hr e0 (hbind s1 (.ref a)) (.cons rfl .nil) hp) fun r s2 h => ?_
  match r, h with
  | .error _, h => exact (h : False).elim
  | .ok .next, h => exact (h : False).elim
  | .ok .brk, h => exact (h : False).elim
  | .ok .cont, h => exact (h : False).elim
  | .ok (.ret u), h =>
    obtain ⟨v, H2, os, bare, un, hok2, rv, q⟩ := h
    obtain rfl : v = .bl true := q
    obtain rfl : u = Value.bool true := rv
    refine ⟨rfl, OldK.of_keep fun b o e => ?_, os, bare⟩
    cases q : H b with
    | none => exact un.keep b o e q (fun z => absurd (show b ∈ ([] : List Addr) from z) List.not_mem_nil) List.not_mem_nil
    | some z =>
      rcases hO b with n | ⟨ob, xs, y⟩
      · rw [q] at n; cases n
      · have k1 := (hok b _ y).1
        have k2 := (hok2 b _ (un.frzs b ob _ y)).1
        rw [e] at k1
        cases k1
        exact k2
/-- what k_head leaves, from the law's promise -/
theorem walk_g {l : PySem.W.OpenLaw} {n k : Nat} {q : Program} {loose : List Str} {XP : (Str → Option Value) → Heap → Prop} {YP : World → Heap → Prop} {d : DefRec} {K : Params → PySem.W.Frag} {sp : PySem.W.Frag → Sp} {x : Str}
    (hn : l.most = some n) (hn2 : n ≤ sizeLine) (hdf : d.params.defaults = []) (hr : Room k callerA)
    (hY : ∀ (w : World) (h : Heap), YP w h → (K w.params).In h)
    (F : ∀ (w : World) (mg : Str → Option Value) (fa : Addr) (h : Heap), (K w.params).In h → h.Ns mainGlobals mg → mg d.name = some (.ref fa) →
      ∃ fd : FuncData, (∀ (s : Shared) (u : Value), BindsTo s fd ⟨[u], []⟩ [(x, u)]) ∧
        ∀ base : Heap, (K w.params).In base → base.Ns mainGlobals mg → FnG l.prog w (K w.params) mg base k fa fd [x] (sp (K w.params)))
    (hsp : ∀ (K : PySem.W.Frag) (H : Hp) (a : Addr) (ns : List Int), ns.length ≤ n → SqL K H a (ns.map V.int) → sp K [.ref a] H (fun v _ => v = .bl true) fun _ _ _ => False) :
    PySem.W.WalkO q loose XP YP l.row.toRowW d [] (fun f vs => PySem.call f vs) := by
  refine Att.attach_call hn hdf fun w s0 s1 mg mb fa o pm cd doc a vs ns G Y ho hd hcd hmg hobj hints hlen hg => ?_
  have inK := hY w _ Y
  obtain ⟨fd, hb, hF⟩ := F w mg fa _ inK G.T.g hmg
  have rv := vals_ints hints
  have lv := hints.length
  have main := fun (H : Hp) (hO : Only H) (hS : SqL (K w.params) H a (ns.map V.int)) => call_of (H := H) inK G.T.g G.T.b G.T.builtins G.T.nolimit hg hobj hr hF hb hO (hsp (K w.params) H a ns hlen hS)
  cases hk : (K w.params).lookup a with
  | some ob =>
    have e := inK a ob hk
    rw [hobj] at e
    cases e
    have none_ : ∀ {b : Addr} {z : HO}, (fun _ => none : Hp) b = some z → False := fun z => by cases z
    exact main (fun _ => none) (fun _ => .inl rfl) (.inr ⟨_, vs.toArray, _, hk, rfl, rfl, rfl, by rw [List.size_toArray, lv]; exact Nat.le_trans hlen hn2, by simpa using rv⟩) (fun b z y => (none_ (b := b) y).elim) (fun b z => absurd rfl z) fun z => absurd rfl z
  | none =>
    let ob : Obj := { cls := .type "list", data := .seq vs.toArray }
    have at_a : ∀ {b : Addr}, b = a → (fun b => if b = a then some (HO.frz ob (.lst (ns.map V.int))) else none : Hp) b = some (.frz ob (.lst (ns.map V.int))) := fun h => if_pos h
    have off_a : ∀ {b : Addr}, ¬ b = a → (fun b => if b = a then some (HO.frz ob (.lst (ns.map V.int))) else none : Hp) b = none := fun h => if_neg h
    refine main (fun b => if b = a then some (.frz ob (.lst (ns.map V.int))) else none) (fun b => ?_) (.inl (.inr ⟨ob, at_a rfl⟩)) (fun b u z => ?_) (fun b z => ?_) fun _ => hk
    · exact (Decidable.em (b = a)).elim (fun h => .inr ⟨_, _, at_a h⟩) fun h => .inl (off_a h)
    · by_cases h : b = a
      · have y := (at_a h).symm.trans z
        cases y
        subst h
        exact ⟨hobj, by rw [List.length_map]; exact Nat.le_trans hlen hn2, vs, _, rv, hobj⟩
      · exact absurd ((off_a h).symm.trans z) (fun y => by cases y)
    · exact (Decidable.em (b = a)).elim id fun h => absurd (off_a h) z
end Ft

/-! The law's call where the text makes lambdas: beside the script the tables of code objects are tracked. -/
namespace Ft
open PySem L2 PySem.Spec PyProof.Rows
theorem call_ofT {P : Program} {w : World} {K : PySem.W.Frag} {mg mb : Str → Option Value} {k : Nat} {fa a : Addr} {fd : FuncData} {x : Str} {sp : Sp} {s1 : Shared} {vs : List Value} {H : Hp} {cs : List (Addr × Addr)}
    (inK : K.In s1.heap) (hns : s1.heap.Ns mainGlobals mg) (hb : s1.heap.Ns builtinsNs mb) (hbb : ∀ x : Str, x ≠ "__name__" → mb x = bootBuiltins x) (hlim : s1.heap.NoLimit) (hg : s1.gens = #[])
    (hT : ∀ p ∈ cs, PySem.W.CodeHd s1.heap p.1 p.2 ∧ s1.heap.get? p.2 = some (PySem.W.tabObj #[]))
    (hm : ∃ (bm : Addr) (ob : Obj), mg "__builtins__" = some (.ref bm) ∧ bm ≠ builtinsNs ∧ s1.heap.get? bm = some ob ∧ ob.cls = .type "module" ∧ ob.dict = some builtinsNs ∧ ob.data = .plain)
    (ha : s1.heap.get? a = some { cls := .type "list", data := .seq vs.toArray }) (hr : Room k callerA)
    (F : ∀ base : Heap, K.In base → base.Ns mainGlobals mg → (∀ p ∈ cs, LamX.TabB base mg p.1 p.2) → FnG P w K mg base k fa fd [x] sp) (hbind : ∀ (s : Shared) (u : Value), BindsTo s fd ⟨[u], []⟩ [(x, u)])
    (hH : ∀ p ∈ cs, H p.2 = some (.tbl #[])) (only : ∀ b, H b ≠ none → b = a ∨ ∃ p ∈ cs, p.2 = b) (hz : ∀ z, H a = some z → ∃ ob xs, z = .frz ob (.lst xs)) (notK : H a ≠ none → K.lookup a = none) (tabK : ∀ p ∈ cs, K.lookup p.2 = none)
    (hp : sp [.ref a] H (fun v _ => v = .bl true) fun _ _ _ => False) (hok : HOk P w H s1.heap) :
    codeAny (model P w) callerA (.call (.ref fa) ⟨[.ref a], []⟩) (fun r s2 => r = .ok (.ret (.bool true)) ∧ OldK s1.heap s2.heap ∧ s2.os = s1.os ∧ AllBare s2.gens) s1 := by
  have below : ∀ {b : Addr} {o : Obj}, s1.heap.get? b = some o → H b = none → (hidT s1.heap H).get? b = some o := fun e n => hidT_get e n
  have known : ∀ {b : Addr} {z : HO}, H b = some z → b = a ∨ ∃ p ∈ cs, p.2 = b := fun {b z} q => only b fun n => by rw [n] at q; cases q
  have clear : ∀ {b : Addr} {o : Obj}, s1.heap.get? b = some o → (∀ vs n, o.data ≠ .seq vs n) → o.data ≠ .fields #[] → H b = none := by
    intro b o e n1 n2
    cases q : H b with
    | none => rfl
    | some z =>
      rcases known q with h | ⟨p, hp, h⟩
      · rw [h, ha] at e
        cases e
        exact (n1 _ _ rfl).elim
      · rw [← h, (hT p hp).2] at e
        cases e
        exact (n2 rfl).elim
  have spaces : ∀ {b : Addr} {m : Str → Option Value}, s1.heap.Ns b m → (hidT s1.heap H).Ns b m := fun {b m} ⟨o, es, ep, e, d, r⟩ => ⟨o, es, ep, below e (clear e (fun _ _ z => by rw [d] at z; cases z) fun z => by rw [d] at z; cases z), d, r⟩
  have inB : K.In (hidT s1.heap H) := fun b o e => below (inK b o e) (by
    cases q : H b with
    | none => rfl
    | some z =>
      rcases known q with h | ⟨p, hp, h⟩
      · subst h
        rw [notK fun n => by rw [n] at q; cases q] at e
        cases e
      · rw [← h, tabK p hp] at e
        cases e)
  have hM : Mod K mg (hidT s1.heap H) := ⟨inB, spaces hns, ⟨mb, spaces hb, hbb⟩, hlim.elim fun mc z => ⟨mc, spaces z.1, z.2⟩⟩
  have plainAt : ∀ {b : Addr} {o : Obj}, s1.heap.get? b = some o → o.cls = .type "module" → o.data = .plain → H b = none := fun e _ d => clear e (fun _ _ z => by rw [d] at z; cases z) fun z => by rw [d] at z; cases z
  have tb : ∀ p ∈ cs, LamX.TabB (hidT s1.heap H) mg p.1 p.2 := by
    intro p hp
    obtain ⟨c, t⟩ := hT p hp
    obtain ⟨gO, _, _, gE, gD, _⟩ := hns
    have gP : mainGlobals ≠ p.2 := fun z => by
      rw [z, t] at gE
      cases gE
      cases gD
    refine ⟨?_, ?_, gP⟩
    · obtain ⟨o, us, file, tf, fl, tg, inF, tx, tt, e, h1, h2, h3, hs⟩ := c
      refine ⟨o, us, file, tf, fl, tg, inF, tx, tt, below e (clear e (fun _ _ z => by rw [h2] at z; cases z) fun z => ?_), h1, h2, h3, hs⟩
      rw [h2] at z
      cases z
      simp at h3
    · obtain ⟨bm, ob, b1, b2, b3, b4, b5, b6⟩ := hm
      refine ⟨bm, ob, b1, b2, fun z => ?_, fun z => ?_, below b3 (plainAt b3 b4 b6), b4, b5, b6⟩
      · rw [z, gE] at b3
        cases b3
        rw [gD] at b6
        cases b6
      · rw [z, t] at b3
        cases b3
        cases b6
  have noFr : ∀ b ∈ frs ([] : List Env), H b = none := fun b z => absurd (show b ∈ ([] : List Addr) from z) List.not_mem_nil
  have e0 : Env0 P w K mg (hidT s1.heap H) callerA [] s1 H := ⟨rfl, hM, fun b o e => of_hidT e, Nat.le_of_eq (hidT_size _ _), trivial, noFr, hok, .of_eq hg⟩
  refine codeAny_mono ((F _ inB (spaces hns) tb).go callerA [] s1 H ⟨[.ref a], []⟩ [.ref a] [.ref a] _ _ rfl hr e0 (hbind s1 (.ref a)) (.cons rfl .nil) hp) fun r s2 h => ?_
  match r, h with
  | .error _, h => exact (h : False).elim
  | .ok .next, h => exact (h : False).elim
  | .ok .brk, h => exact (h : False).elim
  | .ok .cont, h => exact (h : False).elim
  | .ok (.ret u), h =>
    obtain ⟨v, H2, os, bare, un, hok2, rv, q⟩ := h
    obtain rfl : v = .bl true := q
    obtain rfl : u = Value.bool true := rv
    have same : ∀ {b : Addr} {o : Obj}, (∀ p ∈ cs, p.2 ≠ b) → s1.heap.get? b = some o → s2.heap.get? b = some o := by
      intro b o nt e
      cases q : H b with
      | none => exact un.keep b o e q (fun z => absurd (show b ∈ ([] : List Addr) from z) List.not_mem_nil) List.not_mem_nil
      | some z =>
        rcases known q with h | ⟨p, hp, h⟩
        · subst h
          obtain ⟨ob, xs, rfl⟩ := hz z q
          have k1 := (hok b _ q).1
          rw [e] at k1
          cases k1
          exact (hok2 b _ (un.frzs b _ _ q)).1
        · exact (nt p hp h).elim
    have grown : ∀ p ∈ cs, ∃ more : Array Value, s2.heap.get? p.2 = some (PySem.W.tabObj more) := fun p hp => by
      obtain ⟨more, z⟩ := un.tbls p.2 #[] (hH p hp)
      exact ⟨_, hok2 p.2 _ z⟩
    refine ⟨rfl, ⟨fun b o e => ?_, fun b o e => ?_⟩, os, bare⟩
    · by_cases t : ∃ p ∈ cs, p.2 = b
      · obtain ⟨p, hp, rfl⟩ := t
        obtain ⟨more, g⟩ := grown p hp
        rw [(hT p hp).2] at e
        cases e
        exact .inr (.inl ⟨((hT p hp).1.tab (hT p hp).2).isCodeTable, rfl, #[], more, rfl, by rw [Array.empty_append]; exact g⟩)
      · exact .inl (same (fun p hp z => t ⟨p, hp, z⟩) e)
    · by_cases t : ∃ p ∈ cs, p.2 = b
      · obtain ⟨p, hp, rfl⟩ := t
        exact (grown p hp).elim fun more g => ⟨_, g⟩
      · exact ⟨o, same (fun p hp z => t ⟨p, hp, z⟩) e⟩
/-- what is known where the law is called: the text's promise and the tables of code objects that it fills -/
def LawT (P : Program) (w : World) (K : PySem.W.Frag) (k n : Nat) (x : Str) (mg : Str → Option Value) (fa : Addr) (h : Heap) : Prop :=
  ∃ (fd : FuncData) (cs : List (Addr × Addr)) (sp : Sp), (∀ p ∈ cs, PySem.W.CodeHd h p.1 p.2 ∧ h.get? p.2 = some (PySem.W.tabObj #[])) ∧ (∀ p ∈ cs, K.lookup p.2 = none) ∧ (∀ (s : Shared) (u : Value), BindsTo s fd ⟨[u], []⟩ [(x, u)]) ∧
    (∀ (H : Hp) (a : Addr) (ns : List Int), ns.length ≤ n → (∀ p ∈ cs, H p.2 = some (.tbl #[])) → SqL K H a (ns.map V.int) → sp [.ref a] H (fun v _ => v = .bl true) fun _ _ _ => False) ∧
    ∀ base : Heap, K.In base → base.Ns mainGlobals mg → (∀ p ∈ cs, LamX.TabB base mg p.1 p.2) → FnG P w K mg base k fa fd [x] sp
theorem walk_gT {l : PySem.W.OpenLaw} {n k : Nat} {q : Program} {loose : List Str} {XP : (Str → Option Value) → Heap → Prop} {YP : World → Heap → Prop} {d : DefRec} {K : Params → PySem.W.Frag} {x : Str}
    (hn : l.most = some n) (hn2 : n ≤ sizeLine) (hdf : d.params.defaults = []) (hr : Room k callerA) (hY : ∀ (w : World) (h : Heap), YP w h → (K w.params).In h)
    (F : ∀ (w : World) (s0 : Shared) (mg mb : Str → Option Value) (fa : Addr) (h : Heap), YP w h → (K w.params).In h → PySem.W.Ground q loose [] XP w s0 mg mb h → mg d.name = some (.ref fa) → LawT l.prog w (K w.params) k n x mg fa h) :
    PySem.W.WalkO q loose XP YP l.row.toRowW d [] (fun f vs => PySem.call f vs) := by
  refine Att.attach_call hn hdf fun w s0 s1 mg mb fa o pm cd doc a vs ns G Y ho hd hcd hmg hobj hints hlen hg => ?_
  have inK := hY w _ Y
  obtain ⟨fd, cs, sp, hT, nT, hb, hsp, hF⟩ := F w s0 mg mb fa _ Y inK G hmg
  have rv := vals_ints hints
  have lv := hints.length
  have notT : ∀ p ∈ cs, p.2 ≠ a := fun p hp z => by
    have e := (hT p hp).2
    rw [z, hobj] at e
    cases e
  have main := fun (H : Hp) (hS : SqL (K w.params) H a (ns.map V.int)) (hH : ∀ p ∈ cs, H p.2 = some (.tbl #[])) => call_ofT (H := H) inK G.T.g G.T.b G.T.builtins G.T.nolimit hg hT G.T.bmain hobj hr hF hb hH
  let T : Hp := fun b => if ∃ p ∈ cs, p.2 = b then some (.tbl #[]) else none
  have inT : ∀ p ∈ cs, T p.2 = some (.tbl #[]) := fun p hp => if_pos ⟨p, hp, rfl⟩
  have offT : ∀ {b : Addr}, T b ≠ none → ∃ p ∈ cs, p.2 = b := fun {b} z => Classical.byContradiction fun n => z (if_neg n)
  have okT : ∀ {b : Addr} {z : HO} {H : Hp}, T b = some z → ObjOk l.prog w H s1.heap b z := fun {b z H} e => by
    obtain ⟨p, hp, rfl⟩ := offT fun n => by rw [n] at e; cases e
    rw [inT p hp] at e
    cases e
    exact (hT p hp).2
  have aT : T a = none := if_neg fun ⟨p, hp, z⟩ => notT p hp z
  cases hk : (K w.params).lookup a with
  | some ob =>
    have e := inK a ob hk
    rw [hobj] at e
    cases e
    have sq : SqL (K w.params) T a (ns.map V.int) := .inr ⟨_, vs.toArray, _, hk, rfl, rfl, rfl, by rw [List.size_toArray, lv]; exact Nat.le_trans hlen hn2, by simpa using rv⟩
    exact main T sq inT (fun b z => .inr (offT z)) (fun z e => by rw [aT] at e; cases e) (fun z => absurd aT z) nT (hsp T a ns hlen inT sq) fun b z e => okT e
  | none =>
    let ob : Obj := { cls := .type "list", data := .seq vs.toArray }
    have eA : upd T a (.frz ob (.lst (ns.map V.int))) a = some (.frz ob (.lst (ns.map V.int))) := upd_same
    have hH : ∀ p ∈ cs, upd T a (.frz ob (.lst (ns.map V.int))) p.2 = some (.tbl #[]) := fun p hp => by rw [upd_ne (notT p hp)]; exact inT p hp
    have sq : SqL (K w.params) (upd T a (.frz ob (.lst (ns.map V.int)))) a (ns.map V.int) := .inl (.inr ⟨ob, eA⟩)
    refine main _ sq hH (fun b z => ?_) (fun z e => ?_) (fun _ => hk) nT (hsp _ a ns hlen hH sq) fun b z e => ?_
    · by_cases h : b = a
      · exact .inl h
      · rw [upd_ne h] at z
        exact .inr (offT z)
    · rw [eA] at e
      cases e
      exact ⟨_, _, rfl⟩
    · by_cases h : b = a
      · subst h
        rw [eA] at e
        cases e
        exact ⟨hobj, by rw [List.length_map]; exact Nat.le_trans hlen hn2, vs, _, rv, hobj⟩
      · rw [upd_ne h] at e
        exact okT e
/-- a def of the top whose code object is told -/
structure DfC (K : PySem.W.Frag) (mg : Str → Option Value) (x : Str) (st : Stmt) (ps : List Str) (c : Addr) : Prop where
  ex : ∃ (f : Addr) (fd : FuncData), Fun K x x st f fd ∧ mg x = some (.ref f) ∧ Binds K fd ps [] ∧ fd.code = .ref c
/-- a def by its body, its code object told -/
theorem fun_gC {P : Program} {w : World} {K : PySem.W.Frag} {mg : Str → Option Value} {base : Heap} {x qual : Str} {st : Stmt} {f : Addr} {fd : FuncData} {N ps : List Str} {k : Nat} {sp : Sp} (F : Fun K x qual st f fd) (S : FnScope N ps (defScope st))
    (len : ∀ vs H Q E, sp vs H Q E → vs.length = ps.length)
    (body : ∀ (cdv : Value), fd.code = cdv → ∀ (A : Around) (outer : List Env) (s : Shared) (H : Hp) (vs : List V) (Q : VK) (E : XK), (A.deeper (envOfC qual (defScope st) s.heap.objs.size f cdv)).guards = some [] →
      Room k (A.deeper (envOfC qual (defScope st) s.heap.objs.size f cdv)) → sp vs H Q E →
      ∃ t, PSs (cxOf CX0 P w K mg base N qual (defScope st) f cdv A outer s H E).nox (defBody st) t ∧ t { nx := fun _ H' => Q .non H', rt := Q } (start N vs) H) : FnG P w K mg base (k + 1) f fd ps sp := by
  obtain ⟨oc, od, kV, doc, pm, an, cdv, ct, osl, rfl, lk, hcd⟩ := F.ex
  refine ⟨len, fun A outer s H args us vs Q E hgd hr e0 hb rv hsp => ?_⟩
  have inK : K.In s.heap := e0.mod.kin.keeps fun b o e => (e0.bs b o e).1
  have noL : s.heap.NoLimit := e0.mod.nolimit.keeps fun b o e => (e0.bs b o e).1
  have kinds : ∀ y ∈ ps.zip us, (defScope st).names.lookup y.1 = some .local ∨ ((defScope st).names.lookup y.1 = some .cell ∧ ((cellsFrom (s.heap.objs.size + 1) (defScope st).names []).lookup y.1).isSome = true) := by
    intro y hy
    rcases S.par y.1 (List.of_mem_zip hy).1 with q | q
    · exact .inl q
    · exact .inr ⟨q, PySem.W.cellsFrom_some _ _ _ (.inl q)⟩
  refine codeAny_call_function hr.depth (inK _ _ lk) rfl S.co S.gen rfl (PySem.W.codeRec_of inK hcd) (hb _ _ _ _ ?_)
  refine wpAny_newFunctionEnv_cells S.kind kinds fun env he s1 made => ?_
  subst he
  refine ⟨noL.keeps made.toInCall.keep, codeAny_func ?_⟩
  obtain ⟨t, ht, hq⟩ := body cdv rfl A outer s H vs Q E hgd (hr.deeper _) hsp
  have J0 : Inv (cxOf CX0 P w K mg base N qual (defScope st) f cdv A outer s H E) [] (start N vs) H s1 := inv_start S hr.hd e0 (len _ _ _ _ hsp) rv made
  refine wpAny_mono (ht.nox.run [] s1 (start N vs) H _ J0 hq) (fun fl s' hs => ?_) fun _ _ hs => hs
  match fl, hs with
  | .ret u, hs =>
    obtain ⟨v, σ', H', J, rv', q⟩ := hs
    exact ⟨v, H', J.os, J.bare, J.base, J.hok, rv', q⟩
  | .next, hs =>
    obtain ⟨σ', H', J, q⟩ := hs
    exact ⟨V.non, H', J.os, J.bare, J.base, J.hok, rfl, q⟩
  | .brk, hs => exact (hs.choose_spec.choose_spec.2 : False).elim
  | .cont, hs => exact (hs.choose_spec.choose_spec.2 : False).elim
end Ft

namespace Ft
open PySem L2
def top (i : Nat) : Stmt := PySem.Challenge.pw_firstterms_k41_any_value_as_a_form.main.body.getD i (.Pass ⟨0, 0, 0, 0⟩)
abbrev s_is_integer : Stmt := top 5
abbrev N_is_integer : List Str := ["thing"]
theorem sc_is_integer : FnScope N_is_integer ["thing"] (defScope s_is_integer) := ⟨rfl, rfl, rfl, by decide +kernel, rfl, by decide +kernel, by decide +kernel⟩
abbrev s_is_between : Stmt := top 6
abbrev N_is_between : List Str := ["thing", "least", "most"]
theorem sc_is_between : FnScope N_is_between ["thing", "least", "most"] (defScope s_is_between) := ⟨rfl, rfl, rfl, by decide +kernel, rfl, by decide +kernel, by decide +kernel⟩
abbrev s_is_table_of_integers : Stmt := top 8
abbrev N_is_table_of_integers : List Str := ["thing", "many", "row", "entry"]
theorem sc_is_table_of_integers : FnScope N_is_table_of_integers ["thing", "many"] (defScope s_is_table_of_integers) := ⟨rfl, rfl, rfl, by decide +kernel, rfl, by decide +kernel, by decide +kernel⟩
abbrev s_reduced : Stmt := top 9
abbrev N_reduced : List Str := ["rows", "many", "row", "table", "last", "columns", "k", "done", "at", "entry", "pivot", "i"]
theorem sc_reduced : FnScope N_reduced ["rows", "many"] (defScope s_reduced) := ⟨rfl, rfl, rfl, by decide +kernel, rfl, by decide +kernel, by decide +kernel⟩
abbrev s_cleared : Stmt := top 10
abbrev N_cleared : List Str := ["rows", "many", "table", "columns"]
theorem sc_cleared : FnScope N_cleared ["rows", "many"] (defScope s_cleared) := ⟨rfl, rfl, rfl, by decide +kernel, rfl, by decide +kernel, by decide +kernel⟩
abbrev s_first_row_with : Stmt := top 11
abbrev N_first_row_with : List Str := ["table", "k", "least", "i"]
theorem sc_first_row_with : FnScope N_first_row_with ["table", "k", "least"] (defScope s_first_row_with) := ⟨rfl, rfl, rfl, by decide +kernel, rfl, by decide +kernel, by decide +kernel⟩
abbrev s_without : Stmt := top 12
abbrev N_without : List Str := ["row", "pivot", "k", "last", "entry", "other"]
theorem sc_without : FnScope N_without ["row", "pivot", "k", "last"] (defScope s_without) := ⟨rfl, rfl, rfl, by decide +kernel, rfl, by decide +kernel, by decide +kernel⟩
abbrev s_determinant : Stmt := top 13
abbrev N_determinant : List Str := ["rows", "table"]
theorem sc_determinant : FnScope N_determinant ["rows"] (defScope s_determinant) := ⟨rfl, rfl, rfl, by decide +kernel, rfl, by decide +kernel, by decide +kernel⟩
abbrev s_stair : Stmt := top 14
abbrev N_stair : List Str := ["rows", "row", "rest", "done", "last", "k", "pivot"]
theorem sc_stair : FnScope N_stair ["rows"] (defScope s_stair) := ⟨rfl, rfl, rfl, by decide +kernel, rfl, by decide +kernel, by decide +kernel⟩
abbrev s_is_form : Stmt := top 17
abbrev N_is_form : List Str := ["thing"]
theorem sc_is_form : FnScope N_is_form ["thing"] (defScope s_is_form) := ⟨rfl, rfl, rfl, by decide +kernel, rfl, by decide +kernel, by decide +kernel⟩
abbrev s_is_small_and_even : Stmt := top 18
abbrev N_is_small_and_even : List Str := ["table", "m", "row", "entry", "i", "j"]
theorem sc_is_small_and_even : FnScope N_is_small_and_even ["table"] (defScope s_is_small_and_even) := ⟨rfl, rfl, rfl, by decide +kernel, rfl, by decide +kernel, by decide +kernel⟩
abbrev s_check_form : Stmt := top 19
abbrev N_check_form : List Str := ["form"]
theorem sc_check_form : FnScope N_check_form ["form"] (defScope s_check_form) := ⟨rfl, rfl, rfl, by decide +kernel, rfl, by decide +kernel, by decide +kernel⟩
abbrev s_value_at : Stmt := top 20
abbrev N_value_at : List Str := ["form", "x", "m", "unknown", "i", "j"]
theorem sc_value_at : FnScope N_value_at ["form", "x"] (defScope s_value_at) := ⟨rfl, rfl, rfl, by decide +kernel, rfl, by decide +kernel, by decide +kernel⟩
abbrev s_determinant_of : Stmt := top 21
abbrev N_determinant_of : List Str := ["form"]
theorem sc_determinant_of : FnScope N_determinant_of ["form"] (defScope s_determinant_of) := ⟨rfl, rfl, rfl, by decide +kernel, rfl, by decide +kernel, by decide +kernel⟩
abbrev s__law_deck : Stmt := top 23
abbrev N__law_deck : List Str := ["_law_script", "_law_mixed", "_law_cell"]
theorem sc__law_deck : FnScope N__law_deck ["_law_script"] (defScope s__law_deck) := ⟨rfl, rfl, rfl, by decide +kernel, rfl, by decide +kernel, by decide +kernel⟩
abbrev s__law_draw : Stmt := top 24
abbrev N__law_draw : List Str := ["_law_deck_here", "_law_below", "_law_figure", "_law_cell"]
theorem sc__law_draw : FnScope N__law_draw ["_law_deck_here", "_law_below"] (defScope s__law_draw) := ⟨rfl, rfl, rfl, by decide +kernel, rfl, by decide +kernel, by decide +kernel⟩
abbrev s__law_pick : Stmt := top 25
abbrev N__law_pick : List Str := ["_law_deck_here", "_law_some"]
theorem sc__law_pick : FnScope N__law_pick ["_law_deck_here", "_law_some"] (defScope s__law_pick) := ⟨rfl, rfl, rfl, by decide +kernel, rfl, by decide +kernel, by decide +kernel⟩
abbrev s__law_order : Stmt := top 26
abbrev N__law_order : List Str := ["_law_deck_here", "_law_n", "_law_left", "_law_found", "_law_go"]
theorem sc__law_order : FnScope N__law_order ["_law_deck_here", "_law_n"] (defScope s__law_order) := ⟨rfl, rfl, rfl, by decide +kernel, rfl, by decide +kernel, by decide +kernel⟩
abbrev s__law_is_integer : Stmt := top 27
abbrev N__law_is_integer : List Str := ["_law_thing"]
theorem sc__law_is_integer : FnScope N__law_is_integer ["_law_thing"] (defScope s__law_is_integer) := ⟨rfl, rfl, rfl, by decide +kernel, rfl, by decide +kernel, by decide +kernel⟩
abbrev s__law_are_integers : Stmt := top 28
abbrev N__law_are_integers : List Str := ["_law_thing", "_law_many", "_law_x"]
theorem sc__law_are_integers : FnScope N__law_are_integers ["_law_thing", "_law_many"] (defScope s__law_are_integers) := ⟨rfl, rfl, rfl, by decide +kernel, rfl, by decide +kernel, by decide +kernel⟩
abbrev s__law_minors : Stmt := top 29
abbrev N__law_minors : List Str := ["_law_table", "_law_row", "_law_rows", "_law_last", "_law_found", "_law_top", "_law_rest", "_law_x", "_law_y"]
theorem sc__law_minors : FnScope N__law_minors ["_law_table"] (defScope s__law_minors) := ⟨rfl, rfl, rfl, by decide +kernel, rfl, by decide +kernel, by decide +kernel⟩
abbrev s__law_is_form : Stmt := top 30
abbrev N__law_is_form : List Str := ["_law_thing", "_law_m", "_law_row", "_law_i", "_law_j", "_law_x"]
theorem sc__law_is_form : FnScope N__law_is_form ["_law_thing"] (defScope s__law_is_form) := ⟨rfl, rfl, rfl, by decide +kernel, rfl, by decide +kernel, by decide +kernel⟩
abbrev s__law_value : Stmt := top 31
abbrev N__law_value : List Str := ["_law_form", "_law_x", "_law_entry", "_law_z", "_law_y", "_law_row"]
theorem sc__law_value : FnScope N__law_value ["_law_form", "_law_x"] (defScope s__law_value) := ⟨rfl, rfl, rfl, by decide +kernel, rfl, by decide +kernel, by decide +kernel⟩
abbrev s__law_beside : Stmt := top 32
abbrev N__law_beside : List Str := ["_law_one", "_law_other_here", "_law_m", "_law_n", "_law_row"]
theorem sc__law_beside : FnScope N__law_beside ["_law_one", "_law_other_here"] (defScope s__law_beside) := ⟨rfl, rfl, rfl, by decide +kernel, rfl, by decide +kernel, by decide +kernel⟩
abbrev s__law_changed : Stmt := top 33
abbrev N__law_changed : List Str := ["_law_form", "_law_table", "_law_m", "_law_row", "_law_j", "_law_columns", "_law_entry", "_law_x", "_law_column", "_law_images", "_law_y", "_law_image"]
theorem sc__law_changed : FnScope N__law_changed ["_law_form", "_law_table"] (defScope s__law_changed) := ⟨rfl, rfl, rfl, by decide +kernel, rfl, by decide +kernel, by decide +kernel⟩
abbrev s__law_unimodular : Stmt := top 34
abbrev N__law_unimodular : List Str := ["_law_deck_here", "_law_m", "_law_many", "_law_order_here", "_law_j", "_law_i", "_law_rows", "_law_go", "_law_sign", "_law_x", "_law_y", "_law_row"]
theorem sc__law_unimodular : FnScope N__law_unimodular ["_law_deck_here", "_law_m", "_law_many"] (defScope s__law_unimodular) := ⟨rfl, rfl, rfl, by decide +kernel, rfl, by decide +kernel, by decide +kernel⟩
abbrev s__law_two : Stmt := top 35
abbrev N__law_two : List Str := ["_law_deck_here", "_law_most", "_law_a", "_law_b", "_law_c"]
theorem sc__law_two : FnScope N__law_two ["_law_deck_here", "_law_most"] (defScope s__law_two) := ⟨rfl, rfl, rfl, by decide +kernel, rfl, by decide +kernel, by decide +kernel⟩
abbrev s__law_named_forms : Stmt := top 36
abbrev N__law_named_forms : List Str := ["_law_found", "_law_m", "_law_ties", "_law_words", "_law_j", "_law_i"]
theorem sc__law_named_forms : FnScope N__law_named_forms [] (defScope s__law_named_forms) := ⟨rfl, rfl, rfl, by decide +kernel, rfl, by decide +kernel, by decide +kernel⟩
abbrev s__law_bent : Stmt := top 37
abbrev N__law_bent : List Str := ["_law_deck_here", "_law_thing", "_law_depth", "_law_at", "_law_way", "_law_some", "_law_odd"]
theorem sc__law_bent : FnScope N__law_bent ["_law_deck_here", "_law_thing", "_law_depth"] (defScope s__law_bent) := ⟨rfl, rfl, rfl, by decide +kernel, rfl, by decide +kernel, by decide +kernel⟩
abbrev s__law_turned_form : Stmt := top 38
abbrev N__law_turned_form : List Str := ["_law_deck_here", "_law_form", "_law_many", "_law_one", "_law_other_here", "_law_found", "_law_row"]
theorem sc__law_turned_form : FnScope N__law_turned_form ["_law_deck_here", "_law_form", "_law_many"] (defScope s__law_turned_form) := ⟨rfl, rfl, rfl, by decide +kernel, rfl, by decide +kernel, by decide +kernel⟩
abbrev s__law_any_form : Stmt := top 39
abbrev N__law_any_form : List Str := ["_law_deck_here", "_law_way", "_law_some", "_law_found", "_law_t", "_law_x", "_law_row"]
theorem sc__law_any_form : FnScope N__law_any_form ["_law_deck_here"] (defScope s__law_any_form) := ⟨rfl, rfl, rfl, by decide +kernel, rfl, by decide +kernel, by decide +kernel⟩
abbrev s__law_other : Stmt := top 40
abbrev N__law_other : List Str := ["_law_deck_here", "_law_form", "_law_m", "_law_way", "_law_i", "_law_j", "_law_entry", "_law_both", "_law_b", "_law_x", "_law_a", "_law_row", "_law_at", "_law_less", "_law_bad"]
theorem sc__law_other : FnScope N__law_other ["_law_deck_here", "_law_form"] (defScope s__law_other) := ⟨rfl, rfl, rfl, by decide +kernel, rfl, by decide +kernel, by decide +kernel⟩
abbrev s__law_unknowns : Stmt := top 41
abbrev N__law_unknowns : List Str := ["_law_deck_here", "_law_m", "_law_go", "_law_x", "_law_way", "_law_y"]
theorem sc__law_unknowns : FnScope N__law_unknowns ["_law_deck_here", "_law_m"] (defScope s__law_unknowns) := ⟨rfl, rfl, rfl, by decide +kernel, rfl, by decide +kernel, by decide +kernel⟩
abbrev s__law_told : Stmt := top 42
abbrev N__law_told : List Str := ["_law_call", "_law_found"]
theorem sc__law_told : FnScope N__law_told ["_law_call"] (defScope s__law_told) := ⟨rfl, rfl, rfl, by decide +kernel, rfl, by decide +kernel, by decide +kernel⟩
abbrev s__law_is_value_told : Stmt := top 43
abbrev N__law_is_value_told : List Str := ["_law_form", "_law_x", "_law_value_here", "_law_y"]
theorem sc__law_is_value_told : FnScope N__law_is_value_told ["_law_form", "_law_x"] (defScope s__law_is_value_told) := ⟨rfl, rfl, rfl, by decide +kernel, rfl, by decide +kernel, by decide +kernel⟩
abbrev s_law : Stmt := top 44
abbrev N_law : List Str := ["_law_script", "_law_deck_here", "_law_go", "_law_form", "_law_thing", "_law_x", "_law_is_right", "_law_due", "_law_det"]
theorem sc_law : FnScope N_law ["_law_script"] (defScope s_law) := ⟨rfl, rfl, rfl, by decide +kernel, rfl, by decide +kernel, by decide +kernel⟩
end Ft

namespace Ft
open PySem L2

/-! ### the mirror of the program's defs -/
def valueTwo (s : Int) : Int := if s % 2 = 0 then 0 else if s % 8 = 1 then 1 else -1
/-- a sign as an int: true is 1 -/
def sg (v : Bool) : Int := if v = true then 1 else -1
def halve (b : Nat) : Nat → Nat → Bool → Nat × Bool
  | 0, t, v => (t, v)
  | f + 1, t, v => if t % 2 = 0 then halve b f (t / 2) (if b % 8 = 3 ∨ b % 8 = 5 then !v else v) else (t, v)
def jac : Nat → Nat → Nat → Bool → Nat × Bool
  | 0, _, b, v => (b, v)
  | f + 1, t, b, v => if t = 0 then (b, v) else
    let r := halve b t t v
    jac f (b % r.1) r.1 (if r.1 % 4 = 3 ∧ b % 4 = 3 then !r.2 else r.2)
def valueOdd (top : Int) (b : Nat) : Int :=
  let r := jac b (top % (b : Int)).toNat b true
  if r.1 = 1 then sg r.2 else 0
def twos (z : Int) : Nat → Nat → Int → Nat × Int
  | 0, r, v => (r, v)
  | f + 1, r, v => if r % 2 = 0 then twos z f (r / 2) (v * z) else (r, v)
def valueRest (s : Int) (r : Nat) : Int :=
  if r = 0 then (if s = 1 then 1 else 0) else
    let q := twos (valueTwo s) r r 1
    q.2 * valueOdd s q.1
def valueAt (s n : Int) : Int := valueRest s (n % (s.natAbs : Int)).toNat
def sqs (p : Nat) : Nat → Nat → Nat
  | 0, r => r
  | f + 1, r => if r % (p * p) = 0 then sqs p f (r / (p * p)) else r
def wsq : Nat → Nat → Int → Nat → Nat × Int
  | 0, r, b, _ => (r, b)
  | f + 1, r, b, p => if p * p * p ≤ r then
      let r1 := sqs p r r
      if r1 % p = 0 then wsq f (r1 / p) (b * p) (p + 1) else wsq f r1 b (p + 1)
    else (r, b)
def without (m : Int) : Int :=
  let q := wsq m.natAbs m.natAbs (if 0 < m then 1 else -1) 2
  if Float64.isqrt q.1 * Float64.isqrt q.1 = q.1 then q.2 else q.2 * q.1
def anySign (m : Int) : Int := if without m % 4 = 1 then without m else 4 * without m
def isSign (n : Int) : Bool := decide (-400 ≤ n) && (decide (n ≤ 400) && (decide (n ≠ 0) && decide (anySign n = n)))

/-! ### promises -/
def sp1 (C : Int → Prop) (g : Int → V) : Sp := fun vs H Q _ => ∃ n, vs = [.int n] ∧ C n ∧ Q (g n) H
def sp2 (C : Int → Int → Prop) (g : Int → Int → V) : Sp := fun vs H Q _ => ∃ m n, vs = [.int m, .int n] ∧ C m n ∧ Q (g m n) H
def sp3 (C : Int → Int → Int → Prop) (g : Int → Int → Int → V) : Sp := fun vs H Q _ => ∃ l m n, vs = [.int l, .int m, .int n] ∧ C l m n ∧ Q (g l m n) H
theorem sp1_len {C g} : ∀ vs H Q E, sp1 C g vs H Q E → vs.length = 1 := fun _ _ _ _ ⟨_, e, _⟩ => by rw [e]; rfl
theorem sp2_len {C g} : ∀ vs H Q E, sp2 C g vs H Q E → vs.length = 2 := fun _ _ _ _ ⟨_, _, e, _⟩ => by rw [e]; rfl
theorem sp3_len {C g} : ∀ vs H Q E, sp3 C g vs H Q E → vs.length = 3 := fun _ _ _ _ ⟨_, _, _, e, _⟩ => by rw [e]; rfl
def sp_is_integer : Sp := sp1 (fun _ => True) fun _ => .bl true
def sp_is_between : Sp := sp3 (fun _ _ _ => True) fun n a b => .bl (decide (a ≤ n) && decide (n ≤ b))
def sp_check_integer : Sp := sp1 (fun _ => True) fun _ => .non
def sp_is_sign : Sp := sp1 (fun _ => True) fun n => .bl (isSign n)
def sp_check_sign : Sp := sp1 (fun n => isSign n = true) fun _ => .non
def sp_value_at_two : Sp := sp1 (fun _ => True) fun n => .int (valueTwo n)
def sp_value_at_odd : Sp := sp2 (fun _ b => 0 < b) fun t b => .int (valueOdd t b.toNat)
def sp_value_at : Sp := sp2 (fun s _ => s ≠ 0) fun s n => .int (valueAt s n)
def sp_sign_at : Sp := sp2 (fun s _ => isSign s = true) fun s n => .int (valueAt s n)
def sp_without_squares : Sp := sp1 (fun m => m ≠ 0 ∧ m.natAbs ≤ 160000) fun m => .int (without m)
def sp_any_sign_of : Sp := sp1 (fun m => m ≠ 0 ∧ m.natAbs ≤ 160000) fun m => .int (anySign m)
def sp_joined_sign : Sp := sp2 (fun a b => isSign a = true ∧ isSign b = true) fun a b => .int (anySign (a * b))

section
variable {P : Program} {w : World} {K : PySem.W.Frag} {mg : Str → Option Value} {base : Heap}
theorem ok_is_integer (D : Df K mg "is_integer" s_is_integer ["thing"]) (B : Bi mg)  : Cal P w K mg base 1 "is_integer" sp_is_integer := by
  obtain ⟨f, fd, F, m, b⟩ := D.ex
  have sc := sc_is_integer
  refine ⟨f, fd, _, F.ok sc sp1_len (fun cdv A outer s H vs Q E hr h => ?_), m, F.kp, b⟩
  obtain ⟨n, rfl, _, q⟩ := h
  have hu := hu_of hr
  refine ⟨_, (pss_one (ps_ret (pe_and (pe_callB call_isi (by rfl) B.isinstance (by decide +kernel) (pa_cons (pv 0) (pa_cons (pe_ty (n := "int") (by rfl) B.int_ (by decide +kernel)) pa_nil))) (pe_one (pe_not (pe_callB call_isi (by rfl) B.isinstance (by decide +kernel) (pa_cons (pv 0) (pa_cons (pe_ty (n := "bool") (by rfl) B.bool (by decide +kernel)) pa_nil)))))))), ?_⟩
  refine ⟨_, rfl, _, _, _, _, true, rfl, .ty _, .base (.int n), kit_int_int, true, rfl, iteT ?_⟩
  refine ⟨_, rfl, _, _, _, _, false, rfl, .ty _, .base (.int n), kit_int_bool, false, rfl, ?_⟩
  exact q
theorem ok_is_between (D : Df K mg "is_between" s_is_between ["thing", "least", "most"]) (c_is_integer : Cal P w K mg base 1 "is_integer" sp_is_integer) : Cal P w K mg base 2 "is_between" sp_is_between := by
  obtain ⟨f, fd, F, m, b⟩ := D.ex
  have sc := sc_is_between
  refine ⟨f, fd, _, F.ok sc sp3_len (fun cdv A outer s H vs Q E hr h => ?_), m, F.kp, b⟩
  obtain ⟨n, lo, hi, rfl, _, q⟩ := h
  have hu := hu_of hr
  refine ⟨_, (pss_one (ps_ret (pe_and (pe_c c_is_integer hr (by decide) (by rfl) (pa_cons (pv 0) pa_nil)) (pe_one (pe_chain op_le op_le (pv 1) (pv 0) (pv 2)))))), ?_⟩
  refine ⟨_, rfl, n, rfl, trivial, true, rfl, iteT ?_⟩
  refine ⟨_, rfl, _, rfl, lo, n, rfl, rfl, _, rfl, ?_⟩
  refine ifD (fun h => ?_) fun h => ?_
  · refine ⟨_, rfl, n, hi, rfl, rfl, ?_⟩
    simp only [decide_eq_true h, Bool.true_and] at q
    exact q
  · simp only [decide_eq_false h, Bool.false_and] at q
    exact q
end
end Ft

namespace Ft
open PySem L2
theorem sg_not (v : Bool) : -(sg v) = sg (!v) := by cases v <;> decide
theorem sg_true : sg true = 1 := by decide
/-- the int in slot i, as a measure -/
def m0 (i : Nat) (σ : L2.St) : Nat := match σ[i]? with
  | some (some (.int z)) => z.toNat
  | _ => 0
theorem st3 {a b c a' b' c' : Int} (h1 : a = a') (h2 : b = b') (h3 : c = c') : [some (V.int a), some (V.int b), some (V.int c)] = [some (V.int a'), some (V.int b'), some (V.int c')] := by rw [h1, h2, h3]
theorem halve_go {b f t : Nat} {v : Bool} (h : t % 2 = 0) : halve b (f + 1) t v = halve b f (t / 2) (if b % 8 = 3 ∨ b % 8 = 5 then !v else v) := by
  show (if t % 2 = 0 then _ else _) = _
  rw [if_pos h]
theorem halve_stop {b f t : Nat} {v : Bool} (h : ¬ t % 2 = 0) : halve b f t v = (t, v) := by
  cases f with
  | zero => rfl
  | succ f => show (if t % 2 = 0 then _ else _) = _; rw [if_neg h]
theorem jac_stop {b f : Nat} {v : Bool} : jac f 0 b v = (b, v) := by
  cases f with
  | zero => rfl
  | succ f => show (if (0:Nat) = 0 then _ else _) = _; rw [if_pos rfl]
theorem jac_go {b f t t' : Nat} {v v' : Bool} (h : t ≠ 0) (e : halve b t t v = (t', v')) : jac (f + 1) t b v = jac f (b % t') t' (if t' % 4 = 3 ∧ b % 4 = 3 then !v' else v') := by
  show (if t = 0 then _ else _) = _
  rw [if_neg h]
  dsimp only
  rw [e]

section
variable {P : Program} {w : World} {K : PySem.W.Frag} {mg : Str → Option Value} {base : Heap}
end
end Ft

namespace Ft
open PySem L2
theorem st4 {a b c d a' b' c' d' : Int} (h1 : a = a') (h2 : b = b') (h3 : c = c') (h4 : d = d') : [some (V.int a), some (V.int b), some (V.int c), some (V.int d)] = [some (V.int a'), some (V.int b'), some (V.int c'), some (V.int d')] := by rw [h1, h2, h3, h4]
theorem cdivN {i : Int} {n : Nat} (h0 : 0 < n) (h : n < 2 ^ 64) : CDivW i (n : Int) := wide_div (b := 64) (by omega) (by omega) (by decide) (by decide)
theorem cmulL {i : Int} {n : Nat} (h : n < 2 ^ 64) : CMul (n : Int) i := .inl ⟨by omega, by omega⟩
theorem cmulR {i : Int} {n : Nat} (h : n < 2 ^ 64) : CMul i (n : Int) := .inr ⟨by omega, by omega⟩
theorem twos_go {z : Int} {f r : Nat} {v : Int} (h : r % 2 = 0) : twos z (f + 1) r v = twos z f (r / 2) (v * z) := by
  show (if r % 2 = 0 then _ else _) = _
  rw [if_pos h]
theorem twos_stop {z : Int} {f r : Nat} {v : Int} (h : ¬ r % 2 = 0) : twos z f r v = (r, v) := by
  cases f with
  | zero => rfl
  | succ f => show (if r % 2 = 0 then _ else _) = _; rw [if_neg h]
theorem valueTwo_le (s : Int) : -1 ≤ valueTwo s ∧ valueTwo s ≤ 1 := by
  unfold valueTwo
  split
  · omega
  · split <;> omega
theorem sqs_go {p f r : Nat} (h : r % (p * p) = 0) : sqs p (f + 1) r = sqs p f (r / (p * p)) := by
  show (if r % (p * p) = 0 then _ else _) = _
  rw [if_pos h]
theorem sqs_stop {p f r : Nat} (h : ¬ r % (p * p) = 0) : sqs p f r = r := by
  cases f with
  | zero => rfl
  | succ f => show (if r % (p * p) = 0 then _ else _) = _; rw [if_neg h]
theorem wsq_stop {f r p : Nat} {b : Int} (h : ¬ p * p * p ≤ r) : wsq f r b p = (r, b) := by
  cases f with
  | zero => rfl
  | succ f => show (if p * p * p ≤ r then _ else _) = _; rw [if_neg h]
theorem wsq_go1 {f r p r1 : Nat} {b : Int} (h : p * p * p ≤ r) (e : sqs p r r = r1) (h1 : r1 % p = 0) : wsq (f + 1) r b p = wsq f (r1 / p) (b * p) (p + 1) := by
  show (if p * p * p ≤ r then _ else _) = _
  rw [if_pos h]
  dsimp only
  rw [e, if_pos h1]
theorem wsq_go2 {f r p r1 : Nat} {b : Int} (h : p * p * p ≤ r) (e : sqs p r r = r1) (h1 : ¬ r1 % p = 0) : wsq (f + 1) r b p = wsq f r1 b (p + 1) := by
  show (if p * p * p ≤ r then _ else _) = _
  rw [if_pos h]
  dsimp only
  rw [e, if_neg h1]
theorem cube_le {p r : Nat} (h : p * p * p ≤ r) (hp : 2 ≤ p) : p < r := by
  have h1 : 2 * p ≤ p * p := Nat.mul_le_mul_right p hp
  have h2 : p * p * 2 ≤ p * p * p := Nat.mul_le_mul_left (p * p) hp
  omega
theorem div_small {r q : Nat} (h : r % q = 0) (hr : 0 < r) (hq : 2 ≤ q) : 0 < r / q ∧ r / q < r := by
  refine ⟨?_, Nat.div_lt_self hr hq⟩
  have e := Nat.div_add_mod r q
  rw [h, Nat.add_zero] at e
  refine Nat.pos_of_ne_zero fun z => ?_
  rw [z, Nat.mul_zero] at e
  omega
theorem sq_small {p : Nat} (h : p ≤ 160001) : p * p < 2 ^ 64 := Nat.lt_of_le_of_lt (Nat.mul_le_mul h h) (by decide)
theorem isqrt_le (n : Nat) : Float64.isqrt n ≤ n := by
  have h := (Float64.isqrt_spec n).1
  rcases Nat.eq_zero_or_pos (Float64.isqrt n) with z | z
  · omega
  · exact Nat.le_trans (Nat.le_mul_of_pos_left _ z) h

section
variable {P : Program} {w : World} {K : PySem.W.Frag} {mg : Str → Option Value} {base : Heap}
theorem isSign_le {z : Int} (h : isSign z = true) : z.natAbs ≤ 400 ∧ z ≠ 0 ∧ anySign z = z := by
  unfold isSign at h
  simp only [Bool.and_eq_true, decide_eq_true_eq] at h
  omega
theorem mul_le_160000 {a b : Int} (ha : a.natAbs ≤ 400) (hb : b.natAbs ≤ 400) : (a * b).natAbs ≤ 160000 := by
  rw [Int.natAbs_mul]
  exact Nat.mul_le_mul ha hb
end
end Ft

/-! repr of data; the deck of draws -/
namespace Ft
open PySem L2 PySem.Spec PyProof.Rows

def rRepr (K : PySem.W.Frag) : List V → Hp → VK → Prop := fun xs H Q => ∃ a d, xs = [.ref a] ∧ Dp K H (.ref a) d ∧ d.showable = true ∧ d.hasDict = false ∧ d.depth ≤ 64 ∧ d.shown.length ≤ sizeLine ∧ Q (.str d.shown) H
theorem call_repr {X : Cx} {k : Nat} (hgd : X.A.guards = some []) (hr : Room k X.A) : CallR X (.builtin "repr") (rRepr X.K) := by
  intro pins s σ H xs us Q I r h
  obtain ⟨a, d, rfl, hd, h1, h2, h3, h4, q⟩ := h
  obtain ⟨u, rfl, rx⟩ := vals1 r
  obtain ⟨as, rd⟩ := Dp.reads I d (.ref a) u hd rx
  obtain rfl : u = Value.ref a := rx
  exact repr_of_reads' rd h1 (fun z => by rw [h2] at z; cases z) hgd (by have := hr.un; omega) (fun _ _ e => e) (fun h' u tk kept => ⟨.str d.shown, H, I.kept kept, ⟨_, rfl⟩, q⟩) h4

/-! ### the deck -/
def kCells : Key := .inr "cells"
def kMixed : Key := .inr "mixed"
def kDraws : Key := .inr "turn"
theorem ncm : ¬ kCells = kMixed := by decide +kernel
theorem ncd : ¬ kCells = kDraws := by decide +kernel
theorem nmd : ¬ kMixed = kDraws := by decide +kernel
theorem nmc : ¬ kMixed = kCells := by decide +kernel
theorem ndc : ¬ kDraws = kCells := by decide +kernel
def deckL (l : Addr) (mx dr : Int) : List (Key × V) := [(kCells, .ref l), (kMixed, .int mx), (kDraws, .int dr)]
theorem deck_cells {l : Addr} {mx dr : Int} : valV (deckL l mx dr) kCells = some (.ref l) := valV_pos rfl
theorem deck_mixed {l : Addr} {mx dr : Int} : valV (deckL l mx dr) kMixed = some (.int mx) := by
  unfold deckL
  rw [valV_neg ncm]
  exact valV_pos rfl
theorem deck_draws {l : Addr} {mx dr : Int} : valV (deckL l mx dr) kDraws = some (.int dr) := by
  unfold deckL
  rw [valV_neg ncd, valV_neg nmd]
  exact valV_pos rfl
theorem deck_put {l : Addr} {mx dr z : Int} : putK (deckL l mx dr) kDraws (.int z) = deckL l mx z := by
  unfold putK deckL
  rw [if_pos (by simp)]
  simp only [List.map_cons, List.map_nil, if_neg ncd, if_neg nmd, if_true]
/-- a deck at d, its list at l -/
def DeckAt (H : Hp) (d l : Addr) : Prop := ∃ (mx dr : Int) (cs : List Int), H d = some (.dK (deckL l mx dr)) ∧ H l = some (.lst (cs.map V.int)) ∧ cs.length ≤ 63
/-- all that was tracked is as it was, but at d and l -/
def But (d l : Addr) (H H' : Hp) : Prop := ∀ b o, H b = some o → b ≠ d → b ≠ l → H' b = some o
theorem But.refl {d l : Addr} {H : Hp} : But d l H H := fun _ _ h _ _ => h
theorem But.trans {d l : Addr} {H H1 H2 : Hp} (a : But d l H H1) (b : But d l H1 H2) : But d l H H2 := fun c o h h1 h2 => b c o (a c o h h1 h2) h1 h2
theorem But.of {d l : Addr} {H H' : Hp} (s : Same H H') : But d l H H' := fun b o h _ _ => s b o h
theorem Same.upd_new {H : Hp} {p : Addr} {o : HO} (h : H p = none) : Same H (upd H p o) := fun b u e => by rw [upd_ne (ne_of_none e h)]; exact e
theorem DeckAt.same {H H' : Hp} {d l : Addr} (D : DeckAt H d l) (s : Same H H') : DeckAt H' d l := by
  obtain ⟨mx, dr, cs, h1, h2, h3⟩ := D
  exact ⟨mx, dr, cs, s _ _ h1, s _ _ h2, h3⟩
theorem DeckAt.ne {H : Hp} {d l : Addr} (D : DeckAt H d l) : d ≠ l := by
  obtain ⟨mx, dr, cs, h1, h2, h3⟩ := D
  exact ne_of h1 h2 (by intro z; cases z)
/-- a new address is neither -/
theorem DeckAt.new {H : Hp} {d l p : Addr} (D : DeckAt H d l) (h : H p = none) : p ≠ d ∧ p ≠ l := by
  obtain ⟨mx, dr, cs, h1, h2, h3⟩ := D
  exact ⟨fun e => (by rw [e, h1] at h; cases h), fun e => (by rw [e, h2] at h; cases h)⟩
/-- draws: from 0 to below many; the deck stays a deck, all else stays -/
def sp_draw : Sp := fun vs H Q _ => ∃ (d l : Addr) (n : Int), vs = [.ref d, .int n] ∧ DeckAt H d l ∧ 0 < n ∧ n < 2 ^ 64 ∧ ∀ (H' : Hp) (r : Int), DeckAt H' d l → But d l H H' → 0 ≤ r → r < n → Q (.int r) H'
theorem sp_draw_len : ∀ vs H Q E, sp_draw vs H Q E → vs.length = 2 := fun _ _ _ _ ⟨_, _, _, e, _⟩ => by rw [e]; rfl
theorem dp_ints {K : PySem.W.Frag} {H : Hp} : ∀ ns : List Int, DpAll K H (ns.map V.int) (ns.map PyData.int)
  | [] => .nil
  | n :: ns => .cons (.int n) (dp_ints ns)
theorem eqv_nil : ∀ ds : List PyData, PyData.eqv (.list ds) (.list []) = ds.isEmpty
  | [] => rfl
  | _ :: _ => rfl
theorem deck_merge {l : Addr} {mx dr : Int} : mergeK [] (deckL l mx dr) = deckL l mx dr := by
  unfold mergeK deckL
  simp only [List.foldl_cons, List.foldl_nil]
  have h1 : putK ([] : List (Key × V)) kCells (.ref l) = [(kCells, V.ref l)] := rfl
  rw [h1]
  have h2 : putK [(kCells, V.ref l)] kMixed (.int mx) = [(kCells, V.ref l), (kMixed, V.int mx)] := putK_new _ (by rw [valV_neg ncm]; rfl)
  rw [h2]
  exact putK_new _ (by rw [valV_neg ncd, valV_neg nmd]; rfl)
/-- a slice of ints is one -/
theorem cut_ints (ns : List Int) (lo hi : Option Int) : ∃ ms : List Int, cutV (ns.map V.int) lo hi = ms.map V.int ∧ ms.length ≤ ns.length := by
  have hl := cutV_length (ns.map V.int) lo hi
  rw [List.length_map] at hl
  have h : cutV (ns.map V.int) lo hi = ((ns.drop (HT.sIx (ns.map V.int).length 0 lo)).take (HT.sIx (ns.map V.int).length (ns.map V.int).length hi - HT.sIx (ns.map V.int).length 0 lo)).map V.int := by
    unfold cutV
    rw [List.map_take, List.map_drop]
  refine ⟨_, h, ?_⟩
  rw [h, List.length_map] at hl
  exact hl
theorem int_at {ns : List Int} {i : Nat} {v : V} (h : (ns.map V.int)[i]? = some v) : ∃ z, v = .int z ∧ ns[i]? = some z := by
  rw [List.getElem?_map] at h
  cases e : ns[i]? with
  | none => rw [e] at h; cases h
  | some z => rw [e] at h; exact ⟨z, (Option.some.inj h).symm, rfl⟩
def sp_deck (K : PySem.W.Frag) : Sp := fun vs H Q _ => ∃ (a : Addr) (ns : List Int), vs = [.ref a] ∧ SqL K H a (ns.map V.int) ∧ ns.length ≤ 63 ∧ ∀ (H' : Hp) (d l : Addr), DeckAt H' d l → Same H H' → H d = none → H l = none → Q (.ref d) H'
theorem sp_deck_len {K : PySem.W.Frag} : ∀ vs H Q E, sp_deck K vs H Q E → vs.length = 1 := fun _ _ _ _ ⟨_, _, e, _⟩ => by rw [e]; rfl
/-- an item of a list that stands -/
def sp_pick (K : PySem.W.Frag) : Sp := fun vs H Q _ => ∃ (d l p : Addr) (xs : List V), vs = [.ref d, .ref p] ∧ DeckAt H d l ∧ (H p = some (.lst xs) ∧ p ≠ l ∨ H p = some (.tup xs)) ∧ 0 < xs.length ∧ xs.length < 2 ^ 64 ∧
  ∀ (H' : Hp) (v : V), DeckAt H' d l → But d l H H' → v ∈ xs → Q v H'
theorem sp_pick_len {K : PySem.W.Frag} : ∀ vs H Q E, sp_pick K vs H Q E → vs.length = 2 := fun _ _ _ _ ⟨_, _, _, _, e, _⟩ => by rw [e]; rfl
end Ft

namespace Ft
open PySem L2
theorem canLay_ints : ∀ ns : List Int, PyData.canLayAll0 (ns.map PyData.int) = true
  | [] => rfl
  | n :: ns => by
    show (true && PyData.canLayAll0 (ns.map PyData.int)) = true
    rw [canLay_ints ns]
    rfl
theorem depth_ints : ∀ ns : List Int, PyData.depthAll (ns.map PyData.int) = 0
  | [] => rfl
  | n :: ns => by
    show max 0 (PyData.depthAll (ns.map PyData.int)) = 0
    rw [depth_ints ns]
    rfl
theorem shaped_ints (ns : List Int) : SeqAt.shaped (.list (ns.map PyData.int)) = true := by
  unfold SeqAt.shaped
  rw [show PyData.canLay0 (.list (ns.map PyData.int)) = true from canLay_ints ns, show PyData.depth (.list (ns.map PyData.int)) = 0 + 1 from by rw [← depth_ints ns]; rfl]
  rfl
section
variable {P : Program} {w : World} {K : PySem.W.Frag} {mg : Str → Option Value} {base : Heap}
theorem ok_draw (D : Df K mg "_law_draw" s__law_draw ["_law_deck_here", "_law_below"]) (B : Bi mg) : Cal P w K mg base 1 "_law_draw" sp_draw := by
  obtain ⟨f, fd, F, m, b⟩ := D.ex
  have sc := sc__law_draw
  refine ⟨f, fd, _, F.ok sc sp_draw_len (fun cdv A outer s H vs Q E hr h => ?_), m, F.kp, b⟩
  obtain ⟨d, l, n, rfl, DK, hn0, hn1, q⟩ := h
  have hu := hu_of hr
  have h64 : (A.deeper (PyProof.Rows.envOfC "_law_draw" (defScope s__law_draw) s.heap.objs.size f cdv)).units + 64 < cLine := by have := hr.un; omega
  refine ⟨_, (pss_cons (ps_dput hu (pv 0) pe_str (pe_op op_add (pe_dget hu (pv 0) pe_str (fun _ _ => rfl)) pe_int) rfl)
      (pss_cons (ps_set (i := 2) sc.nd rfl (Or.inl rfl) (pe_op op_add (pe_dget hu (pv 0) pe_str (fun _ _ => rfl)) (pe_op op_mul pe_int (pe_dget hu (pv 0) pe_str (fun _ _ => rfl)))))
      (pss_cons (ps_if (pt_cmpR (op_neD h64) (pe_dget hu (pv 0) pe_str (fun _ _ => rfl)) (pe_lst pa_nil) (nomark _))
      (pss_cons (ps_set (i := 3) sc.nd rfl (Or.inl rfl) (pe_bm0 PySem.F.plainAttrs_list PySem.F.slot_list_pop PySem.F.type_list_pop mt_pop (pe_dget hu (pv 0) pe_str (fun _ _ => rfl))))
        (pss_cons (ps_if (pt_cmpR op_ge (pv 3) (pe_op op_pow pe_int pe_int) (nomark _))
        (pss_cons (ps_expr (pe_bm PySem.F.plainAttrs_list PySem.F.slot_list_append PySem.F.type_list_append mt_append (pe_dget hu (pv 0) pe_str (fun _ _ => rfl)) (pa_cons (pe_op op_fdivW (pv 3) (pe_callB (call_max2 rfl) (by rfl) B.max_ (by decide +kernel) (pa_cons pe_int (pa_cons (pv 1) pa_nil)))) pa_nil)))
          (pss_one (ps_ret (pe_op op_mod (pe_callTy call_int1 (by rfl) B.int_ (by decide +kernel) (pa_cons (pv 3) pa_nil)) (pv 1)))))
        pss_nil)
        (pss_one (ps_set (i := 2) sc.nd rfl (Or.inl rfl) (pe_op op_add (pv 2) (pe_op op_mod (pe_callTy call_int1 (by rfl) B.int_ (by decide +kernel) (pa_cons (pv 3) pa_nil)) pe_int))))))
      pss_nil)
      (pss_cons (ps_set (i := 2) sc.nd rfl (Or.inl rfl) (pe_op op_mod (pe_callTy call_int1 (by rfl) B.int_ (by decide +kernel) (pa_cons (pe_op op_add (pe_op op_mul (pv 2) pe_int) pe_int) pa_nil)) pe_int))
      (pss_cons (ps_set (i := 2) sc.nd rfl (Or.inl rfl) (pe_op op_mod (pe_callTy call_int1 (by rfl) B.int_ (by decide +kernel) (pa_cons (pe_op op_add (pe_op op_add (pe_op op_mul (pv 2) (pv 2)) (pe_op op_mul pe_int (pe_dget hu (pv 0) pe_str (fun _ _ => rfl)))) pe_int) pa_nil)) pe_int))
      (pss_cons (ps_set (i := 2) sc.nd rfl (Or.inl rfl) (pe_op op_mod (pe_callTy call_int1 (by rfl) B.int_ (by decide +kernel) (pa_cons (pe_op op_mul (pv 2) pe_int) pa_nil)) pe_int))
      (pss_one (ps_ret (pe_op op_mod (pe_callTy call_int1 (by rfl) B.int_ (by decide +kernel) (pa_cons (pe_op op_fdivW (pv 2) pe_int) pa_nil)) (pv 1)))))))))), ?_⟩
  have dl := DK.ne
  obtain ⟨mx, dr, cs, hd, hl, hcs⟩ := DK
  -- draws + 1
  have gd := DGet.k (k := kDraws) hd
  rw [deck_draws] at gd
  have pd := DPut.k (k := kDraws) (v := .int (dr + 1)) hd (Nat.lt_of_le_of_lt (Nat.le_of_eq rfl : (deckL l mx dr).length ≤ 3) (by decide))
  rw [deck_put] at pd
  refine ⟨_, rfl, d, _, rfl, gd, _, _, rfl, rfl, _, rfl, d, _, rfl, pd, ?_⟩
  generalize hH1 : upd H d (.dK (deckL l mx (dr + 1))) = H1
  have hd1 : H1 d = some (.dK (deckL l mx (dr + 1))) := by rw [← hH1]; exact upd_same
  have hl1 : H1 l = some (.lst (cs.map V.int)) := by rw [← hH1, upd_ne dl.symm]; exact hl
  have b1 : But d l H H1 := fun b o e h1 h2 => by rw [← hH1, upd_ne h1]; exact e
  have gd1 := DGet.k (k := kDraws) hd1
  rw [deck_draws] at gd1
  have gm1 := DGet.k (k := kMixed) hd1
  rw [deck_mixed] at gm1
  have gc1 := DGet.k (k := kCells) hd1
  rw [deck_cells] at gc1
  refine ⟨_, rfl, d, _, rfl, gm1, _, rfl, d, _, rfl, gd1, _, _, rfl, rfl, .inl ⟨by decide, by decide⟩, _, _, rfl, rfl, ?_⟩
  dsimp only [gName]
  refine tSeq_join (fun σ H2 => ∃ (z : Int) (o : Option V), σ = [some (.ref d), some (.int n), some (.int z), o] ∧ DeckAt H2 d l ∧ But d l H H2) (fun N hN => ?_) ?_
  · -- if cells != []
    refine ⟨_, rfl, d, _, rfl, gc1, Nat.zero_le _, fun p hp => ?_⟩
    have s2 : Same H1 (upd H1 p (.lst [])) := Same.upd_new hp
    generalize hH2 : upd H1 p (.lst []) = H2 at s2
    have hd2 := s2 _ _ hd1
    have hl2 := s2 _ _ hl1
    have hp2 : H2 p = some (.lst []) := by rw [← hH2]; exact upd_same
    have b2 : But d l H H2 := b1.trans (But.of s2)
    have gc2 := DGet.k (k := kCells) hd2
    rw [deck_cells] at gc2
    refine ⟨_, _, .lst (SqL.of hl2) (dp_ints cs), .lst (SqL.of hp2) .nil, shaped_ints cs, by decide, _, rfl, ?_⟩
    rw [eqv_nil]
    cases hcc : cs with
    | nil =>
      refine iteF ?_
      exact hN _ _ ⟨_, none, rfl, ⟨mx, dr + 1, [], hd2, by rw [hcc] at hl2; exact hl2, by decide⟩, b2⟩
    | cons c0 cr =>
      refine iteT ?_
      -- cell = cells.pop()
      have hlast : ∃ c, (cs.map V.int)[(cs.map V.int).length - 1]? = some (V.int c) := by
        have hn : cs.length - 1 < cs.length := by rw [hcc]; exact Nat.sub_lt (Nat.succ_pos _) (by decide)
        exact ⟨cs[cs.length - 1], by rw [List.length_map, List.getElem?_map, List.getElem?_eq_getElem hn]; rfl⟩
      obtain ⟨c, hlast⟩ := hlast
      have hdrop : (cs.map V.int).dropLast = cs.dropLast.map V.int := by rw [List.map_dropLast]
      have ldrop : cs.dropLast.length ≤ 62 := by rw [List.length_dropLast]; omega
      have hne : l ≠ d := dl.symm
      refine ⟨_, rfl, d, _, rfl, gc2, .inl ⟨rfl, _, SqL.of hl2⟩, l, _, _, rfl, rfl, hl2, hlast, ?_⟩
      rw [hdrop]
      generalize hH3 : upd H2 l (.lst (cs.dropLast.map V.int)) = H3
      have hl3 : H3 l = some (.lst (cs.dropLast.map V.int)) := by rw [← hH3]; exact upd_same
      have hd3 : H3 d = some (.dK (deckL l mx (dr + 1))) := by rw [← hH3, upd_ne dl]; exact hd2
      have b3 : But d l H H3 := b2.trans fun b o e _ h2 => by rw [← hH3, upd_ne h2]; exact e
      have gc3 := DGet.k (k := kCells) hd3
      rw [deck_cells] at gc3
      refine ⟨_, rfl, _, _, rfl, rfl, ⟨by decide, by decide, by decide⟩, _, _, rfl, rfl, _, rfl, ifD (fun hbig => ?_) fun hbig => ?_⟩
      · -- cells.append(cell // max(2, many)); return int(cell) % many
        have hmx : (if n > 2 then n else 2) = max 2 n := by by_cases h : n > 2 <;> simp only [h, if_true, if_false] <;> omega
        refine ⟨_, rfl, d, _, rfl, gc3, .inl ⟨rfl, _, SqL.of hl3⟩, _, rfl, _, rfl, 2, n, rfl, _, _, rfl, rfl, ?_, ?_⟩
        · show CDivW c (if n > 2 then n else 2)
          exact wide_div (b := 64) (by split <;> omega) (by split <;> omega) (by decide) (by decide)
        refine ⟨l, _, _, rfl, rfl, hl3, Nat.lt_of_le_of_lt (by rw [List.length_map]; exact ldrop) (by decide : (62 : Nat) < sizeLine), ?_⟩
        have happ : cs.dropLast.map V.int ++ [V.int (c / (if n > 2 then n else 2))] = (cs.dropLast ++ [c / (if n > 2 then n else 2)]).map V.int := by rw [List.map_append]; rfl
        refine ⟨_, rfl, .inl ⟨c, rfl, ?_⟩⟩
        refine ⟨_, rfl, _, _, rfl, rfl, hn0, ?_⟩
        refine q _ _ ⟨mx, dr + 1, cs.dropLast ++ [c / (if n > 2 then n else 2)], by rw [upd_ne dl]; exact hd3, by rw [upd_same]; exact congrArg (fun z => some (HO.lst z)) happ, by rw [List.length_append]; exact Nat.add_le_add ldrop (Nat.le_refl 1)⟩ (b3.trans fun b o e _ h2 => by rw [upd_ne h2]; exact e) (Int.emod_nonneg _ (by omega)) (Int.emod_lt_of_pos _ hn0)
      · refine ⟨_, rfl, _, rfl, .inl ⟨c, rfl, ?_⟩⟩
        refine ⟨_, _, rfl, rfl, (by show (0 : Int) < 2147483587; decide), _, _, rfl, rfl, ?_⟩
        exact hN _ _ ⟨_, _, rfl, ⟨mx, dr + 1, cs.dropLast, hd3, hl3, Nat.le_trans ldrop (by decide)⟩, b3⟩
  · rintro _ H4 ⟨z, o, rfl, DK4, b4⟩
    obtain ⟨mx, dr, cs, hd4, hl4, hcs4⟩ := id DK4
    have gd4 := DGet.k (k := kDraws) hd4
    rw [deck_draws] at gd4
    refine ⟨_, rfl, _, _, rfl, rfl, .inr ⟨by decide, by decide⟩, _, _, rfl, rfl, .inl ⟨_, rfl, _, _, rfl, rfl, (by show (0 : Int) < 2147483543; decide), ?_⟩⟩
    have y0 := Int.emod_nonneg (z * 16807 + 59) (b := 2147483543) (by decide)
    have y1 := Int.emod_lt_of_pos (z * 16807 + 59) (b := 2147483543) (by decide)
    refine ⟨_, rfl, _, rfl, _, _, rfl, rfl, .inl ⟨by omega, by omega⟩, _, rfl, d, _, rfl, gd4, _, _, rfl, rfl, .inl ⟨by decide, by decide⟩, _, _, rfl, rfl, _, _, rfl, rfl, .inl ⟨_, rfl, _, _, rfl, rfl, (by show (0 : Int) < 2147483647; decide), ?_⟩⟩
    refine ⟨_, rfl, _, _, rfl, rfl, .inr ⟨by decide, by decide⟩, .inl ⟨_, rfl, _, _, rfl, rfl, (by show (0 : Int) < 2147483563; decide), ?_⟩⟩
    refine ⟨_, rfl, _, _, rfl, rfl, ⟨by decide, by decide⟩, .inl ⟨_, rfl, _, rfl, _, _, rfl, rfl, hn0, ?_⟩⟩
    exact q _ _ DK4 b4 (Int.emod_nonneg _ (by omega)) (Int.emod_lt_of_pos _ hn0)
end
end Ft

namespace Ft
open PySem L2
section
variable {P : Program} {w : World} {K : PySem.W.Frag} {mg : Str → Option Value} {base : Heap}
theorem ok_pick (D : Df K mg "_law_pick" s__law_pick ["_law_deck_here", "_law_some"]) (B : Bi mg) (c__law_draw : Cal P w K mg base 1 "_law_draw" sp_draw) : Cal P w K mg base 2 "_law_pick" (sp_pick K) := by
  obtain ⟨f, fd, F, m, b⟩ := D.ex
  have sc := sc__law_pick
  refine ⟨f, fd, _, F.ok sc sp_pick_len (fun cdv A outer s H vs Q E hr h => ?_), m, F.kp, b⟩
  obtain ⟨d, l, p, xs, rfl, DK, hp, h0, h1, q⟩ := h
  refine ⟨_, (pss_one (ps_ret (pe_ix ix_seq (pv 1) (pe_c c__law_draw hr (by decide) (by rfl) (pa_cons (pv 0) (pa_cons (pe_callB call_len_seq (by rfl) B.len_ (by decide +kernel) (pa_cons (pv 1) pa_nil)) pa_nil))) (fun _ _ => rfl)))), ?_⟩
  have hs : SqL K H p xs ∨ SqT K H p xs := hp.imp (fun z => SqL.of z.1) SqT.of
  refine ⟨_, rfl, _, rfl, _, rfl, p, xs, rfl, hs, d, l, _, rfl, DK, by omega, by omega, fun H1 r DK1 b1 r0 r1 => ?_⟩
  obtain ⟨n, rfl⟩ : ∃ n : Nat, r = n := ⟨r.toNat, by omega⟩
  have hn : n < xs.length := by omega
  obtain ⟨mx, dr, cs, hd, hl, _⟩ := DK
  rcases hp with ⟨hp, hpl⟩ | hp
  · have hp1 := b1 _ _ hp (ne_of hp hd (by intro z; cases z)) hpl
    exact .inl ⟨p, xs, _, _, rfl, rfl, SqL.of hp1, atI_nat (List.getElem?_eq_getElem hn), q _ _ DK1 b1 (List.getElem_mem hn)⟩
  · have hp1 := b1 _ _ hp (ne_of hp hd (by intro z; cases z)) (ne_of hp hl (by intro z; cases z))
    exact .inr (.inl ⟨p, xs, _, _, rfl, rfl, SqT.of hp1, atI_nat (List.getElem?_eq_getElem hn), q _ _ DK1 b1 (List.getElem_mem hn)⟩)
theorem ok_deck (D : Df K mg "_law_deck" s__law_deck ["_law_script"]) (B : Bi mg)  : Cal P w K mg base 1 "_law_deck" (sp_deck K) := by
  obtain ⟨f, fd, F, m, b⟩ := D.ex
  have sc := sc__law_deck
  refine ⟨f, fd, _, F.ok sc sp_deck_len (fun cdv A outer s H vs Q E hr h => ?_), m, F.kp, b⟩
  obtain ⟨a, ns, rfl, hS, hlen, q⟩ := h
  have hu := hu_of hr
  refine ⟨_, (pss_cons (ps_set (i := 1) sc.nd rfl (Or.inl rfl) pe_int)
      (pss_cons (ps_for PassesOwn.never rfl (pi_list (pe_slice sl_list (pv 0) po_none (po_some pe_int))) (pg_name (i := 2) sc.nd rfl (Or.inl rfl))
      (pss_one (ps_set (i := 1) sc.nd rfl (Or.inl rfl) (pe_op op_mod (pe_callTy call_int1 (by rfl) B.int_ (by decide +kernel) (pa_cons (pe_op op_add (pe_op op_add (pe_op op_mul (pv 1) pe_int) (pe_op op_mod (pe_callTy call_int1 (by rfl) B.int_ (by decide +kernel) (pa_cons (pv 2) pa_nil)) pe_int)) pe_int) pa_nil)) pe_int))))
      (pss_one (ps_ret (pe_disp (pps_cons pe_str (pe_revL (pe_lc (own := [("_law_cell", 2)]) (g := gName 2) (tt := tYes) (by rfl) sc.nd (pi_list (pe_slice sl_list (pv 0) po_none (po_some pe_int))) (blkOk_by (own := [("_law_cell", 2)]) (N := N__law_deck) (sc := defScope s__law_deck) (by decide +kernel)) (fun _ _ _ _ _ => (pg_name (i := 2) sc.nd rfl (Or.inl rfl))) (fun _ _ _ _ _ => pts_nil) (fun _ _ _ _ _ => (pe_callTy call_int1 (by rfl) B.int_ (by decide +kernel) (pa_cons (pv 2) pa_nil))))) (pps_cons pe_str (pv 1) (pps_cons pe_str pe_int pps_nil))) (by rfl) (by rfl) (fun z => by cases z) (by decide)))))), ?_⟩
  refine ⟨_, rfl, _, rfl, a, _, rfl, hS, fun p hp => ?_⟩
  obtain ⟨ms, hms, lms⟩ := cut_ints ns none (some 63)
  rw [hms]
  have s1 : Same H (upd H p (.lst (ms.map V.int))) := Same.upd_new hp
  generalize hH1 : upd H p (.lst (ms.map V.int)) = H1 at s1
  have hp1 : H1 p = some (.lst (ms.map V.int)) := by rw [← hH1]; exact upd_same
  refine ⟨p, rfl, ⟨_, SqL.of hp1⟩, for_list (K := K) (a := p) (xs := ms.map V.int) (fun i σ H2 => H1 = H2 ∧ ∃ (z : Int) (o : Option V), σ = [some (.ref a), some (.int z), o]) ⟨rfl, _, none, rfl⟩ (fun i σ H2 _ ⟨e, _⟩ => by rw [← e]; exact SqL.of hp1) ?_ ?_⟩
  · rintro i x σ _ hi ⟨rfl, z, o, rfl⟩
    obtain ⟨c, rfl, _⟩ := int_at hi
    refine ⟨_, rfl, _, _, rfl, rfl, .inr ⟨by decide, by decide⟩, _, rfl, .inl ⟨c, rfl, _, _, rfl, rfl, (by show (0 : Int) < 2147483587; decide), _, _, rfl, rfl, _, _, rfl, rfl, .inl ⟨_, rfl, _, _, rfl, rfl, (by show (0 : Int) < 2147483647; decide), ?_⟩⟩⟩
    exact ⟨rfl, _, _, rfl⟩
  · rintro σ _ ⟨rfl, z, o, rfl⟩
    intro d hd
    have s2 : Same H1 (upd H1 d (.dK [])) := Same.upd_new hd
    generalize hH2 : upd H1 d (.dK []) = H2 at s2
    have hd2 : H2 d = some (.dK []) := by rw [← hH2]; exact upd_same
    refine ⟨_, rfl, _, rfl, a, _, rfl, s2.seq (s1.seq hS), fun p2 hp2 => ?_⟩
    rw [hms]
    have s3 : Same H2 (upd H2 p2 (.lst (ms.map V.int))) := Same.upd_new hp2
    generalize hH3 : upd H2 p2 (.lst (ms.map V.int)) = H3 at s3
    have h3 : H3 p2 = some (.lst (ms.map V.int)) := by rw [← hH3]; exact upd_same
    refine ⟨p2, rfl, ⟨_, SqL.of h3⟩, fun p3 hp3 => ?_⟩
    refine lc_list (a := p2) (xs := ms.map V.int) (fun i H' => Same H3 H' ∧ H' p3 = some (.lst ((ms.take i).map V.int))) ⟨Same.upd_new hp3, upd_same⟩ (fun i H' _ ⟨z, _⟩ => SqL.of (z _ _ h3)) ?_ ?_
    · rintro i v H' hi ⟨s4, h4⟩
      obtain ⟨c, rfl, hc⟩ := int_at hi
      have hi' : i < ms.length := (List.getElem?_eq_some_iff.mp hc).1
      have htk : ms.take (i + 1) = ms.take i ++ [c] := by rw [List.take_add_one, hc]; rfl
      refine ⟨rfl, _, rfl, .inl ⟨c, rfl, _, h4, ?_, fun b u e => ?_, ?_⟩⟩
      · rw [List.length_map, List.length_take]
        exact Nat.lt_of_le_of_lt (by omega : _ ≤ 63) (by decide)
      · rw [upd_ne (ne_of_none e hp3)]
        exact s4 _ _ e
      · rw [upd_same, htk, List.map_append]
        rfl
    rintro H4 ⟨s4, h4⟩
    rw [List.length_map, List.take_length] at h4
    refine ⟨p3, _, rfl, SqL.of h4, fun l hl => ?_⟩
    have s5 : Same H4 (upd H4 l (.lst (ms.map V.int).reverse)) := Same.upd_new hl
    generalize hH5 : upd H4 l (.lst (ms.map V.int).reverse) = H5 at s5
    have h5 : H5 l = some (.lst (ms.reverse.map V.int)) := by rw [← hH5, List.map_reverse]; exact upd_same
    have sA := s1.trans (s2.trans (s3.trans (s4.trans s5)))
    have hd5 : H5 d = some (.dK []) := s5 _ _ (s4 _ _ (s3 _ _ hd2))
    have dl : d ≠ l := ne_of hd5 h5 (by intro z; cases z)
    refine ⟨_, rfl, hd5, deckL l z 0, rfl, (by show (3 : Nat) ≤ 15; decide), ?_⟩
    rw [deck_merge]
    have hd0 : H d = none := s1.free hd
    have hl0 : H l = none := s1.free (s2.free (s3.free (s4.free hl)))
    refine q _ d l ⟨z, 0, ms.reverse, upd_same, by rw [upd_ne dl.symm]; exact h5, by rw [List.length_reverse]; omega⟩ (fun b u e => ?_) hd0 hl0
    rw [upd_ne (ne_of_none e hd0)]
    exact sA _ _ e
end
end Ft

set_option exponentiation.threshold 9000
namespace Ft
open PySem L2
/-! ### beginnings: a number and a tuple of numbers -/
theorem kit_tup_tup {K : PySem.W.Frag} : PySem.W.kitOne K (.type "tuple") (.type "tuple") = some true := kit_ty (by decide +kernel)
theorem kit_int_int' {K : PySem.W.Frag} : PySem.W.kitOne K (.type "int") (.type "int") = some true := kit_ty (by decide +kernel)
def Bg (H : Hp) (v : V) (b : Int) (ts : List Int) : Prop := ∃ p q, v = .ref p ∧ H p = some (.tup [.int b, .ref q]) ∧ H q = some (.tup (ts.map V.int))
theorem Bg.same {H H' : Hp} {v : V} {b : Int} {ts : List Int} (h : Bg H v b ts) (s : Same H H') : Bg H' v b ts := by
  obtain ⟨p, q, e, h1, h2⟩ := h
  exact ⟨p, q, e, s _ _ h1, s _ _ h2⟩
/-- what the document calls a beginning -/
def BgOk (b : Int) (ts : List Int) : Prop := 1 ≤ b ∧ 1 ≤ ts.length ∧ ts.length ≤ 400
def gcdL (g : Nat) (ts : List Int) : Nat := ts.foldl (fun g t => Nat.gcd g t.natAbs) g
def lowB (b : Int) (ts : List Int) : Int := b / ((gcdL b.natAbs ts : Nat) : Int)
def lowT (b : Int) (ts : List Int) : List Int := ts.map fun t => t / ((gcdL b.natAbs ts : Nat) : Int)
theorem gcdL_one : ∀ ts : List Int, gcdL 1 ts = 1
  | [] => rfl
  | t :: ts => by
    show gcdL (Nat.gcd 1 t.natAbs) ts = 1
    rw [Nat.gcd_one_left]
    exact gcdL_one ts
theorem gcdL_dvd : ∀ (ts : List Int) (g : Nat), gcdL g ts ∣ g
  | [], g => Nat.dvd_refl g
  | t :: ts, g => Nat.dvd_trans (gcdL_dvd ts (Nat.gcd g t.natAbs)) (Nat.gcd_dvd_left _ _)
theorem gcdL_drop {ts : List Int} {i : Nat} {z : Int} (h : ts[i]? = some z) (g : Nat) : gcdL g (ts.drop i) = gcdL (Nat.gcd g z.natAbs) (ts.drop (i + 1)) := by
  obtain ⟨hi, rfl⟩ := List.getElem?_eq_some_iff.mp h
  rw [List.drop_eq_getElem_cons hi]
  rfl
theorem take_snoc {ts : List Int} {i : Nat} {z : Int} (h : ts[i]? = some z) : ts.take (i + 1) = ts.take i ++ [z] := by
  rw [List.take_add_one, h]
  rfl
theorem all_true : ∀ n : Nat, (List.replicate n true).all id = true
  | 0 => rfl
  | n + 1 => by rw [List.replicate_succ, List.all_cons, all_true n]; rfl
def sp_from : Sp := fun vs H Q _ => ∃ n a : Int, vs = [.int n, .int a] ∧ Q (.bl (decide (a ≤ n))) H
def sp_checkFrom : Sp := fun vs H Q _ => ∃ n a : Int, vs = [.int n, .int a] ∧ a ≤ n ∧ Q .non H
def sp_isBeg : Sp := fun vs H Q _ => ∃ v b ts, vs = [v] ∧ Bg H v b ts ∧ BgOk b ts ∧ ∀ H', Same H H' → Q (.bl true) H'
def sp_checkBeg : Sp := fun vs H Q _ => ∃ v b ts, vs = [v] ∧ Bg H v b ts ∧ BgOk b ts ∧ ∀ H', Same H H' → Q .non H'
def sp_lowered : Sp := fun vs H Q _ => ∃ (b : Int) (p : Addr) (ts : List Int), vs = [.int b, .ref p] ∧ H p = some (.lst (ts.map V.int)) ∧ 0 < b ∧ b.natAbs < 2 ^ 8000 ∧ ts.length ≤ 1000 ∧ ∀ H' v, Same H H' → Bg H' v (lowB b ts) (lowT b ts) → Q v H'
section
variable {P : Program} {w : World} {K : PySem.W.Frag} {mg : Str → Option Value} {base : Heap}
end
end Ft

set_option exponentiation.threshold 9000
namespace Ft
open PySem L2
def sprL (ts : List Int) (d : Nat) : List Int := (List.range ts.length).map fun n => if n % d = 0 then ts.getD (n / d) 0 else 0
def eveL (ts : List Int) (d : Nat) : List Int := ((List.range ts.length).filter fun n => decide (n % d = 0)).map fun n => ts.getD n 0
def shfL (ts : List Int) (s : Nat) : List Int := List.replicate s 0 ++ ts
def sp_deed (f : List Int → Nat → List Int) (C : Nat → Prop) : Sp := fun vs H Q _ => ∃ v b ts d, vs = [v, .int ((d : Nat) : Int)] ∧ Bg H v b ts ∧ BgOk b ts ∧ b.natAbs < 2 ^ 8000 ∧ C d ∧ ∀ H' u, Same H H' → Bg H' u (lowB b (f ts d)) (lowT b (f ts d)) → Q u H'
theorem filter_succ (f : Nat → Bool) (j : Nat) : (List.range (j + 1)).filter f = (List.range j).filter f ++ if f j = true then [j] else [] := by
  rw [List.range_succ, List.filter_append]
  congr 1
  cases h : f j <;> simp [h]
theorem filter_len (f : Nat → Bool) (j : Nat) : ((List.range j).filter f).length ≤ j := by
  have := List.length_filter_le f (List.range j)
  rw [List.length_range] at this
  exact this
theorem getD_at {l : List Int} {i : Nat} (h : i < l.length) : (l.map V.int)[i]? = some (V.int (l.getD i 0)) := by
  rw [List.getElem?_map, List.getElem?_eq_getElem h, List.getD_eq_getElem?_getD, List.getElem?_eq_getElem h]
  rfl
section
variable {P : Program} {w : World} {K : PySem.W.Frag} {mg : Str → Option Value} {base : Heap}
end
end Ft

set_option exponentiation.threshold 9000
namespace Ft
open PySem L2
theorem flat_one {α : Type} (x : α) : ∀ n : Nat, (List.replicate n [x]).flatten = List.replicate n x
  | 0 => rfl
  | n + 1 => by rw [List.replicate_succ, List.flatten_cons, flat_one x n, List.replicate_succ]; rfl
/-- the first place where two rows part -/
def apartGo (b1 b2 : Int) (t1 t2 : List Int) : Nat → Nat → Option Nat
  | 0, _ => none
  | f + 1, i => if t1.getD i 0 * b2 = t2.getD i 0 * b1 then apartGo b1 b2 t1 t2 f (i + 1) else some i
def apart (b1 b2 : Int) (t1 t2 : List Int) : Option Nat := apartGo b1 b2 t1 t2 (min t1.length t2.length) 0
def optV : Option Nat → V
  | none => .non
  | some n => .int (n : Int)
def sp_apart : Sp := fun vs H Q _ => ∃ u v b1 b2 t1 t2, vs = [u, v] ∧ Bg H u b1 t1 ∧ Bg H v b2 t2 ∧ BgOk b1 t1 ∧ BgOk b2 t2 ∧ b1.natAbs < 2 ^ 8000 ∧ b2.natAbs < 2 ^ 8000 ∧ (∀ x ∈ t1, x.natAbs < 2 ^ 8000) ∧ (∀ x ∈ t2, x.natAbs < 2 ^ 8000) ∧ ∀ H', Same H H' → Q (optV (apart b1 b2 t1 t2)) H'
theorem mul8 {i j : Int} (h1 : i.natAbs < 2 ^ 8000) (h2 : j.natAbs < 2 ^ 8000) : CMulW i j := wide_mul h1 h2 (by decide) (by decide) (by decide)
theorem getD_mem {l : List Int} {i : Nat} (h : i < l.length) : l.getD i 0 ∈ l := by
  rw [List.getD_eq_getElem?_getD, List.getElem?_eq_getElem h]
  exact List.getElem_mem h
section
variable {P : Program} {w : World} {K : PySem.W.Frag} {mg : Str → Option Value} {base : Heap}
end
end Ft

set_option exponentiation.threshold 9000
namespace Ft
open PySem L2
/-! ### lowest terms of rows -/
theorem gcdL_mul (c : Nat) : ∀ (ts : List Int) (g : Nat), gcdL (c * g) (ts.map fun t => (c : Int) * t) = c * gcdL g ts
  | [], g => rfl
  | t :: ts, g => by
    show gcdL (Nat.gcd (c * g) ((c : Int) * t).natAbs) (ts.map fun t => (c : Int) * t) = c * gcdL (Nat.gcd g t.natAbs) ts
    rw [Int.natAbs_mul, Int.natAbs_natCast, Nat.gcd_mul_left]
    exact gcdL_mul c ts _
theorem gcdL_mem : ∀ (ts : List Int) (g : Nat) (t : Int), t ∈ ts → gcdL g ts ∣ t.natAbs
  | u :: ts, g, t, h => by
    show gcdL (Nat.gcd g u.natAbs) ts ∣ t.natAbs
    rcases List.mem_cons.mp h with rfl | h
    · exact Nat.dvd_trans (gcdL_dvd ts _) (Nat.gcd_dvd_right _ _)
    · exact gcdL_mem ts _ t h
theorem low_mul {c : Nat} (hc : 0 < c) {b : Int} (hb : 0 < b) (ts : List Int) : lowB ((c : Int) * b) (ts.map fun t => (c : Int) * t) = lowB b ts ∧ lowT ((c : Int) * b) (ts.map fun t => (c : Int) * t) = lowT b ts := by
  have e : gcdL ((c : Int) * b).natAbs (ts.map fun t => (c : Int) * t) = c * gcdL b.natAbs ts := by
    rw [Int.natAbs_mul, Int.natAbs_natCast]
    exact gcdL_mul c ts _
  have c0 : (0 : Int) < (c : Int) := by omega
  unfold lowB lowT
  rw [e, Int.natCast_mul]
  refine ⟨Int.mul_ediv_mul_of_pos _ _ c0, ?_⟩
  rw [List.map_map]
  exact List.map_congr_left fun t _ => Int.mul_ediv_mul_of_pos _ _ c0
theorem gcdL_pos {b : Int} (hb : 0 < b) (ts : List Int) : 0 < gcdL b.natAbs ts := Nat.pos_of_dvd_of_pos (gcdL_dvd ts _) (by omega)
theorem mul_lowB {b : Int} (ts : List Int) : ((gcdL b.natAbs ts : Nat) : Int) * lowB b ts = b :=
  Int.mul_ediv_cancel' (Int.dvd_natAbs.mp (Int.natCast_dvd_natCast.mpr (gcdL_dvd ts _)))
theorem mul_lowT {b : Int} (ts : List Int) : (lowT b ts).map (fun t => ((gcdL b.natAbs ts : Nat) : Int) * t) = ts := by
  unfold lowT
  rw [List.map_map]
  conv => rhs; rw [← List.map_id ts]
  exact List.map_congr_left fun t ht => Int.mul_ediv_cancel' (Int.dvd_natAbs.mp (Int.natCast_dvd_natCast.mpr (gcdL_mem ts _ t ht)))
theorem lowB_pos {b : Int} (hb : 0 < b) (ts : List Int) : 0 < lowB b ts := by
  have h1 := mul_lowB (b := b) ts
  have h2 := gcdL_pos hb ts
  rcases Int.lt_trichotomy (lowB b ts) 0 with h | h | h
  · have := Int.mul_neg_of_pos_of_neg (a := ((gcdL b.natAbs ts : Nat) : Int)) (b := lowB b ts) (by omega) h
    omega
  · rw [h, Int.mul_zero] at h1
    omega
  · exact h
theorem lowB_le {b : Int} (hb : 0 < b) (ts : List Int) : lowB b ts ≤ b := Int.ediv_le_self _ (by omega)
/-- a deed on rows that keeps multiples -/
def Lin (F : List Int → List Int) : Prop := ∀ (c : Int) (ts : List Int), F (ts.map fun t => c * t) = (F ts).map fun t => c * t
theorem low_lin {F : List Int → List Int} (hF : Lin F) {b : Int} (hb : 0 < b) (ts : List Int) : lowB (lowB b ts) (F (lowT b ts)) = lowB b (F ts) ∧ lowT (lowB b ts) (F (lowT b ts)) = lowT b (F ts) := by
  have h := low_mul (gcdL_pos hb ts) (lowB_pos hb ts) (F (lowT b ts))
  rw [mul_lowB, ← hF, mul_lowT] at h
  exact ⟨h.1.symm, h.2.symm⟩
theorem getD_mul (c : Int) (ts : List Int) (i : Nat) : (ts.map fun t => c * t).getD i 0 = c * ts.getD i 0 := by
  rw [List.getD_eq_getElem?_getD, List.getD_eq_getElem?_getD, List.getElem?_map]
  cases ts[i]? with
  | none => exact (Int.mul_zero c).symm
  | some x => rfl
theorem getD_range (g : Nat → Int) (m i : Nat) : ((List.range m).map g).getD i 0 = if i < m then g i else 0 := by
  rw [List.getD_eq_getElem?_getD, List.getElem?_map]
  by_cases h : i < m
  · rw [List.getElem?_range h, if_pos h]; rfl
  · rw [List.getElem?_eq_none (by rw [List.length_range]; omega), if_neg h]; rfl
/-! ### texts of beginnings -/
theorem int_short {v : Int} (h : v.natAbs < 2 ^ 250) : (PyData.int v).leavesShort 100 = true := by
  have key : (PyData.shown (.int v)).length ≤ 100 := by
    have p : (2 : Int) ^ 140 < 10 ^ 78 := by decide
    rcases Int.lt_or_le v 0 with h0 | h0
    · obtain ⟨m, rfl⟩ : ∃ m : Nat, v = Int.negSucc m := ⟨v.natAbs - 1, by omega⟩
      have l := PyProof.Rows.toString_length_le (v := ((m + 1 : Nat) : Int)) (by omega) (k := 78) (by decide) (by omega)
      have e : toString (Int.negSucc m) = "-" ++ toString (m + 1) := rfl
      show (Str.ofString (toString (Int.negSucc m))).length ≤ 100
      rw [e, PyProof.Rows.ofString_length, String.toList_append, List.length_append]
      rw [PyProof.Rows.ofString_length] at l
      have l' : (toString (m + 1)).toList.length ≤ 78 := l
      have : "-".toList.length = 1 := by decide
      omega
    · have l := PyProof.Rows.toString_length_le h0 (k := 78) (by decide) (by omega)
      exact Nat.le_trans l (by decide)
  simpa only [PyData.leavesShort, decide_eq_true_eq] using key
theorem ints_short : ∀ {ts : List Int}, (∀ x ∈ ts, x.natAbs < 2 ^ 250) → PyData.leavesShortAll 100 (ts.map PyData.int) = true
  | [], _ => by simp only [List.map_nil, PyData.leavesShortAll]
  | t :: ts, h => by
    simp only [List.map_cons, PyData.leavesShortAll, Bool.and_eq_true]
    exact ⟨int_short (h t List.mem_cons_self), ints_short fun x hx => h x (List.mem_cons_of_mem _ hx)⟩
theorem ints_bulk : ∀ ts : List Int, PyData.bulkAll (ts.map PyData.int) = ts.length
  | [] => by simp only [List.map_nil, PyData.bulkAll, List.length_nil]
  | t :: ts => by
    simp only [List.map_cons, PyData.bulkAll, PyData.bulk, List.length_cons, ints_bulk ts]
    omega
theorem int_showable {v : Int} (h : v.natAbs < 2 ^ 250) : (PyData.int v).showable = true := by
  have := PySem.Flt.log2_lt_of (by decide) h
  simp only [PyData.showable, decide_eq_true_eq]
  omega
theorem ints_showable : ∀ {ts : List Int}, (∀ x ∈ ts, x.natAbs < 2 ^ 250) → PyData.showableAll (ts.map PyData.int) = true
  | [], _ => by simp only [List.map_nil, PyData.showableAll]
  | t :: ts, h => by
    simp only [List.map_cons, PyData.showableAll, Bool.and_eq_true]
    exact ⟨int_showable (h t List.mem_cons_self), ints_showable fun x hx => h x (List.mem_cons_of_mem _ hx)⟩
def bgD (b : Int) (ts : List Int) : PyData := .tuple [.int b, .tuple (ts.map PyData.int)]
/-- short enough to be shown -/
structure BgS (b : Int) (ts : List Int) : Prop where
  hb : b.natAbs < 2 ^ 250
  hts : ∀ x ∈ ts, x.natAbs < 2 ^ 250
  len : ts.length ≤ 1000
theorem dp_bg {K : PySem.W.Frag} {H : Hp} {v : V} {b : Int} {ts : List Int} (h : Bg H v b ts) : Dp K H v (bgD b ts) := by
  obtain ⟨p, q, rfl, h1, h2⟩ := h
  exact .tup (SqT.of h1) (.cons (.int b) (.cons (.tup (SqT.of h2) (dp_ints ts)) .nil))
/-- what repr asks of a datum -/
structure RepOk (d : PyData) : Prop where
  show_ : d.showable = true
  dict : d.hasDict = false
  depth : d.depth ≤ 64
  len : d.shown.length ≤ sizeLine
theorem bgD_depth (b : Int) (ts : List Int) : (bgD b ts).depth = 2 := by
  have e : PyData.depth (.tuple (ts.map PyData.int)) = 1 := by
    show PyData.depthAll (ts.map PyData.int) + 1 = 1
    rw [depth_ints]
  show max 0 (max (PyData.depth (.tuple (ts.map PyData.int))) 0) + 1 = 2
  rw [e]
  rfl
theorem bgD_short {b : Int} {ts : List Int} (h : BgS b ts) : (bgD b ts).leavesShort 100 = true := by
  simp only [bgD, PyData.leavesShort, PyData.leavesShortAll, Bool.and_eq_true, Bool.and_true]
  refine ⟨?_, ints_short h.hts⟩
  have := int_short h.hb
  simpa only [PyData.leavesShort] using this
theorem bgD_showable {b : Int} {ts : List Int} (h : BgS b ts) : (bgD b ts).showable = true := by
  simp only [bgD, PyData.showable, PyData.showableAll, Bool.and_eq_true, Bool.and_true]
  refine ⟨?_, ints_showable h.hts⟩
  have := int_showable h.hb
  simpa only [PyData.showable] using this
theorem ints_dict (ts : List Int) : PyData.hasDictAll (ts.map PyData.int) = false := by
  induction ts with
  | nil => simp only [List.map_nil, PyData.hasDictAll]
  | cons t ts ih => simp only [List.map_cons, PyData.hasDictAll, PyData.hasDict, ih, Bool.or_self]
theorem bgD_dict (b : Int) (ts : List Int) : (bgD b ts).hasDict = false := by
  simp only [bgD, PyData.hasDict, PyData.hasDictAll, ints_dict, Bool.or_self]
theorem bgD_bulk (b : Int) (ts : List Int) : (bgD b ts).bulk = ts.length + 2 := by
  simp only [bgD, PyData.bulk, PyData.bulkAll, ints_bulk]
  omega
theorem rep_bg {b : Int} {ts : List Int} (h : BgS b ts) : RepOk (bgD b ts) := by
  refine ⟨bgD_showable h, bgD_dict b ts, by rw [bgD_depth]; decide, ?_⟩
  have l := PyData.shown_le_bulk 100 (by decide) (bgD b ts) (bgD_short h)
  rw [bgD_bulk] at l
  have := h.len
  have e : sizeLine = 16777216 := by decide
  omega
theorem low_short {b : Int} {ts : List Int} (h : BgS b ts) : BgS (lowB b ts) (lowT b ts) := by
  refine ⟨Nat.lt_of_le_of_lt (Int.natAbs_ediv_le_natAbs _ _) h.hb, fun x hx => ?_, by unfold lowT; rw [List.length_map]; exact h.len⟩
  obtain ⟨t, ht, rfl⟩ := List.mem_map.mp hx
  exact Nat.lt_of_le_of_lt (Int.natAbs_ediv_le_natAbs _ _) (h.hts t ht)
theorem low_ok {b : Int} {ts : List Int} (h : BgOk b ts) : BgOk (lowB b ts) (lowT b ts) := by
  have b0 := h.1
  have p := lowB_pos (b := b) (by omega) ts
  refine ⟨by omega, ?_, ?_⟩
  · unfold lowT; rw [List.length_map]; exact h.2.1
  · unfold lowT; rw [List.length_map]; exact h.2.2
theorem rep_one {K : PySem.W.Frag} {H : Hp} {u : V} {b : Int} {ts : List Int} {Q : VK} (g : Bg H u b ts) (S : BgS b ts) (q : ∀ z, z = (bgD b ts).shown → Q (.str z) H) : rRepr K [u] H Q := by
  have d := dp_bg (K := K) g
  obtain ⟨p, r, rfl, _, _⟩ := g
  have R := rep_bg S
  exact ⟨p, _, rfl, d, R.show_, R.dict, R.depth, R.len, q _ rfl⟩
end Ft

set_option exponentiation.threshold 9000
namespace Ft
open PySem L2
theorem int_short7 {v : Int} (h : v.natAbs < 2 ^ 1900) : (PyData.int v).leavesShort 700 = true := by
  have key : (PyData.shown (.int v)).length ≤ 700 := by
    have p : (2 : Int) ^ 1900 < 10 ^ 650 := by decide
    have p2 : (2 : Int) ^ 1900 = ((2 ^ 1900 : Nat) : Int) := by rw [Int.natCast_pow]; rfl
    rcases Int.lt_or_le v 0 with h0 | h0
    · obtain ⟨m, rfl⟩ : ∃ m : Nat, v = Int.negSucc m := ⟨v.natAbs - 1, by omega⟩
      have l := PyProof.Rows.toString_length_le (v := ((m + 1 : Nat) : Int)) (by omega) (k := 650) (by decide) (Int.lt_trans (by rw [p2]; exact Int.ofNat_lt.mpr h) p)
      have e : toString (Int.negSucc m) = "-" ++ toString (m + 1) := rfl
      show (Str.ofString (toString (Int.negSucc m))).length ≤ 700
      rw [e, PyProof.Rows.ofString_length, String.toList_append, List.length_append]
      rw [PyProof.Rows.ofString_length] at l
      have l' : (toString (m + 1)).toList.length ≤ 650 := l
      have : "-".toList.length = 1 := by decide
      omega
    · have l := PyProof.Rows.toString_length_le h0 (k := 650) (by decide) (Int.lt_trans (by rw [p2]; omega) p)
      exact Nat.le_trans l (by decide)
  simpa only [PyData.leavesShort, decide_eq_true_eq] using key
theorem int_showable7 {v : Int} (h : v.natAbs < 2 ^ 1900) : (PyData.int v).showable = true := by
  have := PySem.Flt.log2_lt_of (by decide) h
  simp only [PyData.showable, decide_eq_true_eq]
  omega
structure Rs (k m : Nat) (d : PyData) : Prop where
  show_ : d.showable = true
  dict : d.hasDict = false
  depth : d.depth ≤ k
  short : d.leavesShort 700 = true
  bulk : d.bulk ≤ m
structure RsL (k m : Nat) (ds : List PyData) : Prop where
  show_ : PyData.showableAll ds = true
  dict : PyData.hasDictAll ds = false
  depth : PyData.depthAll ds ≤ k
  short : PyData.leavesShortAll 700 ds = true
  bulk : PyData.bulkAll ds ≤ m
theorem Rs.mono {k m k' m' : Nat} {d : PyData} (h : Rs k m d) (h1 : k ≤ k') (h2 : m ≤ m') : Rs k' m' d := ⟨h.show_, h.dict, Nat.le_trans h.depth h1, h.short, Nat.le_trans h.bulk h2⟩
theorem RsL.nil {k : Nat} : RsL k 0 [] := ⟨by simp only [PyData.showableAll], by simp only [PyData.hasDictAll], by simp only [PyData.depthAll]; omega, by simp only [PyData.leavesShortAll], by simp only [PyData.bulkAll]; omega⟩
theorem RsL.cons {k m n : Nat} {d : PyData} {ds : List PyData} (h : Rs k m d) (t : RsL k n ds) : RsL k (m + n + 2) (d :: ds) := by
  refine ⟨?_, ?_, ?_, ?_, ?_⟩
  · simp only [PyData.showableAll, h.show_, t.show_, Bool.and_self]
  · simp only [PyData.hasDictAll, h.dict, t.dict, Bool.or_self]
  · simp only [PyData.depthAll]
    have := h.depth
    have := t.depth
    omega
  · simp only [PyData.leavesShortAll, h.short, t.short, Bool.and_self]
  · simp only [PyData.bulkAll]
    have := h.bulk
    have := t.bulk
    omega
theorem Rs.tup {k m : Nat} {ds : List PyData} (t : RsL k m ds) : Rs (k + 1) (m + 2) (.tuple ds) := by
  refine ⟨?_, ?_, ?_, ?_, ?_⟩
  · simp only [PyData.showable, t.show_]
  · simp only [PyData.hasDict, t.dict]
  · simp only [PyData.depth]
    have := t.depth
    omega
  · simp only [PyData.leavesShort, t.short]
  · simp only [PyData.bulk]
    have := t.bulk
    omega
theorem Rs.list {k m : Nat} {ds : List PyData} (t : RsL k m ds) : Rs (k + 1) (m + 2) (.list ds) := by
  refine ⟨?_, ?_, ?_, ?_, ?_⟩
  · simp only [PyData.showable, t.show_]
  · simp only [PyData.hasDict, t.dict]
  · simp only [PyData.depth]
    have := t.depth
    omega
  · simp only [PyData.leavesShort, t.short]
  · simp only [PyData.bulk]
    have := t.bulk
    omega
theorem rs_int {v : Int} {k m : Nat} (h : v.natAbs < 2 ^ 1900) : Rs k (m + 1) (.int v) := ⟨int_showable7 h, by simp only [PyData.hasDict], by simp only [PyData.depth]; omega, int_short7 h, by simp only [PyData.bulk]; omega⟩
theorem rs_ints {k : Nat} : ∀ {ts : List Int}, (∀ x ∈ ts, x.natAbs < 2 ^ 1900) → RsL k (3 * ts.length) (ts.map PyData.int)
  | [], _ => .nil
  | t :: ts, h => by
    have := RsL.cons (rs_int (k := k) (m := 0) (h t List.mem_cons_self)) (rs_ints (k := k) (ts := ts) fun x hx => h x (List.mem_cons_of_mem _ hx))
    exact ⟨this.show_, this.dict, this.depth, this.short, Nat.le_trans this.bulk (by rw [List.length_cons]; omega)⟩
theorem Rs.rep {k m : Nat} {d : PyData} (h : Rs k m d) (hk : k ≤ 64) (hm : m ≤ 10000) : RepOk d := by
  refine ⟨h.show_, h.dict, Nat.le_trans h.depth hk, ?_⟩
  have l := PyData.shown_le_bulk 700 (by decide) d h.short
  have := h.bulk
  have e : sizeLine = 16777216 := by decide
  have b := Nat.mul_le_mul_left 702 (Nat.le_trans h.bulk hm)
  omega
theorem rs_bg {b : Int} {ts : List Int} (hb : b.natAbs < 2 ^ 1900) (ht : ∀ x ∈ ts, x.natAbs < 2 ^ 1900) (hl : ts.length ≤ 400) : Rs 2 1300 (bgD b ts) := (Rs.tup (RsL.cons (rs_int (m := 0) hb) (RsL.cons (Rs.tup (rs_ints (k := 0) ht)) .nil))).mono (Nat.le_refl _) (by omega)
theorem rep_big {K : PySem.W.Frag} {H : Hp} {u : V} {b : Int} {ts : List Int} {Q : VK} (g : Bg H u b ts) (hb : b.natAbs < 2 ^ 1900) (ht : ∀ x ∈ ts, x.natAbs < 2 ^ 1900) (hl : ts.length ≤ 400) (q : ∀ z, z = (bgD b ts).shown → Q (.str z) H) : rRepr K [u] H Q := by
  have d := dp_bg (K := K) g
  obtain ⟨p, r, rfl, _, _⟩ := g
  have R := (rs_bg hb ht hl).rep (by decide) (by decide)
  exact ⟨p, _, rfl, d, R.show_, R.dict, R.depth, R.len, q _ rfl⟩
theorem low_big {N : Nat} {b : Int} {ts : List Int} (hb : b.natAbs < N) (ht : ∀ x ∈ ts, x.natAbs < N) : (lowB b ts).natAbs < N ∧ ∀ x ∈ lowT b ts, x.natAbs < N := by
  refine ⟨Nat.lt_of_le_of_lt (Int.natAbs_ediv_le_natAbs _ _) hb, fun x hx => ?_⟩
  obtain ⟨t, h, rfl⟩ := List.mem_map.mp hx
  exact Nat.lt_of_le_of_lt (Int.natAbs_ediv_le_natAbs _ _) (ht t h)
end Ft

namespace Ft
open PySem L2 PySem.Spec PyProof.Rows
/-! ### any value that repr shows: leaves, lists, tuples, dicts with ints and texts as keys; N: where it may stand -/
def keyD : Key → PyData
  | .inl i => .int i
  | .inr x => .str x
inductive Rp (H : Hp) (a : Addr) (u : HO) : Prop
  | inl (e : H a = some u) : Rp H a u
theorem Rp.rd {H : Hp} {a : Addr} {u : HO} : Rp H a u → Rd H a u
  | .inl e => .inl e
instance {H : Hp} {a : Addr} {u : HO} : Coe (Rp H a u) (Rd H a u) := ⟨Rp.rd⟩
mutual
inductive Dq (H : Hp) (N : Addr → Prop) : V → PyData → Prop
  | non : Dq H N .non .none
  | bl (b : Bool) : Dq H N (.bl b) (.bool b)
  | int (i : Int) : Dq H N (.int i) (.int i)
  | str (x : Str) : Dq H N (.str x) (.str x)
  | lst {a : Addr} {xs : List V} {ds : List PyData} (n : N a) (e : Rp H a (.lst xs)) (h : DqAll H N xs ds) : Dq H N (.ref a) (.list ds)
  | tup {a : Addr} {xs : List V} {ds : List PyData} (n : N a) (e : Rp H a (.tup xs)) (h : DqAll H N xs ds) : Dq H N (.ref a) (.tuple ds)
  | dict {a : Addr} {kvs : List (Key × V)} {kds : List (PyData × PyData)} (n : N a) (e : H a = some (.dK kvs)) (hk : kds.map (·.1) = kvs.map fun kv => keyD kv.1) (h : DqAll H N (kvs.map (·.2)) (kds.map (·.2))) : Dq H N (.ref a) (.dict kds)
inductive DqAll (H : Hp) (N : Addr → Prop) : List V → List PyData → Prop
  | nil : DqAll H N [] []
  | cons {v : V} {vs : List V} {d : PyData} {ds : List PyData} (h : Dq H N v d) (t : DqAll H N vs ds) : DqAll H N (v :: vs) (d :: ds)
end
theorem Rp.move {H H' : Hp} {N : Addr → Prop} (m : ∀ b o, N b → H b = some o → (∀ ps, o ≠ .tbl ps) → H' b = some o) {a : Addr} {u : HO} (n : N a) (hu : ∀ ps, u ≠ .tbl ps) : Rp H a u → Rp H' a u
  | .inl e => .inl (m _ _ n e hu)
theorem Rp.ok' {H : Hp} {N M : Addr → Prop} (k : ∀ b o, N b → H b = some o → (∀ ps, o ≠ .tbl ps) → M b) {a : Addr} {u : HO} (n : N a) (hu : ∀ ps, u ≠ .tbl ps) : Rp H a u → M a
  | .inl e => k _ _ n e hu
mutual
theorem Dq.move {H H' : Hp} {N M : Addr → Prop} (m : ∀ b o, N b → H b = some o → (∀ ps, o ≠ .tbl ps) → H' b = some o) (k : ∀ b o, N b → H b = some o → (∀ ps, o ≠ .tbl ps) → M b) : ∀ {v : V} {d : PyData}, Dq H N v d → Dq H' M v d
  | _, _, .non => .non
  | _, _, .bl b => .bl b
  | _, _, .int i => .int i
  | _, _, .str x => .str x
  | _, _, .lst n e h => .lst (Rp.ok' k n (fun ps z => by cases z) e) (Rp.move m n (fun ps z => by cases z) e) (DqAll.move m k h)
  | _, _, .tup n e h => .tup (Rp.ok' k n (fun ps z => by cases z) e) (Rp.move m n (fun ps z => by cases z) e) (DqAll.move m k h)
  | _, _, .dict n e hk h => .dict (k _ _ n e fun ps z => by cases z) (m _ _ n e fun ps z => by cases z) hk (DqAll.move m k h)
theorem DqAll.move {H H' : Hp} {N M : Addr → Prop} (m : ∀ b o, N b → H b = some o → (∀ ps, o ≠ .tbl ps) → H' b = some o) (k : ∀ b o, N b → H b = some o → (∀ ps, o ≠ .tbl ps) → M b) : ∀ {vs : List V} {ds : List PyData}, DqAll H N vs ds → DqAll H' M vs ds
  | _, _, .nil => .nil
  | _, _, .cons h t => .cons (Dq.move m k h) (DqAll.move m k t)
end
theorem Dq.same {H H' : Hp} {N : Addr → Prop} {v : V} {d : PyData} (h : Dq H N v d) (s : Same H H') : Dq H' N v d := h.move (fun b o _ e _ => s b o e) fun _ _ n _ _ => n
theorem Dq.ext {H H' : Hp} {N : Addr → Prop} {v : V} {d : PyData} (h : Dq H N v d) (s : LamX.ExtN H H') : Dq H' N v d := h.move (fun b o _ e n => s b o e n) fun _ _ n _ _ => n
theorem Dq.any {H : Hp} {N : Addr → Prop} {v : V} {d : PyData} (h : Dq H N v d) : Dq H (fun _ => True) v d := h.move (fun _ _ _ e _ => e) fun _ _ _ _ _ => trivial
/-- away from a deck -/
def Off (d l : Addr) : Addr → Prop := fun a => a ≠ d ∧ a ≠ l
theorem Dq.but {H H' : Hp} {d l : Addr} {v : V} {D : PyData} (h : Dq H (Off d l) v D) (bt : But d l H H') : Dq H' (Off d l) v D := h.move (fun b o n e _ => bt b o e n.1 n.2) fun _ _ n _ _ => n
theorem DqAll.same {H H' : Hp} {N : Addr → Prop} {v : List V} {d : List PyData} (h : DqAll H N v d) (s : Same H H') : DqAll H' N v d := h.move (fun b o _ e _ => s b o e) fun _ _ n _ _ => n
theorem mem_short {ts : List Str} {x : Str} {B : Nat} (f : List Str → Str) (hf : ∀ {ts t}, t ∈ ts → t.length ≤ (f ts).length) (z : (f ts).length ≤ B) (h : x ∈ ts) : x.length ≤ B := Nat.le_trans (hf h) z
theorem reads_keys {h : Heap} {P : Program} {w : World} {es : List DictEntry} {vs : List (Key × Value)} (p : Pairs (mixKind P w) es vs) : ReadsAll h (es.map (·.key)) (vs.map fun kv => keyD kv.1) [] := by
  induction p with
  | nil => exact .nil
  | @cons e kv es kvs h1 h2 t ih =>
    obtain ⟨k, u⟩ := kv
    rcases keyIs_shape h1 with ⟨i, y, a, b⟩ | ⟨i, y, a, b⟩
    · have a : k = Sum.inl i := a
      subst a
      show ReadsAll h (e.key :: _) (PyData.int i :: _) ([] ++ [])
      rw [b]
      exact .cons (.int i y) ih
    · have a : k = Sum.inr i := a
      subst a
      show ReadsAll h (e.key :: _) (PyData.str i :: _) ([] ++ [])
      rw [b]
      exact .cons (.str i y) ih
theorem pairs_vals {P : Program} {w : World} {es : List DictEntry} {vs : List (Key × Value)} (p : Pairs (mixKind P w) es vs) : es.map (·.val) = vs.map (·.2) := by
  induction p with
  | nil => rfl
  | @cons e kv es kvs h1 h2 t ih => rw [List.map_cons, List.map_cons, h2, ih]
theorem kv_vals {kvs : List (Key × V)} {vs : List (Key × Value)} (r : KV kvs vs) : Vals (kvs.map (·.2)) (vs.map (·.2)) := by
  unfold KV at r
  induction r with
  | nil => exact .nil
  | cons h t ih => exact .cons h.2 ih
theorem noDict_keys : ∀ l : List (Key × V), PyData.hasDictAll (l.map fun kv => keyD kv.1) = false
  | [] => by simp only [List.map_nil, PyData.hasDictAll]
  | (.inl i, _) :: r => by
    have h := noDict_keys r
    rw [List.map_cons]
    simp only [PyData.hasDictAll, h, Bool.or_false]
    rfl
  | (.inr i, _) :: r => by
    have h := noDict_keys r
    rw [List.map_cons]
    simp only [PyData.hasDictAll, h, Bool.or_false]
    rfl
section
variable {X : Cx} {pins : List (Addr × Obj)} {σ : L2.St} {H : Hp} {s : Shared} {N : Addr → Prop}
/-- a value's repr within another's -/
abbrev Shows (P : Program) (w : World) (h : Heap) (n : Nat) (u : Value) (d : PyData) : Prop := ∃ as bs, Reads h u d as ∧ ReadAtMost h n bs ∧ ReprK P w bs h n u d.shown
abbrev ShowsAll (P : Program) (w : World) (h : Heap) (us : List Value) (ds : List PyData) : Prop := ∃ as bs, ReadsAll h us ds as ∧ ReadAtMost h (PyData.depthAll ds) bs ∧ ReprAllK P w bs h (PyData.depthAll ds) us (PyData.shownAll ds)
theorem tup_shows {a : Addr} {o : Obj} {n : Nat} {its : List Value} {ds : List PyData} {h : Heap} {P : Program} {w : World} (g : h.get? a = some o) (c : o.cls = .type "tuple") (dt : o.data = .seq its.toArray n) (q : ShowsAll P w h its ds) : Shows P w h (PyData.tuple ds).depth (.ref a) (.tuple ds) := by
  obtain ⟨as, bs, r, m, k⟩ := q
  have rr : Reads h (.ref a) (.tuple ds) as := .tuple g c dt r
  have lt : PyData.depthAll ds < (PyData.tuple ds).depth := by simp only [PyData.depth]; omega
  refine ⟨as, a :: bs, rr, m.cons rr (Nat.le_of_lt lt), ?_⟩
  have z := ReprK.tuple g c dt (not_mem_of_deeper rr lt m) k
  simpa only [PyData.depth, PyData.shown] using z
theorem lst_shows {a : Addr} {o : Obj} {n : Nat} {its : List Value} {ds : List PyData} {h : Heap} {P : Program} {w : World} (g : h.get? a = some o) (c : o.cls = .type "list") (dt : o.data = .seq its.toArray n) (q : ShowsAll P w h its ds) : Shows P w h (PyData.list ds).depth (.ref a) (.list ds) := by
  obtain ⟨as, bs, r, m, k⟩ := q
  have rr : Reads h (.ref a) (.list ds) (a :: as) := .list g c dt r
  have lt : PyData.depthAll ds < (PyData.list ds).depth := by simp only [PyData.depth]; omega
  refine ⟨_, a :: bs, rr, m.cons rr (Nat.le_of_lt lt), ?_⟩
  have nm := not_mem_of_deeper rr lt m
  cases its with
  | nil =>
    cases r
    have z := ReprK.listEmpty (prog := P) (w := w) (as := a :: bs) (d := (PyData.list []).depth) g c dt
    simpa only [PyData.shown, PyData.shownAll, listText_nil] using z
  | cons x l =>
    have z := ReprK.list g c dt nm (by simpa using k.length_eq) fun i y e => k.item i y (by simpa using e)
    simpa only [PyData.depth, PyData.shown] using z
theorem dict_shows {a : Addr} {kvs : List (Key × V)} {kds : List (PyData × PyData)} (ok : HOk X.prog X.w H s.heap) (e : H a = some (.dK kvs)) (hk : kds.map (·.1) = kvs.map fun kv => keyD kv.1) (hz : (PyData.dict kds).shown.length ≤ sizeLine) (hs : (PyData.dict kds).showable = true)
    (q : ∀ us, Vals (kvs.map (·.2)) us → ShowsAll X.prog X.w s.heap us (kds.map (·.2))) : (∃ (o : Obj) (es : Array DictEntry) (n : Nat) (bs : List Addr), s.heap.get? a = some o ∧ o.cls = .type "dict" ∧ o.data = .dict es n ∧ (a == sysModules) = false ∧ a ∉ bs ∧
      ReprEntriesK X.prog X.w bs s.heap (PyData.depthKv kds) es.toList (List.zipWith (fun k v : Str => k ++ ": " ++ v) (PyData.shownAll (kds.map (·.1))) (PyData.shownAll (kds.map (·.2))))) ∧ Shows X.prog X.w s.heap (PyData.dict kds).depth (.ref a) (.dict kds) := by
  obtain ⟨_, sm, vs, rel, o, es, ep, g, ex, dt, _, pr, _⟩ := dk_of ok e
  have hkeys : kvs.map (fun kv => keyD kv.1) = vs.map fun kv => keyD kv.1 := by
    have := congrArg (List.map keyD) rel.keys
    rw [List.map_map, List.map_map] at this
    exact this
  have r1 : ReadsAll s.heap (es.toList.map (·.key)) (kds.map (·.1)) [] := by
    rw [hk, hkeys]
    exact reads_keys pr
  obtain ⟨as2, b2, r2, m2, k2⟩ := q (es.toList.map (·.val)) (by rw [pairs_vals pr]; exact kv_vals rel)
  have z' : (dictText (PyData.shownKv kds)).length ≤ sizeLine := by simpa only [PyData.shown] using hz
  obtain ⟨s1, s2⟩ := PyData.showableKv_split kds (by simpa [PyData.showable] using hs)
  obtain ⟨b1, m1, k1⟩ := ReprAllK.of_readsAll (prog := X.prog) (w := X.w) r1 s1 (fun y => by rw [hk, noDict_keys] at y; cases y) fun t ht => by
    obtain ⟨p, hp, hl⟩ := PyData.shownKv_key_le kds t ht
    exact Nat.le_trans hl (mem_short dictText dictText_mem_le z' hp)
  have rr : Reads s.heap (.ref a) (.dict kds) _ := .dict g ex.1 dt r1 r2
  have mm : ReadAtMost s.heap (PyData.depthKv kds) (b1 ++ b2) := ReadAtMost.append (m1.mono (PyData.depthAll_keys_le kds)) (m2.mono (PyData.depthAll_vals_le kds))
  have lt : PyData.depthKv kds < (PyData.dict kds).depth := by simp only [PyData.depth]; omega
  have nm := not_mem_of_deeper rr lt mm
  have ent := ReprEntriesK.of_two (prog := X.prog) (w := X.w) (h₀ := s.heap) (as := b1 ++ b2) (d := PyData.depthKv kds) es.toList _ _ (k1.more_le (fun b hb => List.mem_append.mpr (.inl hb)) (PyData.depthAll_keys_le kds)) (k2.more_le (fun b hb => List.mem_append.mpr (.inr hb)) (PyData.depthAll_vals_le kds))
  refine ⟨⟨o, es, ep, _, g, ex.1, dt, sm, nm, ent⟩, _, a :: (b1 ++ b2), rr, mm.cons rr (Nat.le_of_lt lt), ?_⟩
  have z := ReprK.dict g ex.1 dt sm nm ent
  simpa only [PyData.depth, PyData.shown, PyData.shownKv_eq] using z
mutual
theorem Dq.shows (ok : HOk X.prog X.w H s.heap) : ∀ {v : V} {d : PyData}, Dq H N v d → ∀ {u : Value}, RelV v u → d.showable = true → d.shown.length ≤ sizeLine → Shows X.prog X.w s.heap d.depth u d
  | _, _, .non, _, r, hs, hz => by
    cases r
    obtain ⟨bs, m, k⟩ := ReprK.of_reads (prog := X.prog) (w := X.w) (h₀ := s.heap) .none hs (fun y => by simp [PyData.hasDict] at y) hz
    exact ⟨_, _, .none, m, k⟩
  | _, _, .bl b, _, r, hs, hz => by
    cases r
    obtain ⟨bs, m, k⟩ := ReprK.of_reads (prog := X.prog) (w := X.w) (h₀ := s.heap) (.bool b) hs (fun y => by simp [PyData.hasDict] at y) hz
    exact ⟨_, _, .bool b, m, k⟩
  | _, _, .int i, _, r, hs, hz => by
    obtain ⟨t, rfl⟩ := r
    obtain ⟨bs, m, k⟩ := ReprK.of_reads (prog := X.prog) (w := X.w) (h₀ := s.heap) (.int i t) hs (fun y => by simp [PyData.hasDict] at y) hz
    exact ⟨_, _, .int i t, m, k⟩
  | _, _, .str x, _, r, hs, hz => by
    obtain ⟨t, rfl⟩ := r
    obtain ⟨bs, m, k⟩ := ReprK.of_reads (prog := X.prog) (w := X.w) (h₀ := s.heap) (.str x t) hs (fun y => by simp [PyData.hasDict] at y) hz
    exact ⟨_, _, .str x t, m, k⟩
  | _, _, .lst (xs := xs) (ds := ds) _ e h, _, r, hs, hz => by
    cases r
    obtain ⟨_, its, n, rv, g⟩ := (show ObjOk X.prog X.w H s.heap _ (.lst xs) from e.rd.ok ok)
    exact lst_shows g rfl rfl (DqAll.shows ok h rv (by simpa [PyData.showable] using hs) fun t ht => mem_short listText listText_mem_le (by simpa only [PyData.shown] using hz) ht)
  | _, _, .tup (xs := xs) (ds := ds) _ e h, _, r, hs, hz => by
    cases r
    obtain ⟨_, its, rv, o, g, c, n, dt⟩ := (show ObjOk X.prog X.w H s.heap _ (.tup xs) from e.rd.ok ok)
    exact tup_shows g c dt (DqAll.shows ok h rv (by simpa [PyData.showable] using hs) fun t ht => mem_short tupleText tupleText_mem_le (by simpa only [PyData.shown] using hz) ht)
  | _, _, .dict (kvs := kvs) (kds := kds) _ e hk h, _, r, hs, hz => by
    cases r
    have z' : (dictText (PyData.shownKv kds)).length ≤ sizeLine := by simpa only [PyData.shown] using hz
    refine (dict_shows ok e hk hz hs fun us rv => DqAll.shows ok h rv (PyData.showableKv_split kds (by simpa [PyData.showable] using hs)).2 fun t ht => ?_).2
    obtain ⟨p, hp, hl⟩ := PyData.shownKv_val_le kds t ht
    exact Nat.le_trans hl (mem_short dictText dictText_mem_le z' hp)
theorem DqAll.shows (ok : HOk X.prog X.w H s.heap) : ∀ {vs : List V} {ds : List PyData}, DqAll H N vs ds → ∀ {us : List Value}, Vals vs us → PyData.showableAll ds = true → (∀ t ∈ PyData.shownAll ds, t.length ≤ sizeLine) → ShowsAll X.prog X.w s.heap us ds
  | _, _, .nil, _, r, _, _ => by
    cases r
    exact ⟨_, [], .nil, (fun _ y => by cases y), by simp only [PyData.shownAll]; exact .nil⟩
  | _, _, .cons (d := d) (ds := ds) h t, _, r, hs, hz => by
    cases r with
    | cons r1 r2 =>
      have hs' : d.showable = true ∧ PyData.showableAll ds = true := by simpa [PyData.showableAll] using hs
      obtain ⟨a1, b1, q1, m1, k1⟩ := Dq.shows ok h r1 hs'.1 (hz _ (by simp only [PyData.shownAll]; exact List.mem_cons_self))
      obtain ⟨a2, b2, q2, m2, k2⟩ := DqAll.shows ok t r2 hs'.2 fun t ht => hz t (by simp only [PyData.shownAll]; exact List.mem_cons_of_mem _ ht)
      have l1 : d.depth ≤ PyData.depthAll (d :: ds) := by simp only [PyData.depthAll]; omega
      have l2 : PyData.depthAll ds ≤ PyData.depthAll (d :: ds) := by simp only [PyData.depthAll]; omega
      refine ⟨_, b1 ++ b2, .cons q1 q2, (m1.mono l1).append (m2.mono l2), ?_⟩
      simp only [PyData.shownAll]
      exact .cons ((k1.more fun b hb => List.mem_append.mpr (.inl hb)).level_le l1) (k2.more_le (fun b hb => List.mem_append.mpr (.inr hb)) l2)
end
end
end Ft

namespace Ft
open PySem L2 PySem.Spec PyProof.Rows
structure RepQ (d : PyData) : Prop where
  show_ : d.showable = true
  depth : d.depth ≤ 64
  len : d.shown.length ≤ sizeLine
/-- repr of any value -/
def rReprQ : List V → Hp → VK → Prop := fun xs H Q => ∃ v d N, xs = [v] ∧ Dq H N v d ∧ RepQ d ∧ Q (.str d.shown) H
theorem call_reprU {X : Cx} (hgd : X.A.guards = some []) (un : X.A.units + 200 < cLine) : CallR X (.builtin "repr") rReprQ := by
  intro pins s σ H xs us Q I r h
  obtain ⟨v, d, N, rfl, hd, ⟨h1, h2, h3⟩, q⟩ := h
  obtain ⟨u, rfl, rx⟩ := vals1 r
  have fin : ∀ (h' : Heap) (u : Tok) (tk : Nat), (∀ b o, s.heap.get? b = some o → h'.get? b = some o) → ∃ (v : V) (H' : Hp), Inv X pins σ H' { s with heap := h', toks := tk } ∧ RelV v (.str d.shown u) ∧ Q v H' := fun h' u tk kept => ⟨.str d.shown, H, I.kept kept, ⟨_, rfl⟩, q⟩
  have tk1 : ∃ (v : V) (H' : Hp), Inv X pins σ H' { s with toks := s.toks + 1 } ∧ RelV v (.str d.shown s.toks) ∧ Q v H' := ⟨.str d.shown, H, I.tok _, ⟨_, rfl⟩, q⟩
  cases hd with
  | non => cases rx; exact P.repr_of_none tk1
  | bl b => cases rx; exact P.repr_of_bool tk1
  | int i =>
    obtain ⟨t, rfl⟩ := rx
    exact P.repr_of_int (by simpa [PyData.showable] using h1) tk1
  | str x =>
    obtain ⟨t, rfl⟩ := rx
    exact P.repr_of_str tk1 (by simpa only [PyData.shown] using h3)
  | @lst a xs ds _ e h =>
    cases rx
    obtain ⟨_, its, n, rv, g⟩ := (show ObjOk X.prog X.w H s.heap _ (.lst xs) from e.rd.ok I.hok)
    have z' : (listText (PyData.shownAll ds)).length ≤ sizeLine := by simpa only [PyData.shown] using h3
    obtain ⟨as, bs, rd, m, k⟩ := DqAll.shows I.hok h rv (by simpa [PyData.showable] using h1) fun t ht => mem_short listText listText_mem_le z' ht
    have rr : Reads s.heap (.ref a) (.list ds) (a :: as) := .list g rfl rfl rd
    have lt : PyData.depthAll ds < (PyData.list ds).depth := by simp only [PyData.depth]; omega
    have nm := not_mem_of_deeper rr lt m
    refine call_repr_slot (by omega) ⟨_, g, rfl⟩ F.slot_list_repr.toG ?_
    have un2 : X.A.in1.units + (PyData.depthAll ds + 1) < cLine := by
      show X.A.units + 1 + _ < _
      simp only [PyData.depth] at h2
      omega
    simp only [PyData.shown] at fin tk1
    cases its with
    | nil =>
      cases rd
      simp only [PyData.shownAll, listText_nil] at tk1
      exact call_list_repr_empty ⟨_, g, rfl⟩ g rfl ⟨_, _, rfl, tk1⟩
    | cons x l => exact call_list_reprK g rfl rfl nm (by simpa using k.length_eq) (fun i y e => k.item i y (by simpa using e)) hgd (fun b _ => Clear.nil b) un2 (fun _ _ e => e) (fun h' u tk kp => ⟨_, _, rfl, fin h' u tk kp⟩) z'
  | @tup a xs ds _ e h =>
    cases rx
    obtain ⟨_, its, rv, o, g, c, n, dt⟩ := (show ObjOk X.prog X.w H s.heap _ (.tup xs) from e.rd.ok I.hok)
    have z' : (tupleText (PyData.shownAll ds)).length ≤ sizeLine := by simpa only [PyData.shown] using h3
    obtain ⟨as, bs, rd, m, k⟩ := DqAll.shows I.hok h rv (by simpa [PyData.showable] using h1) fun t ht => mem_short tupleText tupleText_mem_le z' ht
    have rr : Reads s.heap (.ref a) (.tuple ds) as := .tuple g c dt rd
    have lt : PyData.depthAll ds < (PyData.tuple ds).depth := by simp only [PyData.depth]; omega
    have nm := not_mem_of_deeper rr lt m
    refine call_repr_slot (by omega) ⟨_, g, c⟩ F.slot_tuple_repr ?_
    have un2 : X.A.in1.units + (PyData.depthAll ds + 1) < cLine := by
      show X.A.units + 1 + _ < _
      simp only [PyData.depth] at h2
      omega
    simp only [PyData.shown] at fin
    exact call_tuple_reprK g c dt nm k hgd (fun b _ => Clear.nil b) un2 (fun _ _ e => e) (fun h' u tk kp => ⟨_, _, rfl, fin h' u tk kp⟩) z'
  | @dict a kvs kds _ e hk h =>
    cases rx
    have z' : (dictText (PyData.shownKv kds)).length ≤ sizeLine := by simpa only [PyData.shown] using h3
    obtain ⟨⟨o, es, n, bs, g, c, dt, sm, nm, ent⟩, _⟩ := dict_shows I.hok e hk h3 h1 fun us rv => DqAll.shows I.hok h rv (PyData.showableKv_split kds (by simpa [PyData.showable] using h1)).2 fun t ht => by
      obtain ⟨p, hp, hl⟩ := PyData.shownKv_val_le kds t ht
      exact Nat.le_trans hl (mem_short dictText dictText_mem_le z' hp)
    refine call_repr_slot (by omega) ⟨_, g, c⟩ F.slot_dict_repr ?_
    have un2 : X.A.in1.units + (PyData.depthKv kds + 1) < cLine := by
      show X.A.units + 1 + _ < _
      simp only [PyData.depth] at h2
      omega
    simp only [PyData.shown, PyData.shownKv_eq] at fin
    exact call_dict_reprK g c dt sm nm ent hgd (fun b _ => Clear.nil b) un2 (fun _ _ e => e) (fun h' u tk kp => ⟨_, _, rfl, fin h' u tk kp⟩) (by rw [← PyData.shownKv_eq]; exact z')
/-! small data, dicts too -/
theorem call_reprQ {X : Cx} {k : Nat} (hgd : X.A.guards = some []) (hr : Room k X.A) : CallR X (.builtin "repr") rReprQ := call_reprU hgd (by have := hr.un; omega)
structure Sq (k m : Nat) (d : PyData) : Prop where
  show_ : d.showable = true
  depth : d.depth ≤ k
  short : d.leavesShort 700 = true
  bulk : d.bulk ≤ m
structure SqA (k m : Nat) (ds : List PyData) : Prop where
  show_ : PyData.showableAll ds = true
  depth : PyData.depthAll ds ≤ k
  short : PyData.leavesShortAll 700 ds = true
  bulk : PyData.bulkAll ds ≤ m
theorem Rs.q {k m : Nat} {d : PyData} (h : Rs k m d) : Sq k m d := ⟨h.show_, h.depth, h.short, h.bulk⟩
theorem RsL.q {k m : Nat} {d : List PyData} (h : RsL k m d) : SqA k m d := ⟨h.show_, h.depth, h.short, h.bulk⟩
theorem Sq.mono {k m k' m' : Nat} {d : PyData} (h : Sq k m d) (h1 : k ≤ k') (h2 : m ≤ m') : Sq k' m' d := ⟨h.show_, Nat.le_trans h.depth h1, h.short, Nat.le_trans h.bulk h2⟩
theorem SqA.nil {k : Nat} : SqA k 0 [] := RsL.nil.q
theorem SqA.cons {k m n : Nat} {d : PyData} {ds : List PyData} (h : Sq k m d) (t : SqA k n ds) : SqA k (m + n + 2) (d :: ds) := by
  refine ⟨?_, ?_, ?_, ?_⟩
  · simp only [PyData.showableAll, h.show_, t.show_, Bool.and_self]
  · simp only [PyData.depthAll]
    have := h.depth
    have := t.depth
    omega
  · simp only [PyData.leavesShortAll, h.short, t.short, Bool.and_self]
  · simp only [PyData.bulkAll]
    have := h.bulk
    have := t.bulk
    omega
theorem Sq.tup {k m : Nat} {ds : List PyData} (t : SqA k m ds) : Sq (k + 1) (m + 2) (.tuple ds) := by
  refine ⟨?_, ?_, ?_, ?_⟩
  · simp only [PyData.showable, t.show_]
  · simp only [PyData.depth]
    have := t.depth
    omega
  · simp only [PyData.leavesShort, t.short]
  · simp only [PyData.bulk]
    have := t.bulk
    omega
theorem Sq.list {k m : Nat} {ds : List PyData} (t : SqA k m ds) : Sq (k + 1) (m + 2) (.list ds) := by
  refine ⟨?_, ?_, ?_, ?_⟩
  · simp only [PyData.showable, t.show_]
  · simp only [PyData.depth]
    have := t.depth
    omega
  · simp only [PyData.leavesShort, t.short]
  · simp only [PyData.bulk]
    have := t.bulk
    omega
theorem Sq.rep {k m : Nat} {d : PyData} (h : Sq k m d) (hk : k ≤ 64) (hm : m ≤ 10000) : RepQ d := by
  refine ⟨h.show_, Nat.le_trans h.depth hk, ?_⟩
  have l := PyData.shown_le_bulk 700 (by decide) d h.short
  have := h.bulk
  have e : sizeLine = 16777216 := by decide
  have b := Nat.mul_le_mul_left 702 (Nat.le_trans h.bulk hm)
  omega
/-! types of any value -/
def tyD : PyData → String
  | .none => "NoneType"
  | .bool _ => "bool"
  | .int _ => "int"
  | .str _ => "str"
  | .list _ => "list"
  | .tuple _ => "tuple"
  | .dict _ => "dict"
theorem Dq.ty {K : PySem.W.Frag} {H : Hp} {N : Addr → Prop} {v : V} {d : PyData} (h : Dq H N v d) : TyX K H v (.type (tyD d)) := by
  cases h with
  | non => exact .base .non
  | bl b => exact .base (.bl b)
  | int i => exact .base (.int i)
  | str x => exact .base (.str x)
  | lst n e h => exact e.rd.elim (fun e => .base (.lst e)) fun ⟨o, e⟩ => .base (.frz e)
  | tup n e h => exact e.rd.elim (fun e => .base (.tup e)) fun ⟨o, e⟩ => .fTuple e
  | dict n e hk h => exact .base (.dK e)
def isIntD : PyData → Bool
  | .int _ => true
  | _ => false
def isBoolD : PyData → Bool
  | .bool _ => true
  | _ => false
theorem kit_tab {K : PySem.W.Frag} {a b : String} (r : Bool) (h : kitB a b = some r := by decide +kernel) : PySem.W.kitOne K (.type a) (.type b) = some r := kit_ty h
theorem kit_intD {K : PySem.W.Frag} : ∀ d : PyData, PySem.W.kitOne K (.type (tyD d)) (.type "int") = some (isIntD d || isBoolD d)
  | .none => kit_tab (a := "NoneType") (b := "int") false
  | .bool _ => kit_tab (a := "bool") (b := "int") true
  | .int _ => kit_tab (a := "int") (b := "int") true
  | .str _ => kit_tab (a := "str") (b := "int") false
  | .list _ => kit_tab (a := "list") (b := "int") false
  | .tuple _ => kit_tab (a := "tuple") (b := "int") false
  | .dict _ => kit_tab (a := "dict") (b := "int") false
theorem kit_boolD {K : PySem.W.Frag} : ∀ d : PyData, PySem.W.kitOne K (.type (tyD d)) (.type "bool") = some (isBoolD d)
  | .none => kit_tab (a := "NoneType") (b := "bool") false
  | .bool _ => kit_tab (a := "bool") (b := "bool") true
  | .int _ => kit_tab (a := "int") (b := "bool") false
  | .str _ => kit_tab (a := "str") (b := "bool") false
  | .list _ => kit_tab (a := "list") (b := "bool") false
  | .tuple _ => kit_tab (a := "tuple") (b := "bool") false
  | .dict _ => kit_tab (a := "dict") (b := "bool") false
def isTupD : PyData → Bool
  | .tuple _ => true
  | _ => false
theorem kit_tupD {K : PySem.W.Frag} : ∀ d : PyData, PySem.W.kitOne K (.type (tyD d)) (.type "tuple") = some (isTupD d)
  | .none => kit_tab (a := "NoneType") (b := "tuple") false
  | .bool _ => kit_tab (a := "bool") (b := "tuple") false
  | .int _ => kit_tab (a := "int") (b := "tuple") false
  | .str _ => kit_tab (a := "str") (b := "tuple") false
  | .list _ => kit_tab (a := "list") (b := "tuple") false
  | .tuple _ => kit_tab (a := "tuple") (b := "tuple") true
  | .dict _ => kit_tab (a := "dict") (b := "tuple") false
end Ft

set_option maxHeartbeats 4000000
namespace Ft
open PySem PySem.Spec PySem.Calls PyProof.Rows
section
open PySem.W
variable {prog : Program} {w : World} {A : Around} {E : Value → Shared → Prop} {s : Shared} {K : Frag} {x D : Addr} {ox od : Obj}
theorem findObj_data {name : Str} {a g : Value} (hc : (clsIn K D).isSome = true) (ha : findIn K (.ref D) name = some (some a)) (hg : specialIn K a "__get__" = some (some g)) (ht : takesIn K a = some true) : findObj K D (some od) name = some (.bind g a) := by
  obtain ⟨cd, hc⟩ := Option.isSome_iff_exists.mp hc
  unfold findObj
  simp [hc, ha, hg, ht]
/-- __class__ of a caught error that has a dict -/
theorem class_exc {Q : Option Value → Shared → Prop} (T : L2.ExcC K D) (X : K.In s.heap) (I : InstAt s.heap x ox D (some od))
    (h : Q (some (.ref D)) { s with toks := s.toks + 1 }) : wpAny (model prog w) A (getAttr? (.ref x) "__class__") Q E s := by
  obtain ⟨ga, gg, sb, hd, hc, hn, ht, hm⟩ := T
  have hf : findObj K D (some od) "__class__" = some (.bind (.builtin "getset_descriptor.__get__") (.builtin "object.__class__")) := findObj_data (by obtain ⟨cd, hc, _⟩ := any_some hd; rw [hc]; rfl) hc hn ht
  obtain ⟨hp, g, d, t, os⟩ := s
  have A0 := I.type (M := model prog w)
  have A1 := looks_findIn (M := model prog w) X ga
  have A2 := looks_findIn (M := model prog w) X gg
  have A3 := looks_find (M := model prog w) X I hf
  have sub : Looks (model prog w) hp (isInstance (.ref x) (.type "BaseException")) true := A0.andThen (looks_subIn X sb)
  have n0 : (false && onTheHeap (Value.builtin "BaseException.__getattribute__")) = false := rfl
  have n2 : (Value.builtin "BaseException.__getattribute__" == Value.builtin "object.__getattribute__") = false := by decide +kernel
  have n1 : (onTheHeap (Value.ref D) && Value.builtin "BaseException.__getattribute__" == Value.builtin "object.__getattribute__") = false := by rw [n2]; rfl
  unfold getAttr? getAttrBy? getAttrBy
  refine wpAny_bind (wpAny_mkText (wpAny_bind (wpAny_attempt (wpAny_holding (wpAny_bind (A0.at (wpAny_bind (A1.at ?_))))))))
  show wpAny _ _ (if (onTheHeap (Value.ref D) && Value.builtin "BaseException.__getattribute__" == Value.builtin "object.__getattribute__") = true then _ else _) _ _ _
  rw [n1, if_neg Bool.false_ne_true]
  unfold getAttrByItsOwn hookBefore
  refine wpAny_bind ?_
  rw [if_pos (show onTheHeap (Value.ref D) = true from rfl)]
  refine A2.at ?_
  refine wpAny_bind (wpAny_attempt (wpAny_holding ?_))
  unfold callGetattribute
  rw [n0, if_neg Bool.false_ne_true]
  unfold boundAndCalled
  rw [PySem.F.excAttr_ValueError.ga.bind (.ref x)]
  refine wpAny_bind (wpAny_pure ?_)
  show wpAny _ _ (call (.builtin "BaseException.__getattribute__") [.ref x, .str "__class__" t]) _ _ _
  refine wpAny_call (codeAny_call_builtin PySem.F.excAttr_ValueError.ga.plain PySem.F.entry_bexc_ga ?_)
  refine @check_slot (model prog w) _ _ ⟨hp, g, d, t + 1, os⟩ "BaseException.__getattribute__" "BaseException" "__getattribute__" (.ref x) [.str "__class__" t] [] _ (by decide +kernel) (by decide +kernel) sub (PySem.F.args_bexc_ga (.ref x) (.str "__class__" t)) ?_
  unfold Builtin.«object.__getattribute__»
  refine wpAny_bind (wpAny_of_eq (a := ((Value.ref x : Value), [Value.str "__class__" t])) (by first | rfl | (simp only [slotArgs]; rfl)) ?_)
  refine wpAny_bind (wpAny_pure (wpAny_bind (A0.at (wpAny_bind (A3.at ?_)))))
  show wpAny _ _ (holding [Value.builtin "object.__class__"] (call (.builtin "getset_descriptor.__get__") [.builtin "object.__class__", .ref x, .ref D]) >>= ret) _ _ _
  refine wpAny_bind (wpAny_holding (wpAny_call (class_get (s := ⟨hp, g, d, t + 1, os⟩) (ox := ox) (od := some od) X I hm ?_)))
  refine wpAny_pure ?_
  show wpAny _ _ (handedOut (.ref D)) _ _ _
  rw [handedOut_of (v := .ref D) rfl]
  first
    | exact wpAny_pure (wpAny_pure h)
    | exact wpAny_pure h
    | exact wpAny_pure (wpAny_bind (wpAny_pure (wpAny_pure h)))
theorem kitx_exc (T : L2.ExcC K D) : KitX K (.ref x) (.ref D) (fun h => InstAt h x ox D (some od)) where
  ty := fun _ _ _ I => I.type
  it := fun _ h X _ => by
    obtain ⟨cd, hc, _⟩ := any_some T.hd
    unfold clsIn at hc
    split at hc
    · rename_i ho
      intro A' Q' E' s' k q
      unfold isType loadHead
      exact wpAny_bind (wpAny_loadPart (k _ _ (X _ _ ho)) (wpAny_pure q))
    · cases hc
  ne := (handS_kitx_exc (x := x) (ox := ox) T.hg T.hk T.hs T.hd T.ha T.hn T.ht T.hm).ne
  ca := fun X I k => class_exc T X I k
end
end Ft
namespace Ft
open PySem PySem.Spec PyProof.Rows L2
/-- isinstance(e, c), e the error that the suite holds, whose fields stand in a dict -/
def rIsD (K : PySem.W.Frag) (a : Addr) (cls : Value) (d : Option Addr) : List V → Hp → VK → Prop := fun xs H Q => ∃ (D dd : Addr) (fs : List (Str × V)) (c : V) (u : Value) (b : Bool), xs = [.ref a, c] ∧ cls = .ref D ∧ d = some dd ∧ L2.ExcC K D ∧ H dd = some (.xd fs) ∧ ClsV c u ∧ PySem.W.kitOne K (.ref D) u = some b ∧ Q (.bl b) H
/-- isinstance(e, (c1, c2)) -/
def rIsDT (K : PySem.W.Frag) (a : Addr) (cls : Value) (d : Option Addr) : List V → Hp → VK → Prop := fun xs H Q => ∃ (D dd tp : Addr) (fs : List (Str × V)) (cs : List V) (us : List Value) (b : Bool), xs = [.ref a, .ref tp] ∧ cls = .ref D ∧ d = some dd ∧ L2.ExcC K D ∧ H dd = some (.xd fs) ∧ H tp = some (.tup cs) ∧ Paired ClsV cs us ∧ PySem.W.kitAny K (.ref D) us = some b ∧ Q (.bl b) H
section
variable {X : Cx} {a : Addr} {oe : Obj} {cls : Value} {d : Option Addr} {pn : List (Addr × Obj)} {pins : List (Addr × Obj)} {σ : L2.St} {H : Hp} {s : Shared}
theorem inst_exc {D dd : Addr} {fs : List (Str × V)} (I : Inv (X.suite a ((a, oe) :: pn)) pins σ H s) (hz : Zc (.ref D) (some dd) oe) (hf : ∃ vs, oe.data = .fields vs) (ea : H dd = some (.xd fs)) : ∃ od, PySem.W.InstAt s.heap a oe D (some od) := by
  obtain ⟨ha, _⟩ := I.pin (a, oe) (List.mem_append_left _ List.mem_cons_self)
  obtain ⟨vs, hd⟩ := hf
  have hx : ObjOk X.prog X.w H s.heap dd (.xd fs) := I.hok dd _ ea
  obtain ⟨mA, hns, hr⟩ := hx
  obtain ⟨od, ho, hl⟩ := lookIn_ns hns
  exact ⟨od, ha, hz.1, by unfold PySem.W.notCls; rw [hd] <;> rfl, by rw [hz.2]; exact ho⟩
theorem call_isD (hz : Zc cls d oe) (hf : ∃ vs, oe.data = .fields vs) : CallR (X.suite a ((a, oe) :: pn)) (.builtin "isinstance") (rIsD X.K a cls d) := by
  intro pins s σ H xs us Q I r h
  obtain ⟨D, dd, fs, c, u, b, rfl, rfl, rfl, T, ea, k, e, q⟩ := h
  obtain ⟨u1, u2, rfl, r1, r2⟩ := vals2 r
  obtain rfl : u1 = Value.ref a := r1
  have e2 := k.eq r2
  subst e2
  obtain ⟨od, J⟩ := inst_exc I hz hf ea
  exact PySem.W.kia_one (kitx_exc T) I.kIn J e (fun z => nomatch z) fun tk => ⟨.bl b, H, I.tok tk, rfl, q⟩
theorem call_isDT (hz : Zc cls d oe) (hf : ∃ vs, oe.data = .fields vs) : CallR (X.suite a ((a, oe) :: pn)) (.builtin "isinstance") (rIsDT X.K a cls d) := by
  intro pins s σ H xs us Q I r h
  obtain ⟨D, dd, tp, fs, cs, ws, b, rfl, rfl, rfl, T, ea, hT, k, e, q⟩ := h
  obtain ⟨u1, u2, rfl, r1, r2⟩ := vals2 r
  obtain rfl : u1 = Value.ref a := r1
  cases (show u2 = Value.ref tp from r2)
  obtain ⟨od, J⟩ := inst_exc I hz hf ea
  obtain ⟨_, its, rv, o, h1, h2, n, h3⟩ := (show ObjOk X.prog X.w H s.heap tp (.tup cs) from I.hok tp _ hT)
  have e3 := ClsV.all k rv
  subst e3
  obtain ⟨oc, od, dt, sl⟩ := o
  simp only at h2 h3
  subst h2 h3
  exact PySem.W.kia_tup (kitx_exc T) I.kIn J h1 e (fun z => nomatch z) fun tk => ⟨.bl b, H, I.tok tk, rfl, q⟩
end
/-- xs.count(b), a list of bools -/
def rCntB (K : PySem.W.Frag) : V → List V → Hp → VK → Prop := fun x xs H Q => ∃ (p : Addr) (bs : List Bool) (k : Bool), x = .ref p ∧ xs = [.bl k] ∧ SqL K H p (bs.map V.bl) ∧ Q (.int (countIn (.bool k) (bs.map PyData.bool))) H
theorem bools_of {h : Heap} : ∀ {bs : List Bool} {us : List Value}, Vals (bs.map V.bl) us → ReadsAll h us (bs.map PyData.bool) []
  | [], _, .nil => .nil
  | b :: bs, _, .cons r t => by
    cases r
    exact ReadsAll.cons (as := []) (bs := []) (.bool b) (bools_of t)
theorem bools_has : ∀ bs : List Bool, (bs.map PyData.bool).all Shape.bool.has = true
  | [] => rfl
  | b :: bs => by rw [List.map_cons, List.all_cons, bools_has bs]; rfl
theorem mt_countB {X : Cx} : MtR X "list.count" (rCntB X.K) := by
  intro pins s σ H x xs v us Q I rx rxs h
  obtain ⟨p, bs, k, rfl, rfl, hs, q⟩ := h
  cases rx
  obtain ⟨u, rfl, ru⟩ := rxs.one
  cases ru
  obtain ⟨its, rv, hl, hlen⟩ := I.list hs
  exact count_list_bools (by obtain ⟨o, n, h1, h2, h3, h4⟩ := hl; exact ⟨o, h1, h2, n, h4⟩) (bools_of (h := s.heap) rv) (bools_has bs) ⟨.int (countIn (.bool k) (bs.map PyData.bool)), H, I.tok _, ⟨s.toks, rfl⟩, q⟩
end Ft

namespace Ft
open PySem L2
abbrev i_BadForm : Stmt := initOf (top 2)
theorem sc_i_BadForm : FnScope ["self", "thing"] ["self", "thing"] (defScope i_BadForm) := ⟨rfl, rfl, rfl, by decide +kernel, rfl, by decide +kernel, by decide +kernel⟩
abbrev i_BadRow : Stmt := initOf (top 3)
theorem sc_i_BadRow : FnScope ["self", "thing"] ["self", "thing"] (defScope i_BadRow) := ⟨rfl, rfl, rfl, by decide +kernel, rfl, by decide +kernel, by decide +kernel⟩
section
variable {P : Program} {w : World} {K : PySem.W.Frag} {mg : Str → Option Value} {base : Heap}
theorem err_BadForm {C : Addr} (T : ErrT K mg "BadForm" "thing" "BadForm.__init__" i_BadForm C) : Err P w K mg base "BadForm" C "thing" := by
  obtain ⟨c, g, fI, fd, i1, i2, F, b⟩ := T
  have sc := sc_i_BadForm
  refine ⟨c, g, fI, fd, _, i1, i2, F.ok sc (fun _ _ _ _ ⟨_, _, _, e, _⟩ => by rw [e]; rfl) (fun cdv A outer s H vs Q E hr h => ?_), b⟩
  obtain ⟨a, C, y, rfl, T, ha, q⟩ := h
  refine ⟨_, pss_one (ps_err (pv 0) (pv 1)), ?_⟩
  exact ⟨_, rfl, _, rfl, a, C, rfl, T, ha, q⟩
theorem err_BadRow {C : Addr} (T : ErrT K mg "BadRow" "thing" "BadRow.__init__" i_BadRow C) : Err P w K mg base "BadRow" C "thing" := by
  obtain ⟨c, g, fI, fd, i1, i2, F, b⟩ := T
  have sc := sc_i_BadRow
  refine ⟨c, g, fI, fd, _, i1, i2, F.ok sc (fun _ _ _ _ ⟨_, _, _, e, _⟩ => by rw [e]; rfl) (fun cdv A outer s H vs Q E hr h => ?_), b⟩
  obtain ⟨a, C, y, rfl, T, ha, q⟩ := h
  refine ⟨_, pss_one (ps_err (pv 0) (pv 1)), ?_⟩
  exact ⟨_, rfl, _, rfl, a, C, rfl, T, ha, q⟩
end
/-- whatever is wished of an error, the slots' number is known -/
theorem takes_len {X : Cx} {W : WX} (tk : Takes X W) : Takes X (fun cls d σ H => σ.length = X.N.length → W cls d σ H) := fun u s' ⟨a, B, sI, pins, σ, H, cls, d, e, I, nb, up, sky, na, os, ag, w⟩ =>
  tk u s' ⟨a, B, sI, pins, σ, H, cls, d, e, I, nb, up, sky, na, os, ag, w I.len⟩
/-! ### the law's _law_told -/
abbrev N_ref : List Str := ["_law_call", "_law_found", "e"]
theorem sc_ref : FnScope N_ref ["_law_call"] (defScope s__law_told) := ⟨rfl, rfl, rfl, by decide +kernel, rfl, by decide +kernel, by decide +kernel⟩
/-- an error's class, its field, the word that is told of it -/
structure Kd where
  C : Addr
  f : Str
  wd : Str
/-- what it makes of what the lambda does -/
def TTref (cl : List Kd) : (XK → Hp → VK → Prop) → Hp → VK → Prop := fun tl H Q => ∀ (E1 : XK) (Q1 : VK),
  (∀ k ∈ cl, ∀ (dd : Addr) (v : V) (D : PyData) (H' : Hp), H' dd = some (.xd [(k.f, v)]) → Dq H' (fun _ => True) v D → RepQ D → (∀ p, H' p = none → Q (.ref p) (upd H' p (.tup [.str k.wd, .str D.shown, .bl true]))) → E1 (.ref k.C) (some dd) H') →
  (∀ (v : V) (D : PyData) (H' : Hp), Dq H' (fun _ => True) v D → RepQ D → (∀ p, H' p = none → Q (.ref p) (upd H' p (.tup [.str "told", .str D.shown, .bl true]))) → Q1 v H') → tl E1 H Q1
/-- the errors of this law -/
structure Ers (K : PySem.W.Frag) (mg : Str → Option Value) (C0 C1 CT : Addr) : Prop where
  c0 : ErrC K C0 "thing"
  c1 : ErrC K C1 "thing"
  g0 : mg "BadForm" = some (.ref C0)
  g1 : mg "BadRow" = some (.ref C1)
  gt : mg "TermError" = some (.ref CT)
  s0_0 : PySem.W.exmOne K (.ref C0) (.ref C0) = some true
  s1_0 : PySem.W.exmOne K (.ref C1) (.ref C0) = some false
  s1_1 : PySem.W.exmOne K (.ref C1) (.ref C1) = some true
abbrev kds (C0 C1 : Addr) : List Kd := [⟨C0, "thing", "BadForm"⟩, ⟨C1, "thing", "BadRow"⟩]
/-- the errors' classes under TermError -/
structure ErsU (K : PySem.W.Frag) (C0 C1 CT : Addr) : Prop where
  hn : PySem.W.specialIn K (.builtin "object.__class__") "__get__" = some (some (.builtin "getset_descriptor.__get__"))
  ht : PySem.W.takesIn K (.builtin "object.__class__") = some true
  tc : PySem.W.isClsIn K CT = true
  tt : PySem.W.typeIn K (.ref CT) = some (.type "type")
  a0 : PySem.W.findIn K (.ref C0) "__class__" = some (some (.builtin "object.__class__"))
  m0 : PySem.W.mroIn K C0 (.type "object") = some true
  p0 : PySem.W.subIn K (.ref C0) (.ref CT) = some true
  a1 : PySem.W.findIn K (.ref C1) "__class__" = some (some (.builtin "object.__class__"))
  m1 : PySem.W.mroIn K C1 (.type "object") = some true
  p1 : PySem.W.subIn K (.ref C1) (.ref CT) = some true
theorem kit_up {K : PySem.W.Frag} {C D : Addr} (hc : PySem.W.isClsIn K D = true) (ht : PySem.W.typeIn K (.ref D) = some (.type "type")) (hs : PySem.W.subIn K (.ref C) (.ref D) = some true) : PySem.W.kitOne K (.ref C) (.ref D) = some true := by
  unfold PySem.W.kitOne
  split
  · rfl
  · show (if ((PySem.W.clsIn K D).isSome && PySem.W.typeIn K (.ref D) == some (.type "type")) = true then PySem.W.subIn K (.ref C) (.ref D) else none) = _
    rw [if_pos ?_, hs]
    rw [ht]
    show (PySem.W.isClsIn K D && _) = true
    rw [hc]
    rfl
theorem xc_of {K : PySem.W.Frag} {C : Addr} {f : Str} (c : ErrC K C f) (a : PySem.W.findIn K (.ref C) "__class__" = some (some (.builtin "object.__class__"))) (m : PySem.W.mroIn K C (.type "object") = some true) (hn : PySem.W.specialIn K (.builtin "object.__class__") "__get__" = some (some (.builtin "getset_descriptor.__get__"))) (ht : PySem.W.takesIn K (.builtin "object.__class__") = some true) : L2.ExcC K C :=
  ⟨c.xf.ga, c.xf.gg, c.xf.exC, c.xf.hdC, a, hn, ht, m⟩
set_option maxHeartbeats 0 in
theorem ref_gives {X : Cx} {g C0 C1 CT : Addr} {cdg : Value} {q : Str} {j : Nat} (T : Ers X.K X.mg C0 C1 CT) (U : ErsU X.K C0 C1 CT) (B : Bi X.mg) (hgd : X.A.guards = some []) (hr : Room (j + 1) X.A) :
    LamX.GivesTo X N_ref "_law_told" (defScope s__law_told) g cdg (defBody s__law_told) "_law_call" q (TTref (kds C0 C1)) := by
  intro f c' s H Q tl act hc h
  refine ⟨_, pss_cons (ps_tryN (tb := fun W D σ H => ∃ Ech : XK, (∀ cls d σ' H', Ech cls d H' → σ'.length = 3 → W cls d σ' H') ∧ tAsg (fun σZ HZ Q => σZ[0]? = some (some (.ref f)) ∧ HZ c' = some (LamX.CodeO c' q) ∧ tl Ech HZ Q) (gName 1) D σ H) rfl rfl sc_ref.nd LamX.takes0
      (fun W pn xe tk _ => ?_)
      (HdN.named (i := 2) ⟨rfl, by decide, .inl T.g0⟩ rfl rfl (fun a oe cls d pn hz hf => pss_one (ps_ret (pe_tup (pa_cons pe_str (pa_cons (pe_callB (X := (cxOf C8.CX0 X.prog X.w X.K X.mg X.base N_ref "_law_told" (defScope s__law_told) g cdg X.A X.stack s H C8.E0).nox.suite a ((a, oe) :: pn)) (id := "repr") (r := rReprQ) (call_reprU hgd (by have := hr.un; show X.A.units + 3 + 200 < _; omega)) (by rfl) B.repr (by decide +kernel) (pa_cons (pe_xf (X := (cxOf C8.CX0 X.prog X.w X.K X.mg X.base N_ref "_law_told" (defScope s__law_told) g cdg X.A X.stack s H C8.E0).nox) (C := C0) T.c0.xf T.c0.no hz hf (pv 2)) pa_nil)) (pa_cons (pe_callB (id := "isinstance") (r := rIsD X.K a cls d) (call_isD hz hf) (by rfl) B.isinstance (by decide +kernel) (pa_cons (pv 2) (pa_cons (pe_glob (v := .ref CT) (by rfl) T.gt rfl) pa_nil))) pa_nil))))))
      (HdN.named (i := 2) ⟨rfl, by decide, .inl T.g1⟩ rfl rfl (fun a oe cls d pn hz hf => pss_one (ps_ret (pe_tup (pa_cons pe_str (pa_cons (pe_callB (X := (cxOf C8.CX0 X.prog X.w X.K X.mg X.base N_ref "_law_told" (defScope s__law_told) g cdg X.A X.stack s H C8.E0).nox.suite a ((a, oe) :: pn)) (id := "repr") (r := rReprQ) (call_reprU hgd (by have := hr.un; show X.A.units + 3 + 200 < _; omega)) (by rfl) B.repr (by decide +kernel) (pa_cons (pe_xf (X := (cxOf C8.CX0 X.prog X.w X.K X.mg X.base N_ref "_law_told" (defScope s__law_told) g cdg X.A X.stack s H C8.E0).nox) (C := C1) T.c1.xf T.c1.no hz hf (pv 2)) pa_nil)) (pa_cons (pe_callB (id := "isinstance") (r := rIsD X.K a cls d) (call_isD hz hf) (by rfl) B.isinstance (by decide +kernel) (pa_cons (pv 2) (pa_cons (pe_glob (v := .ref CT) (by rfl) T.gt rfl) pa_nil))) pa_nil))))))
        .nil)))
    (pss_one (ps_ret (pe_tup (pa_cons pe_str (pa_cons (pe_callB (X := (cxOf C8.CX0 X.prog X.w X.K X.mg X.base N_ref "_law_told" (defScope s__law_told) g cdg X.A X.stack s H C8.E0).nox) (id := "repr") (r := rReprQ) (call_reprQ (k := j) hgd (hr.deeper _)) (by rfl) B.repr (by decide +kernel) (pa_cons (pv 1) pa_nil)) (pa_cons pe_bl pa_nil)))))), ?_⟩
  · refine ⟨fun pins s' σ H' D I h' => ?_⟩
    obtain ⟨Ech, hW, h'⟩ := h'
    exact (pss_one (ps_set (i := 1) sc_ref.nd rfl (Or.inl rfl) (act (fun cls d σ H => σ.length = 3 → W cls d σ H) pn xe Ech _ _ (takes_len tk) hW))).run pins s' σ H' D I h'
  · refine ⟨fun cls d H' => ∃ k ∈ kds C0 C1, cls = .ref k.C ∧ ∃ (dd : Addr) (v : V) (D : PyData), d = some dd ∧ H' dd = some (.xd [(k.f, v)]) ∧ Dq H' (fun _ => True) v D ∧ RepQ D ∧ ∀ p, H' p = none → Q (.ref p) (upd H' p (.tup [.str k.wd, .str D.shown, .bl true])), ?_, rfl, hc, h _ _ ?_ ?_⟩
    · rintro cls d σ' H' ⟨k, hk, rfl, dd, v, D, rfl, hd, dq, rep, kk⟩ hl
      obtain ⟨a0, a1, a2, rfl⟩ : ∃ a0 a1 a2, σ' = [a0, a1, a2] := match σ', hl with | [a0, a1, a2], _ => ⟨a0, a1, a2, rfl⟩
      have z3 : (3 : Nat) ≤ sizeLine := by decide
      rcases List.mem_cons.mp hk with rfl | hk
      · exact ⟨true, T.s0_0, fun _ a na => ⟨_, rfl, rfl, rfl, dd, _, v, rfl, hd, rfl, v, D, _, rfl, dq, rep, _, rfl, C0, dd, _, .ref CT, _, _, rfl, rfl, rfl, xc_of T.c0 U.a0 U.m0 U.hn U.ht, hd, .own CT, kit_up U.tc U.tt U.p0, z3, kk⟩, fun z => by cases z⟩
      rw [List.mem_singleton.mp hk] at hd kk ⊢
      exact ⟨false, T.s1_0, (fun z => by cases z), fun _ => ⟨true, T.s1_1, fun _ a na => ⟨_, rfl, rfl, rfl, dd, _, v, rfl, hd, rfl, v, D, _, rfl, dq, rep, _, rfl, C1, dd, _, .ref CT, _, _, rfl, rfl, rfl, xc_of T.c1 U.a1 U.m1 U.hn U.ht, hd, .own CT, kit_up U.tc U.tt U.p1, z3, kk⟩, fun z => by cases z⟩⟩
    · exact fun k hk dd v D H' hd dq rep kk => ⟨k, hk, rfl, dd, v, D, rfl, hd, dq, rep, kk⟩
    · exact fun v D H' dq rep k => ⟨_, rfl, v, D, _, rfl, dq, rep, (by show (3 : Nat) ≤ sizeLine; decide), k⟩
/-- _law_told(lambda: body) -/
theorem pe_lamR {X : Cx} {c P C0 C1 CT : Addr} {k j : Nat} {params : Arguments} {body : Expr} {scope : Scope} {t : XK → TE} {p lpos pos : Pos} {T : List (Addr × Str)} (hg : Gl X "_law_told") (DR : Df X.K X.mg "_law_told" s__law_told ["_law_call"])
    (E1 : Ers X.K X.mg C0 C1 CT) (U : ErsU X.K C0 C1 CT) (B : Bi X.mg) (hgd : X.A.guards = some [])
    (TB : LamX.TabB X.base X.mg c P) (hcode : X.env.code = .ref c) (hm : (P, X.env.qual ++ "<lambda>") ∈ T) (hu : ∀ p ∈ T, p.1 = P → p.2 = X.env.qual ++ "<lambda>") (hr : Room j X.A) (hj : k + 2 ≤ j) (L : LamX.LamS X.env.scope scope) (hdef : defaultsOf params X.env = ([], []))
    (hbind : ∀ (q : Str) (cl : List (Str × Addr)) (pm cv ctv : Value), bindArgs (PySem.W.kla_fn "<lambda>" q params body scope cl pm cv ctv) ⟨[], []⟩ = pure [])
    (hbody : ∀ (A : Around) (outer : List Env) (s : Shared) (H : Hp) (E : XK) (f c' : Addr), Room k (A.deeper (LamX.lamEnv X scope s.heap.objs.size f c')) → PE (LamX.lamCx X A outer s H E scope f c') body (t E)) :
    PE X (.Call (.Name "_law_told" p) [.Lambda params body scope lpos] [] pos) (LamX.tLam T (TTref (kds C0 C1)) t) := by
  obtain ⟨g, fd, F, hmg, b⟩ := DR.ex
  obtain ⟨oc, od, kV, doc, pm, an, cdv, ct, osl, rfl, lk, hcd⟩ := F.ex
  exact LamX.pe_lamcall (Ng := N_ref) hg hmg F.kp lk hcd b sc_ref rfl (Or.inl rfl) (ref_gives (j := k + 1) E1 U B hgd (hr.mono hj)) TB hcode hm hu (hr.mono hj) L hdef hbind hbody
/-- what a lambda's body may let out -/
theorem passL {X : Cx} {A : Around} {outer : List Env} {s : Shared} {H : Hp} {E : XK} {scope : Scope} {f c' : Addr} : Passes (L2.CX X.prog X.w) (LamX.lamCx X A outer s H E scope f c') E :=
  passes_call (takes_of (X := LamX.lamCx X A outer s H E scope f c') (E := E) rfl rfl rfl rfl) fun _ _ _ _ h => h
/-- what the lambdas of a def stand on: the errors, _law_told, its code object's table -/
structure LamE (K : PySem.W.Frag) (mg : Str → Option Value) (base : Heap) (C0 C1 CT c Pt : Addr) (T : List (Addr × Str)) (q : Str) : Prop where
  e : Ers K mg C0 C1 CT
  r : Df K mg "_law_told" s__law_told ["_law_call"]
  t : LamX.TabB base mg c Pt
  m : (Pt, q ++ (".<locals>." : Str) ++ ("<lambda>" : Str)) ∈ T
  u : ∀ p ∈ T, p.1 = Pt → p.2 = q ++ (".<locals>." : Str) ++ ("<lambda>" : Str)
/-- a def that may raise, by place and by name -/
structure CalL (P : Program) (w : World) (K : PySem.W.Frag) (mg : Str → Option Value) (base : Heap) (k : Nat) (x : Str) (ps ks : List Str) (gU : List Value → List Value → List Value) (gV : List V → List V → List V) (sp : Sp) : Prop where
  ex : ∃ (f : Addr) (fd : FuncData), FnOk P w K mg base (L2.CX P w) k f fd ps sp ∧ mg x = some (.ref f) ∧ PySem.W.keepIn K (.ref f) = true ∧ Binds K fd ps [] ∧ KBinds K fd ps ks gU gV
/-- a def that may raise, by its name -/
structure CalX (P : Program) (w : World) (K : PySem.W.Frag) (mg : Str → Option Value) (base : Heap) (k : Nat) (x : Str) (sp : Sp) : Prop where
  ex : ∃ (f : Addr) (fd : FuncData) (ps : List Str), FnOk P w K mg base (L2.CX P w) k f fd ps sp ∧ mg x = some (.ref f) ∧ PySem.W.keepIn K (.ref f) = true ∧ Binds K fd ps []
section
variable {X : Cx} {k j : Nat} {f : Addr} {fd : FuncData} {ps ks : List Str} {sp : Sp} {x : Str} {g : List Value → List Value → List Value} {gV : List V → List V → List V} {p pos : Pos} {e : Expr} {es : List Expr} {t : TA} {kws : List Keyword} {tk : TA} {CX : CXT} {E : XK}
theorem pe_x (c : CalX X.prog X.w X.K X.mg X.base k x sp) (hr : Room j X.A) (hk : k ≤ j) (hg : Gl X x) (hx : Passes (L2.CX X.prog X.w) X E) (ha : PA X (e :: es) t)
    (hdb : (x == ("__debug__" : Str)) = false := by decide) (he : starEach (e :: es) X.env = (false, eval e X.env) :: starEach es X.env := by rfl) (hpl : (backTo pos (starEach es X.env)).any (·.1) = false := by rfl) :
    PE X (.Call (.Name x p) (e :: es) [] pos) (tCall sp [] E t) := by
  obtain ⟨f, fd, ps, F, hm, kp, b⟩ := c.ex
  exact pe_call F (hr.mono hk) hg hm kp b .nil hx ha hdb he hpl
/-- a def that may raise, by names alone -/
theorem pe_kx (F : FnOk X.prog X.w X.K X.mg X.base CX k f fd ps sp) (hr : Room k X.A) (hg : Gl X x) (hm : X.mg x = some (.ref f)) (kp : PySem.W.keepIn X.K (.ref f) = true) (hb : KBinds X.K fd ps ks g gV) (hx : Passes CX X E) (hkw : PK X kws tk)
    (hall : (backToKw pos (keywordEach kws X.env)).all (·.1.isSome) = true := by rfl) (hks : (backToKw pos (keywordEach kws X.env)).filterMap (·.1) = ks := by rfl) (hdb : (x == ("__debug__" : Str)) = false := by decide)
    (hpl : ((backTo pos (starEach [] X.env)).any (·.1) || (backToKw pos (keywordEach kws X.env)).any (·.1.isNone)) = false := by rfl) :
    PE X (.Call (.Name x p) [] kws pos) (tCallK sp gV E tNil tk) :=
  ⟨fun pins s σ H Q I h => wpAny_Call_Name_kw (ld_glob I hg hm (PySem.W.callWith_KW0 (h₀ := X.base) I.ok.mod.kin kp hall (thn (hkw.run pos pins s σ H _ I h) fun ws s2 ⟨zs, H2, I2, rz, q2⟩ => ⟨I2.kIn, by rw [hks]; exact run_fnk F hr hb hx I2 .nil rz q2⟩) hpl) hdb)⟩
end
end Ft

set_option exponentiation.threshold 9000
namespace Ft
open PySem L2
/-! ### displays that make any values -/
/-- te makes a value that shows D, from any heap beyond H0; σ: the slots -/
def Mk (N : Addr → Prop) (σ : L2.St) (H0 : Hp) (te : TE) (D : PyData) : Prop := ∀ H Q, Same H0 H → (∀ H' v, Same H H' → Dq H' N v D → Q v H') → te σ H Q
def MkA (N : Addr → Prop) (σ : L2.St) (H0 : Hp) (ta : TA) (Ds : List PyData) : Prop := ∀ H Q, Same H0 H → (∀ H' vs, Same H H' → DqAll H' N vs Ds → Q vs H') → ta σ H Q
theorem DqAll.length {H : Hp} {N : Addr → Prop} : ∀ {vs : List V} {ds : List PyData}, DqAll H N vs ds → vs.length = ds.length
  | _, _, .nil => rfl
  | _, _, .cons _ t => congrArg (· + 1) t.length
theorem DqAll.app {H : Hp} {N : Addr → Prop} {ws : List V} {es : List PyData} (k : DqAll H N ws es) : ∀ {vs : List V} {ds : List PyData}, DqAll H N vs ds → DqAll H N (vs ++ ws) (ds ++ es)
  | _, _, .nil => k
  | _, _, .cons h t => .cons h (DqAll.app k t)
theorem DqAll.get {H : Hp} {N : Addr → Prop} {v : V} : ∀ {vs : List V} {ds : List PyData}, DqAll H N vs ds → v ∈ vs → ∃ D ∈ ds, Dq H N v D
  | _, _, .nil, hv => by cases hv
  | _, _, .cons h t, hv => by
    rcases List.mem_cons.mp hv with rfl | hv
    · exact ⟨_, List.mem_cons_self, h⟩
    · obtain ⟨D, hD, e⟩ := DqAll.get t hv
      exact ⟨D, List.mem_cons_of_mem _ hD, e⟩
theorem DqAll.same' {H H' : Hp} {N : Addr → Prop} {vs : List V} {ds : List PyData} (h : DqAll H N vs ds) (s : Same H H') : DqAll H' N vs ds := h.same s
section
variable {N : Addr → Prop} {σ : L2.St} {H0 : Hp}
theorem mk_non : Mk N σ H0 (tC .non) .none := fun H _ _ q => q H _ (Same.refl _) .non
theorem mk_bl {b : Bool} : Mk N σ H0 (tC (.bl b)) (.bool b) := fun H _ _ q => q H _ (Same.refl _) (.bl b)
theorem mk_int {i : Int} : Mk N σ H0 (tC (.int i)) (.int i) := fun H _ _ q => q H _ (Same.refl _) (.int i)
theorem mk_st {x : Str} : Mk N σ H0 (tC (.str x)) (.str x) := fun H _ _ q => q H _ (Same.refl _) (.str x)
theorem mka_nil : MkA N σ H0 tNil [] := fun H _ _ q => q H _ (Same.refl _) .nil
theorem mka_cons {te : TE} {ta : TA} {D : PyData} {Ds : List PyData} (h : Mk N σ H0 te D) (t : MkA N σ H0 ta Ds) : MkA N σ H0 (tCons te ta) (D :: Ds) := fun H Q s q => h H _ s fun H1 v s1 e1 => t H1 _ (s.trans s1) fun H2 vs s2 e2 => q H2 _ (s1.trans s2) (.cons (e1.same s2) e2)
theorem mk_tup (nw : ∀ p, H0 p = none → N p) {ta : TA} {Ds : List PyData} (t : MkA N σ H0 ta Ds) (hl : Ds.length ≤ sizeLine) : Mk N σ H0 (tTup ta) (.tuple Ds) := fun H Q s q => t H _ s fun H1 vs s1 e1 => ⟨by rw [e1.length]; exact hl, fun p hp => by
  have s2 := Same.upd_new (o := .tup vs) hp
  exact q _ _ (s1.trans s2) (.tup (nw _ ((s.trans s1).free hp)) (.inl upd_same) (e1.same s2))⟩
theorem mk_lst (nw : ∀ p, H0 p = none → N p) {ta : TA} {Ds : List PyData} (t : MkA N σ H0 ta Ds) (hl : Ds.length ≤ sizeLine) : Mk N σ H0 (tLst ta) (.list Ds) := fun H Q s q => t H _ s fun H1 vs s1 e1 => ⟨by rw [e1.length]; exact hl, fun p hp => by
  have s2 := Same.upd_new (o := .lst vs) hp
  exact q _ _ (s1.trans s2) (.lst (nw _ ((s.trans s1).free hp)) (.inl upd_same) (e1.same s2))⟩
theorem mk_d0 (nw : ∀ p, H0 p = none → N p) : Mk N σ H0 tDNewK (.dict []) := fun H Q s q p hp => q _ _ (Same.upd_new hp) (.dict (nw _ (s.free hp)) upd_same rfl .nil)
theorem mk_d1 (nw : ∀ p, H0 p = none → N p) {x : Str} {te : TE} {D : PyData} (h : ∀ (M : Addr → Prop) (H1 : Hp), (∀ p, H1 p = none → M p) → Mk M σ H1 te D) : Mk N σ H0 (tDisp [(tC (.str x), te)]) (.dict [(.str x, D)]) := fun H Q s q p hp => by
  have s1 := Same.upd_new (o := .dK []) hp
  have nw2 : ∀ b, (upd H p (.dK [])) b = none → N b ∧ b ≠ p := fun b n => ⟨nw _ ((s.trans s1).free n), fun z => by rw [z, upd_same] at n; cases n⟩
  refine h (fun a => N a ∧ a ≠ p) _ nw2 _ _ (Same.refl _) fun H2 v s2 e2 => ⟨s2 _ _ upd_same, [(.inr x, v)], rfl, by show (1 : Nat) ≤ 15; decide, ?_⟩
  have st : Same H (upd H2 p (.dK (mergeK [] [(.inr x, v)]))) := fun b o e => by
    rw [upd_ne (ne_of_none e hp)]
    exact s2 _ _ (s1 _ _ e)
  refine q _ _ st (.dict (kvs := [(.inr x, v)]) (nw _ (s.free hp)) upd_same rfl (.cons ?_ .nil))
  exact e2.move (fun b o n e nt => by rw [upd_ne n.2]; exact e) fun b _ n _ _ => n.1
theorem mk_neg {t : TE} {i : Int} (h : Mk N σ H0 t (.int i)) : Mk N σ H0 (tUn (rU fun i => V.int (-i)) t) (.int (-i)) := fun H Q s q => h H _ s fun H1 v s1 e => by
  cases e
  exact ⟨i, rfl, q _ _ s1 (.int _)⟩
theorem mk_pow {t1 t2 : TE} {i j : Int} (h1 : Mk N σ H0 t1 (.int i)) (h2 : Mk N σ H0 t2 (.int j)) (hc : CPow i j := by exact ⟨by decide, by decide, by decide⟩) : Mk N σ H0 (tOp (rI CPow fun i j => V.int (i ^ j.toNat)) t1 t2) (.int (i ^ j.toNat)) := fun H Q s q => h1 H _ s fun H1 v s1 e1 => h2 H1 _ (s.trans s1) fun H2 w s2 e2 => by
  cases e1
  cases e2
  exact ⟨i, j, rfl, rfl, hc, q _ _ (s1.trans s2) (.int _)⟩
theorem mk_i0 {t1 t2 : TE} {i j : Int} {g : Int → Int → Int} (h1 : Mk N σ H0 t1 (.int i)) (h2 : Mk N σ H0 t2 (.int j)) : Mk N σ H0 (tOp (rI0 fun i j => V.int (g i j)) t1 t2) (.int (g i j)) := fun H Q s q => h1 H _ s fun H1 v s1 e1 => h2 H1 _ (s.trans s1) fun H2 w s2 e2 => by
  cases e1
  cases e2
  exact ⟨i, j, rfl, rfl, q _ _ (s1.trans s2) (.int _)⟩
theorem mk_mulW {t1 t2 : TE} {i j : Int} (h1 : Mk N σ H0 t1 (.int i)) (h2 : Mk N σ H0 t2 (.int j)) (hc : CMulW i j) : Mk N σ H0 (tOp (rI CMulW fun i j => V.int (i * j)) t1 t2) (.int (i * j)) := fun H Q s q => h1 H _ s fun H1 v s1 e1 => h2 H1 _ (s.trans s1) fun H2 w s2 e2 => by
  cases e1
  cases e2
  exact ⟨i, j, rfl, rfl, hc, q _ _ (s1.trans s2) (.int _)⟩
theorem mk_eqI {t1 t2 : TE} {i j : Int} (h1 : Mk N σ H0 t1 (.int i)) (h2 : Mk N σ H0 t2 (.int j)) : Mk N σ H0 (tOp rEq t1 t2) (.bool (decide (V.int i = V.int j))) := fun H Q s q => h1 H _ s fun H1 v s1 e1 => h2 H1 _ (s.trans s1) fun H2 w s2 e2 => by
  cases e1
  cases e2
  exact ⟨rfl, q _ _ (s1.trans s2) (.bl _)⟩
theorem mk_strI {t : TE} {i : Int} (h : Mk N σ H0 t (.int i)) (hi : i.natAbs.log2 < 1920) : Mk N σ H0 (tCB (fun xs H Q => ∃ i, xs = [V.int i] ∧ i.natAbs.log2 < 1920 ∧ Q (V.str (Str.ofString (toString i))) H) (tCons t tNil)) (.str (Str.ofString (toString i))) := fun H Q s q => h H _ s fun H1 v s1 e => by
  cases e
  exact ⟨i, rfl, hi, q _ _ s1 (.str _)⟩
theorem mk_var {k : Nat} {v : V} {D : PyData} (hs : σ[k]? = some (some v)) (h : Dq H0 N v D) : Mk N σ H0 (tVar k) D := fun H Q s q => ⟨v, hs, q _ _ (Same.refl _) (h.same s)⟩
/-- a list display to a name -/
theorem asg_lst {ta : TA} {Ds : List PyData} {g : TG} {b : TS} {Dn : Ends} {H : Hp} (h : MkA N σ H ta Ds) (hl : Ds.length ≤ sizeLine) (q : ∀ H1 vs p, Same H H1 → DqAll H1 N vs Ds → H1 p = none → g (.ref p) σ (upd H1 p (.lst vs)) (b Dn)) : tSeq (tAsg (tLst ta) g) b Dn σ H :=
  h H _ (Same.refl _) fun H1 vs s1 e1 => ⟨by rw [e1.length]; exact hl, fun p hp => q H1 vs p s1 e1 hp⟩
/-- a list and a list display, joined -/
theorem asg_cat {ta : TA} {Ds Es : List PyData} {g : TG} {b : TS} {Dn : Ends} {H : Hp} {k : Nat} {p : Addr} {xs : List V} (hs : σ[k]? = some (some (.ref p))) (hp : H p = some (.lst xs)) (hx : DqAll H N xs Es) (h : MkA N σ H ta Ds) (hl : Es.length + Ds.length ≤ sizeLine)
    (q : ∀ H1 vs p, Same H H1 → DqAll H1 N vs (Es ++ Ds) → H1 p = none → g (.ref p) σ (upd H1 p (.lst vs)) (b Dn)) : tSeq (tAsg (tOp rCat (tVar k) (tLst ta)) g) b Dn σ H := by
  have l1 := hx.length
  refine ⟨_, hs, h H _ (Same.refl _) fun H1 vs s1 e1 => ⟨by rw [e1.length]; omega, fun r hr => ?_⟩⟩
  have s2 := Same.upd_new (o := .lst vs) hr
  have l2 := e1.length
  exact ⟨p, r, xs, vs, rfl, rfl, s2 _ _ (s1 _ _ hp), upd_same, by omega, fun u hu => q _ _ u (s1.trans s2) ((e1.same s2).app (hx.same (s1.trans s2))) hu⟩
/-- a list and three times a list display, joined -/
theorem asg_cat3 {ta : TA} {Ds Es : List PyData} {g : TG} {Dn : Ends} {H : Hp} {k : Nat} {p : Addr} {xs : List V} (hs : σ[k]? = some (some (.ref p))) (hp : H p = some (.lst xs)) (hx : DqAll H N xs Es) (h : MkA N σ H ta Ds) (hl : Es.length + Ds.length * 3 ≤ sizeLine)
    (q : ∀ H1 vs p, Same H H1 → DqAll H1 N vs (Es ++ (Ds ++ (Ds ++ Ds))) → H1 p = none → g (.ref p) σ (upd H1 p (.lst vs)) Dn.nx) : tAsg (tOp rCat (tVar k) (tOp rRep (tLst ta) (tC (.int 3)))) g Dn σ H := by
  have l1 := hx.length
  refine ⟨_, hs, h H _ (Same.refl _) fun H1 vs s1 e1 => ⟨by rw [e1.length]; omega, fun r hr => ?_⟩⟩
  have s2 := Same.upd_new (o := .lst vs) hr
  have l2 := e1.length
  refine ⟨r, 3, vs, rfl, rfl, upd_same, by decide, by decide, by show vs.length * 3 ≤ _; omega, fun u hu => ?_⟩
  have s3 := Same.upd_new (o := .lst (List.replicate (3 : Int).toNat vs).flatten) hu
  have e3 : (List.replicate (3 : Int).toNat vs).flatten = vs ++ (vs ++ vs) := by
    show vs ++ (vs ++ (vs ++ [])) = _
    rw [List.append_nil]
  rw [e3] at s3 ⊢
  have s := s1.trans (s2.trans s3)
  have e := e1.same (s2.trans s3)
  refine ⟨p, u, xs, _, rfl, rfl, s _ _ hp, upd_same, by rw [List.length_append, List.length_append]; omega, fun w hw => q _ _ w s (DqAll.app (DqAll.app (DqAll.app e e) e) (hx.same s)) hw⟩
/-- a value appended to a list of them -/
theorem app_mk {K : PySem.W.Frag} {te : TE} {D : PyData} {Es : List PyData} {b : TS} {Dn : Ends} {H : Hp} {k : Nat} {p : Addr} {xs : List V} (hs : σ[k]? = some (some (.ref p))) (hp : H p = some (.lst xs)) (np : ∀ a, N a → a ≠ p) (hx : DqAll H N xs Es) (h : Mk N σ H te D) (hl : Es.length < sizeLine)
    (q : ∀ H1 ys, (∀ b o, H b = some o → b ≠ p → H1 b = some o) → H1 p = some (.lst ys) → DqAll H1 N ys (Es ++ [D]) → b Dn σ H1) : tSeq (tDrop (tBM K "list" rAppend (tVar k) (tCons te tNil))) b Dn σ H := by
  have l1 := hx.length
  refine ⟨_, hs, .inl ⟨rfl, _, .inl (.inl hp)⟩, h H _ (Same.refl _) fun H1 v s1 e1 => ⟨p, xs, v, rfl, rfl, s1 _ _ hp, by omega, ?_⟩⟩
  have all : DqAll H1 N (xs ++ [v]) (Es ++ [D]) := DqAll.app (.cons e1 .nil) (hx.same s1)
  exact q _ _ (fun b o e n => by rw [upd_ne n]; exact s1 _ _ e) upd_same (all.move (fun b o n e _ => by rw [upd_ne (np b n)]; exact e) fun _ _ n _ _ => n)
end
end Ft

set_option exponentiation.threshold 9000
namespace Ft
open PySem L2
def Rz (E : XK) (C : Addr) (f : Str) (v : V) (H : Hp) : Prop := ∀ H' d, Same H H' → H' d = none → E (.ref C) (some d) (upd H' d (.xd [(f, v)]))
theorem Rz.same {E : XK} {C : Addr} {f : Str} {v : V} {H H' : Hp} (h : Rz E C f v H) (s : Same H H') : Rz E C f v H' := fun H2 d s2 n => h H2 d (s.trans s2) n
def sp_isIntQ : Sp := fun vs H Q _ => ∃ v d N, vs = [v] ∧ Dq H N v d ∧ Q (.bl (isIntD d)) H
section
variable {P : Program} {w : World} {K : PySem.W.Frag} {mg : Str → Option Value} {base : Heap}
theorem ok_isIntQ (D : Df K mg "is_integer" s_is_integer ["thing"]) (B : Bi mg)  : Cal P w K mg base 1 "is_integer" sp_isIntQ := by
  obtain ⟨f, fd, F, m, b⟩ := D.ex
  have sc := sc_is_integer
  refine ⟨f, fd, _, F.ok sc (fun _ _ _ _ ⟨_, _, _, e, _⟩ => by rw [e]; rfl) (fun cdv A outer s H vs Q E hr h => ?_), m, F.kp, b⟩
  obtain ⟨v, d, N, rfl, hd, q⟩ := h
  refine ⟨_, (pss_one (ps_ret (pe_and (pe_callB call_isi (by rfl) B.isinstance (by decide +kernel) (pa_cons (pv 0) (pa_cons (pe_ty (n := "int") (by rfl) B.int_ (by decide +kernel)) pa_nil))) (pe_one (pe_not (pe_callB call_isi (by rfl) B.isinstance (by decide +kernel) (pa_cons (pv 0) (pa_cons (pe_ty (n := "bool") (by rfl) B.bool (by decide +kernel)) pa_nil)))))))), ?_⟩
  refine ⟨_, rfl, _, _, _, _, _, rfl, .ty _, hd.ty, kit_intD d, _, rfl, ?_⟩
  cases hi : (isIntD d || isBoolD d) with
  | false =>
    rw [(Bool.or_eq_false_iff.mp hi).1] at q
    exact iteF q
  | true =>
    refine iteT ⟨_, rfl, _, _, _, _, _, rfl, .ty _, hd.ty, kit_boolD d, _, rfl, ?_⟩
    have e : isIntD d = !isBoolD d := by cases d <;> first | rfl | cases hi
    rw [e] at q
    exact q
end
end Ft

set_option exponentiation.threshold 9000
namespace Ft
open PySem L2
def sqB (D : PyData) : Bool := D.showable && decide (D.depth ≤ 5) && D.leavesShort 700 && decide (D.bulk ≤ 300)
theorem sq_of {D : PyData} (h : sqB D = true) : Sq 5 300 D := by
  unfold sqB at h
  simp only [Bool.and_eq_true, decide_eq_true_eq] at h
  exact ⟨h.1.1.1, h.1.1.2, h.1.2, h.2⟩
theorem str_short (x : String) : (PyData.str (Str.ofString x)).leavesShort 700 = true := by
  simp only [PyData.leavesShort, List.all_eq_true, decide_eq_true_eq]
  intro c hc
  rw [Str.ofString_eq_toList] at hc
  obtain ⟨ch, _, rfl⟩ := List.mem_map.mp (show c ∈ x.toList.map Char.toNat from hc)
  exact ch.val.toNat_lt
theorem digits_len {z : Int} (h : z.natAbs < 10 ^ 28) : (Str.ofString (toString z)).length ≤ 40 := by
  rcases Int.lt_or_le z 0 with h0 | h0
  · obtain ⟨m, rfl⟩ : ∃ m : Nat, z = Int.negSucc m := ⟨z.natAbs - 1, by omega⟩
    have l := PyProof.Rows.toString_length_le (v := ((m + 1 : Nat) : Int)) (by omega) (k := 28) (by decide) (by
      have h : m + 1 < 10 ^ 28 := h
      have e : (10 : Int) ^ 28 = ((10 ^ 28 : Nat) : Int) := by decide
      rw [e]
      exact Int.ofNat_lt.mpr h)
    have e : toString (Int.negSucc m) = "-" ++ toString (m + 1) := rfl
    rw [e, PyProof.Rows.ofString_length, String.toList_append, List.length_append]
    rw [PyProof.Rows.ofString_length] at l
    have l' : (toString (m + 1)).toList.length ≤ 28 := l
    have : "-".toList.length = 1 := by decide
    omega
  · have l := PyProof.Rows.toString_length_le h0 (k := 28) (by decide) (by
      have e : (10 : Int) ^ 28 = ((10 ^ 28 : Nat) : Int) := by decide
      rw [e]
      omega)
    exact Nat.le_trans l (by decide)
abbrev All : Addr → Prop := fun _ => True
def Yg (H0 : Hp) (l : Addr) : Prop := ∀ o, H0 l = some o → ∃ ps, o = .tbl ps
theorem rs_word {x : Str} (h : sqB (.str x) = true) (h2 : (PyData.str x).bulk ≤ 40) : Rs 5 40 (.str x) := ⟨(sq_of h).show_, by simp only [PyData.hasDict], (sq_of h).depth, (sq_of h).short, h2⟩
theorem Dq.tup_inv {H : Hp} {N : Addr → Prop} {v : V} {ds : List PyData} (h : Dq H N v (.tuple ds)) : ∃ a xs, v = .ref a ∧ N a ∧ Rp H a (.tup xs) ∧ DqAll H N xs ds := by
  cases h with
  | tup n e h => exact ⟨_, _, rfl, n, e, h⟩
end Ft

set_option exponentiation.threshold 9000
namespace Ft
open PySem L2 PySem.Spec PyProof.Rows PySem.SeqAt
open AutoSeq1 (wpAny_loadPart')
open MeetsSeq
theorem str_eq_declines_obj (b : Str) (u : Tok) (l : Addr) (o : Obj) (ho : ∀ z t, o.data ≠ .prim (.str z t)) :
    Meets (Builtin.«str.__eq__» ⟨[.str b u, .ref l], []⟩) (fun _ R s => s.heap.get? l = some o ∧ R (.ok (.ret .notImplemented)) s) :=
  .of_wp fun prog w A R s h => by
    obtain ⟨hp, g, d, tk, os⟩ := s
    obtain ⟨hl, h⟩ := h
    wp_walk using wpAny_loadPart' hl, wpAny_load hl
    split
    · next z t e => exact absurd e (ho z t)
    · wp_walk
      exact ⟨_, rfl, h⟩
section
variable {prog : Program} {w : World} {A : Around} {s : Shared}
theorem dict_eq_declines_str {kd : KeyKind prog w Key} {a : Addr} {kvs : List (Key × Value)} (da : s.heap.DictOf kd a kvs) (b : Str) (u : Tok) {E : Value → Shared → Prop} {Q : Value → Shared → Prop} (h : Q .notImplemented s) :
    wpAny (model prog w) A (call (.builtin "dict.__eq__") [.ref a, .str b u]) Q E s := by
  refine wpAny_call_entry PySem.F.slot_dict_eq da.typeIs PySem.F.entry_dict_eq ?_ (PySem.F.args_dict_eq_2 _ _)
  show wpAny _ _ (Builtin.Dict.dictSlotArgs "__eq__" ⟨[.ref a, .str b u], []⟩ >>= _) _ _ s
  refine wpAny_bind ?_
  unfold Builtin.Dict.dictSlotArgs
  refine wpAny_bind (wpAny_notOrdered_dict da.typeIs ?_)
  show wpAny _ _ (pure (Value.ref a, Value.str b u)) _ _ s
  refine wpAny_pure ?_
  refine wpAny_bind (wpAny_isInstance (typeIs_str s b u) PySem.F.sub_str_dict ?_)
  refine wpAny_bind (wpAny_rule ?_)
  exact wpAny_pure ⟨_, rfl, h⟩
theorem RcAt.dict_str {kd : KeyKind prog w Key} {a : Addr} {kvs : List (Key × Value)} (da : s.heap.DictOf kd a kvs) (b : Str) (u : Tok) (hu : A.units < cLine) {E : Value → Shared → Prop} {Q : Value → Shared → Prop} (h : Q (.bool false) s) :
    wpAny (model prog w) A (compareOp .Eq (.ref a) (.str b u)) Q E s := by
  obtain ⟨o, es, ep, ho, hx, hd, _⟩ := id da
  exact rc_eq_decline_or (k := false) da.typeIs (typeIs_str s b u) (by decide) PySem.F.sub_str_dict PySem.F.slot_dict_eq PySem.F.slot_str_eq_refl
    (fun _ hq => dict_eq_declines_str da b u hq)
    (fun _ hq => call_meets PySem.F.slot_str_eq_refl (typeIs_str s b u) PySem.F.entry_str_eq (PySem.F.args_str_eq_2 _ _) (str_eq_declines_obj b u a o fun z t e => by rw [hd] at e; cases e) ⟨ho, hq⟩)
    (fun _ hq => wpAny_of_eq (rfl : isSame (.ref a) (.str b u) = pure false) hq) (.inr hu) h
end
/-- is any value this text -/
def strD (w : Str) : PyData → Bool
  | .str x => decide (x = w)
  | _ => false
def rEqS : R2 := fun x y H Q => ∃ (D : PyData) (N : Addr → Prop) (w : Str), y = .str w ∧ Dq H N x D ∧ Q (.bl (strD w D)) H
theorem op_eqS {X : Cx} (hu : X.A.units < cLine) : OpR X (compareOp .Eq) rEqS := by
  intro pins s σ H x y v u Q I rx ry h
  obtain ⟨D, N, w, rfl, hx, q⟩ := h
  have flat : scal x (.str w) = true → strD w D = decide (x = V.str w) → wpAny (model X.prog X.w) X.A (compareOp .Eq v u) (fun v s' => ∃ y H', Inv X pins σ H' s' ∧ RelV y v ∧ Q y H') X.xe s := fun a b => op_eq pins s σ H x (.str w) v u Q I rx ry ⟨a, by rw [← b]; exact q⟩
  cases hx with
  | non => exact flat rfl rfl
  | bl b => exact flat rfl rfl
  | int i => exact flat rfl rfl
  | str z => exact flat rfl (decide_eq_decide.mpr ⟨fun h => congrArg V.str h, fun h => V.str.inj h⟩)
  | lst n e h =>
    cases (show v = Value.ref _ from rx)
    obtain ⟨t, rfl⟩ := ry
    obtain ⟨its, rv, pl, hz⟩ := I.list (.inl e.rd)
    exact RcAt.list_str w t pl.isList hu _ _ _ _ ⟨.bl false, H, I, rfl, q⟩
  | tup n e h =>
    cases (show v = Value.ref _ from rx)
    obtain ⟨t, rfl⟩ := ry
    obtain ⟨its, rv, pl, _⟩ := I.tuple (.inl e.rd)
    exact RcAt.tuple_str w t (show s.heap.IsTuple _ its.toArray from pl) hu _ _ _ _ ⟨.bl false, H, I, rfl, q⟩
  | dict n e hk h =>
    cases (show v = Value.ref _ from rx)
    obtain ⟨t, rfl⟩ := ry
    have ok := I.hok _ _ e
    simp only [ObjOk] at ok
    obtain ⟨_, _, vs, rv, da⟩ := ok
    exact RcAt.dict_str da w t hu ⟨.bl false, H, I, rfl, q⟩
end Ft

set_option exponentiation.threshold 9000
namespace Ft
open PySem L2 PySem.Spec PyProof.Rows PySem.SeqAt
open AutoSeq1 (wpAny_loadPart')
open MeetsSeq
theorem str_ne_declines_obj (b : Str) (u : Tok) (l : Addr) (o : Obj) (ho : ∀ z t, o.data ≠ .prim (.str z t)) :
    Meets (Builtin.«str.__ne__» ⟨[.str b u, .ref l], []⟩) (fun _ R s => s.heap.get? l = some o ∧ R (.ok (.ret .notImplemented)) s) :=
  .of_wp fun prog w A R s h => by
    obtain ⟨hp, g, d, tk, os⟩ := s
    obtain ⟨hl, h⟩ := h
    wp_walk using wpAny_loadPart' hl, wpAny_load hl
    split
    · next z t e => exact absurd e (ho z t)
    · wp_walk
      exact ⟨_, rfl, h⟩
section
variable {prog : Program} {w : World} {A : Around} {s : Shared}
theorem dict_ne_declines_str {kd : KeyKind prog w Key} {a : Addr} {kvs : List (Key × Value)} (da : s.heap.DictOf kd a kvs) (b : Str) (u : Tok) {E : Value → Shared → Prop} {Q : Value → Shared → Prop} (h : Q .notImplemented s) :
    wpAny (model prog w) A (call (.builtin "dict.__ne__") [.ref a, .str b u]) Q E s := by
  refine wpAny_call_entry PySem.F.slot_dict_ne da.typeIs PySem.F.entry_dict_ne ?_ (PySem.F.args_dict_ne_2 _ _)
  show wpAny _ _ (Builtin.Dict.dictSlotArgs "__ne__" ⟨[.ref a, .str b u], []⟩ >>= _) _ _ s
  refine wpAny_bind ?_
  unfold Builtin.Dict.dictSlotArgs
  refine wpAny_bind (wpAny_notOrdered_dict da.typeIs ?_)
  show wpAny _ _ (pure (Value.ref a, Value.str b u)) _ _ s
  refine wpAny_pure ?_
  refine wpAny_bind (wpAny_isInstance (typeIs_str s b u) PySem.F.sub_str_dict ?_)
  refine wpAny_bind (wpAny_rule ?_)
  exact wpAny_pure ⟨_, rfl, h⟩
theorem RcNeAt.dict_str {kd : KeyKind prog w Key} {a : Addr} {kvs : List (Key × Value)} (da : s.heap.DictOf kd a kvs) (b : Str) (u : Tok) (hu : A.units < cLine) {E : Value → Shared → Prop} {Q : Value → Shared → Prop} (h : Q (.bool true) s) :
    wpAny (model prog w) A (compareOp .NotEq (.ref a) (.str b u)) Q E s := by
  obtain ⟨o, es, ep, ho, hx, hd, _⟩ := id da
  exact rc_ne_decline_or (k := false) da.typeIs (typeIs_str s b u) (by decide) PySem.F.sub_str_dict PySem.F.slot_dict_ne PySem.F.slot_str_ne_refl
    (fun _ hq => dict_ne_declines_str da b u hq)
    (fun _ hq => call_meets PySem.F.slot_str_ne_refl (typeIs_str s b u) PySem.F.entry_str_ne (PySem.F.args_str_ne_2 _ _) (str_ne_declines_obj b u a o fun z t e => by rw [hd] at e; cases e) ⟨ho, hq⟩)
    (fun _ hq => wpAny_of_eq (rfl : isSame (.ref a) (.str b u) = pure false) hq) (.inr hu) h
end
def rNeS : R2 := fun x y H Q => ∃ (D : PyData) (N : Addr → Prop) (w : Str), y = .str w ∧ Dq H N x D ∧ Q (.bl (!strD w D)) H
theorem op_neS {X : Cx} (hu : X.A.units < cLine) : OpR X (compareOp .NotEq) rNeS := by
  intro pins s σ H x y v u Q I rx ry h
  obtain ⟨D, N, w, rfl, hx, q⟩ := h
  have flat : scal x (.str w) = true → strD w D = decide (x = V.str w) → wpAny (model X.prog X.w) X.A (compareOp .NotEq v u) (fun v s' => ∃ y H', Inv X pins σ H' s' ∧ RelV y v ∧ Q y H') X.xe s := fun a b => op_ne pins s σ H x (.str w) v u Q I rx ry ⟨a, by rw [← b]; exact q⟩
  cases hx with
  | non => exact flat rfl rfl
  | bl b => exact flat rfl rfl
  | int i => exact flat rfl rfl
  | str z => exact flat rfl (decide_eq_decide.mpr ⟨fun h => congrArg V.str h, fun h => V.str.inj h⟩)
  | lst n e h =>
    cases (show v = Value.ref _ from rx)
    obtain ⟨t, rfl⟩ := ry
    obtain ⟨its, rv, pl, hz⟩ := I.list (.inl e.rd)
    exact RcNeAt.list_str w t pl.isList hu _ _ _ _ ⟨.bl true, H, I, rfl, q⟩
  | tup n e h =>
    cases (show v = Value.ref _ from rx)
    obtain ⟨t, rfl⟩ := ry
    obtain ⟨its, rv, pl, _⟩ := I.tuple (.inl e.rd)
    exact RcNeAt.tuple_str w t (show s.heap.IsTuple _ its.toArray from pl) hu _ _ _ _ ⟨.bl true, H, I, rfl, q⟩
  | dict n e hk h =>
    cases (show v = Value.ref _ from rx)
    obtain ⟨t, rfl⟩ := ry
    have ok := I.hok _ _ e
    simp only [ObjOk] at ok
    obtain ⟨_, _, vs, rv, da⟩ := ok
    exact RcNeAt.dict_str da w t hu ⟨.bl true, H, I, rfl, q⟩
end Ft

set_option exponentiation.threshold 9000
namespace Ft
open PySem L2
/-! ### numbers as pairs -/
abbrev Fq := Int × Int
def low (a b : Int) : Fq := (a / ((Nat.gcd a.natAbs b.natAbs : Nat) : Int), b / ((Nat.gcd a.natAbs b.natAbs : Nat) : Int))
def nsum (x y : Fq) : Fq := low (x.1 * y.2 + y.1 * x.2) (x.2 * y.2)
def nprod (x y : Fq) : Fq := low (x.1 * y.1) (x.2 * y.2)
/-- of at most b bits, over a positive number -/
def Small (b : Nat) (x : Fq) : Prop := x.1.natAbs < 2 ^ b ∧ x.2.natAbs < 2 ^ b ∧ 0 < x.2
/-- the value v is the number x -/
def Fr (H : Hp) (v : V) (x : Fq) : Prop := ∃ t, v = .ref t ∧ H t = some (.tup [.int x.1, .int x.2])
theorem Fr.same {H H' : Hp} {v : V} {x : Fq} (h : Fr H v x) (s : Same H H') : Fr H' v x := by
  obtain ⟨t, e, z⟩ := h
  exact ⟨t, e, s _ _ z⟩
theorem Fr.new {H : Hp} {p : Addr} {a b : Int} : Fr (upd H p (.tup [.int a, .int b])) (.ref p) (a, b) := ⟨p, rfl, upd_same⟩
theorem two0 {a b : V} : atI [a, b] 0 = some a := atI_nat (j := 0) rfl
theorem two1 {a b : V} : atI [a, b] 1 = some b := atI_nat (j := 1) rfl
theorem fr0 {K : PySem.W.Frag} {H : Hp} {v : V} {x : Fq} {Q : VK} (h : Fr H v x) (q : Q (.int x.1) H) : rIx K v (.int 0) H Q := by
  obtain ⟨t, rfl, z⟩ := h
  exact .inr (.inl ⟨t, _, 0, _, rfl, rfl, SqT.of z, two0, q⟩)
theorem fr1 {K : PySem.W.Frag} {H : Hp} {v : V} {x : Fq} {Q : VK} (h : Fr H v x) (q : Q (.int x.2) H) : rIx K v (.int 1) H Q := by
  obtain ⟨t, rfl, z⟩ := h
  exact .inr (.inl ⟨t, _, 1, _, rfl, rfl, SqT.of z, two1, q⟩)
def sp_low : Sp := fun vs H Q _ => ∃ a b : Int, vs = [.int a, .int b] ∧ 0 < b ∧ b.natAbs < 2 ^ 8001 ∧ ∀ H' v, Same H H' → Fr H' v (low a b) → Q v H'
def sp_num (g : Fq → Fq → Fq) : Sp := fun vs H Q _ => ∃ u v x y, vs = [u, v] ∧ Fr H u x ∧ Fr H v y ∧ Small 4000 x ∧ Small 4000 y ∧ ∀ H' r, Same H H' → Fr H' r (g x y) → Q r H'
theorem gcd_bit {a b : Int} (h : 0 < b) : 0 < ((Nat.gcd a.natAbs b.natAbs : Nat) : Int) ∧ Nat.gcd a.natAbs b.natAbs ≤ b.natAbs := by
  have h1 : 0 < b.natAbs := by omega
  have h2 := Nat.gcd_pos_of_pos_right a.natAbs h1
  exact ⟨by omega, Nat.le_of_dvd h1 (Nat.gcd_dvd_right _ _)⟩
section
variable {P : Program} {w : World} {K : PySem.W.Frag} {mg : Str → Option Value} {base : Heap}
end
end Ft

namespace Ft
/-! the numbers of k26 -/
def divL (n : Nat) : List Nat := ((List.range n).filter fun i => decide (n % (i + 1) = 0)).map fun i => i + 1
def manyOf (N c : Nat) : Nat := ((List.range (Nat.gcd c (N / c))).filter fun i => decide (Nat.gcd (i + 1) (Nat.gcd c (N / c)) = 1)).length
abbrev Tri := Nat × Nat × Nat
def edgeOf (N c : Nat) : Tri := (c, manyOf N c, N / Nat.gcd (c * c) N)
def edges (N : Nat) : List Tri := (divL N).map (edgeOf N)
def sumE (l : List Tri) : Nat := l.foldl (fun s e => s + e.2.1 * e.2.2) 0
/-- the program's way to the divisors -/
def lowL (n r : Nat) : List Nat := ((List.range r).filter fun i => decide (n % (i + 1) = 0)).map fun i => i + 1
def divP (n r : Nat) : List Nat := lowL n r ++ (((lowL n r).reverse.filter fun d => decide (d * d ≠ n)).map fun d => n / d)
/-- Bool checks -/
def eqL : List Nat → List Nat → Bool
  | [], [] => true
  | a :: l, b :: m => Nat.beq a b && eqL l m
  | _, _ => false
def divF (n : Nat) : Nat → List Nat → List Nat
  | 0, acc => acc
  | i + 1, acc => divF n i (bif Nat.beq (n % (i + 1)) 0 then (i + 1) :: acc else acc)
end Ft

namespace Ft
open PySem L2
/-- reading an item of a list, for an augmented store -/
def rGetL : V → V → Hp → VK → Prop := fun o i H Q => ∃ (p : Addr) (xs : List V) (k : Nat) (x : V), o = .ref p ∧ i = .int (k : Int) ∧ H p = some (.lst xs) ∧ xs[k]? = some x ∧ xs.length < 2 ^ 62 ∧ Q x H
theorem get_lst {X : Cx} : PGet X rGetL := by
  intro pins s σ H o i ov iv Q I ro ri h
  obtain ⟨p, xs, k, x, rfl, rfl, hp, hx, hl, q⟩ := h
  obtain rfl : ov = Value.ref p := ro
  obtain ⟨t, rfl⟩ : ∃ t, iv = Value.int (k : Int) t := ri
  have hk := I.hok _ _ hp
  simp only [ObjOk] at hk
  obtain ⟨_, its, n, rv, ho⟩ := hk
  obtain ⟨u, hu, ru⟩ := Vals.get rv hx
  have hkl : k < xs.length := (List.getElem?_eq_some_iff.mp hx).1
  refine PySem.wpAny_getItem_list (items := its.toArray) (k := (k : Int)) (x := u) ⟨_, ho, rfl, n, rfl⟩ (by omega) (by omega) ?_ ⟨x, H, I, ru, q⟩
  rw [Int.toNat_natCast, List.getElem?_toArray]
  exact hu
theorem rgC {d M : Nat} (hd : 1 ≤ d) (hd2 : d ≤ 400) (hM : M ≤ 400) : RgC (d : Int) (M : Int) (d : Int) ((M - 1) / d) := by
  have key : Builtin.Range.rangeSize (d : Int) (M : Int) (d : Int) = (((M - 1) / d : Nat) : Int) := by
    unfold Builtin.Range.rangeSize
    rw [if_pos (by omega)]
    by_cases h : (d : Int) < (M : Int)
    · rw [if_pos h]
      have e1 : ((M : Int) - (d : Int) - 1) = ((M - d - 1 : Nat) : Int) := by omega
      rw [e1]
      have e2 : (M - 1) / d = (M - d - 1) / d + 1 := by
        rw [show M - 1 = M - d - 1 + d by omega, Nat.add_div_right _ (by omega)]
      rw [e2]
      rfl
    · rw [if_neg h]
      have : (M - 1) / d = 0 := Nat.div_eq_of_lt (by omega)
      rw [this]
      rfl
  have hle : (M - 1) / d ≤ 400 := Nat.le_trans (Nat.div_le_self _ _) (by omega)
  have fit : ∀ z : Int, -2000 ≤ z → z ≤ 2000 → Builtin.Range.rangeFitsLong z = true := fun z a b => by
    unfold Builtin.Range.rangeFitsLong
    simp only [Bool.and_eq_true, decide_eq_true_eq]
    omega
  generalize (M - 1) / d = q at key hle
  refine ⟨by omega, by omega, ?_, key⟩
  unfold Builtin.Range.small
  rw [key, if_pos (by omega), fit _ (by omega) (by omega), fit _ (by omega) (by omega), fit _ (by omega) (by omega), fit ((M : Int) + ((d : Int) - 1)) (by omega) (by omega)]
  simp
theorem set_map {α : Type} (f : Nat → α) (v : α) {M k : Nat} (hk : k < M) : ((List.range M).map f).set k v = (List.range M).map fun n => if n = k then v else f n := by
  apply List.ext_getElem?
  intro i
  rw [List.getElem?_set, List.getElem?_map, List.getElem?_map]
  rcases Nat.lt_or_ge i M with hi | hi
  · rw [List.getElem?_range hi, List.length_map, List.length_range]
    by_cases h : k = i
    · rw [if_pos h, if_pos (by omega)]
      show some v = some (if i = k then v else f i)
      rw [if_pos h.symm]
    · rw [if_neg h]
      show some (f i) = some (if i = k then v else f i)
      rw [if_neg (fun z => h z.symm)]
  · rw [List.getElem?_eq_none (by rw [List.length_range]; exact hi)]
    by_cases h : k = i
    · omega
    · rw [if_neg h]
      rfl
end Ft

set_option exponentiation.threshold 9000
namespace Ft
open PySem L2
theorem getD_lt {ts : List Int} {N : Nat} (h : ∀ x ∈ ts, x.natAbs < 2 ^ N) (i : Nat) : (ts.getD i 0).natAbs < 2 ^ N := by
  rcases Nat.lt_or_ge i ts.length with hi | hi
  · exact h _ (getD_mem hi)
  · rw [List.getD_eq_getElem?_getD, List.getElem?_eq_none hi]
    exact Nat.pow_pos (by decide)
-- HERE
theorem at_state {t : TS} {D : Ends} {σ : L2.St} {H : Hp} (σ' : L2.St) (e : σ = σ') (h : t D σ' H) : t D σ H := by rw [e]; exact h
end Ft

set_option exponentiation.threshold 9000
set_option maxHeartbeats 1000000
namespace Ft
open PySem L2
def withoutL (row pivot : List Int) (k : Nat) (last : Int) : List Int := (List.range row.length).map fun i => (pivot.getD k 0 * row.getD i 0 - row.getD k 0 * pivot.getD i 0) / last
/-- a list of ints -/
def IsL (H : Hp) (p : Addr) (ts : List Int) : Prop := H p = some (.lst (ts.map V.int))
def Bd (ts : List Int) : Prop := ts.length ≤ 40 ∧ ∀ x ∈ ts, x.natAbs < 2 ^ 2000
theorem Bd.at {ts : List Int} (h : Bd ts) (i : Nat) : (ts.getD i 0).natAbs < 2 ^ 8000 := Nat.lt_trans (getD_lt h.2 i) (Nat.pow_lt_pow_right (by decide) (by decide))
def sp_without : Sp := fun vs H Q _ => ∃ (p q : Addr) (row pivot : List Int) (k : Nat) (last : Int), vs = [.ref p, .ref q, .int (k : Int), .int last] ∧ IsL H p row ∧ IsL H q pivot ∧ Bd row ∧ Bd pivot ∧ row.length = pivot.length ∧ k < row.length ∧ 0 < last ∧ last.natAbs < 2 ^ 2000 ∧ ∀ H' r, Same H H' → H r = none → IsL H' r (withoutL row pivot k last) → Q (.ref r) H'
section
variable {P : Program} {w : World} {K : PySem.W.Frag} {mg : Str → Option Value} {base : Heap}
theorem ok_without (D : Df K mg "without" s_without ["row", "pivot", "k", "last"]) (B : Bi mg) : Cal P w K mg base 1 "without" sp_without := by
  obtain ⟨f, fd, F, m, b⟩ := D.ex
  have sc := sc_without
  refine ⟨f, fd, _, F.ok sc (fun _ _ _ _ ⟨_, _, _, _, _, _, e, _⟩ => by rw [e]; rfl) (fun cdv A outer s H vs Q E hr h => ?_), m, F.kp, b⟩
  obtain ⟨p, q0, row, pivot, k, last, rfl, hp, hq, br, bp, hl, hk, l0, l2, q⟩ := h
  refine ⟨_, (pss_one (ps_ret (pe_lc (own := [("entry", 4), ("other", 5)]) (g := gTup K 2 (gCons (gName 4) (gCons (gName 5) gNil))) (tt := tYes) (by rfl) sc.nd (pi_zip (by rfl) B.zip (pa_cons (pv 0) (pa_cons (pv 1) pa_nil))) (blkOk_by (own := [("entry", 4), ("other", 5)]) (N := N_without) (sc := defScope s_without) (by decide +kernel)) (fun _ _ _ _ _ => (pg_tup rfl (pgs_cons (pg_name (i := 4) sc.nd rfl (Or.inl rfl) (Or.inr rfl)) (pgs_cons (pg_name (i := 5) sc.nd rfl (Or.inl rfl) (Or.inr rfl)) pgs_nil)))) (fun _ _ _ _ _ => pts_nil) (fun _ _ _ _ _ => (pe_op op_fdivW (pe_op op_sub (pe_op op_mulW (pe_ix (show IxR _ (rIx K) from ix_seq) (pv 1) (pv 2) (fun _ _ => rfl)) (pv 4)) (pe_op op_mulW (pe_ix (show IxR _ (rIx K) from ix_seq) (pv 0) (pv 2) (fun _ _ => rfl)) (pv 5))) (pv 3)))))), ?_⟩
  refine ⟨_, rfl, _, rfl, p, q0, _, _, rfl, SqL.of hp, SqL.of hq, fun C hC => ?_⟩
  have n40 := br.1
  refine lc_it (walk_zip (xs := row.map V.int) (ys := pivot.map V.int) (n := row.length) (by rw [List.length_map, List.length_map, hl, Nat.min_self])) (fun i H' => Same H H' ∧ H' C = some (.lst (((List.range i).map fun i => (pivot.getD k 0 * row.getD i 0 - row.getD k 0 * pivot.getD i 0) / last).map V.int))) ⟨Same.upd_new hC, upd_same⟩ (fun i H' _ ⟨z, _⟩ => ⟨SqL.of (z _ _ hp), SqL.of (z _ _ hq)⟩) ?_ ?_
  · rintro i x0 Ha Hb hi ⟨ka, h3⟩ ⟨T, x, y, rfl, hT, rfl, hx, hy⟩
    obtain rfl : x = V.int (row.getD i 0) := Option.some.inj (hx.symm.trans (getD_at hi))
    obtain rfl : y = V.int (pivot.getD i 0) := Option.some.inj (hy.symm.trans (getD_at (by omega)))
    have k4 : Same Ha (upd Ha T (.tup [V.int (row.getD i 0), V.int (pivot.getD i 0)])) := Same.upd_new hT
    refine ⟨T, _, rfl, SqT.of upd_same, rfl, ?_⟩
    refine ⟨_, _, rfl, _, _, rfl, rfl, rfl, ?_⟩
    have hp4 := k4 _ _ (ka _ _ hp)
    have hq4 := k4 _ _ (ka _ _ hq)
    refine ⟨_, rfl, _, rfl, .inl ⟨q0, _, _, _, rfl, rfl, SqL.of hq4, atI_nat (getD_at (by omega)), _, rfl, _, _, rfl, rfl, mul8 (bp.at k) (br.at i), ?_⟩⟩
    refine ⟨_, rfl, _, rfl, .inl ⟨p, _, _, _, rfl, rfl, SqL.of hp4, atI_nat (getD_at hk), _, rfl, _, _, rfl, rfl, mul8 (br.at k) (bp.at i), _, _, rfl, rfl, ?_⟩⟩
    refine ⟨_, rfl, _, _, rfl, rfl, wide_div (b := 8000) l0 (Nat.lt_trans l2 (Nat.pow_lt_pow_right (by decide) (by decide))) (by decide) (by decide), ?_⟩
    refine ⟨_, k4 _ _ h3, ?_, fun b o e => ?_, ?_⟩
    · rw [List.length_map, List.length_map, List.length_range]
      exact Nat.lt_of_le_of_lt (by omega : i ≤ 400) (by decide)
    · rw [upd_ne (ne_of_none e hC)]
      exact k4 _ _ (ka _ _ e)
    · rw [upd_same, List.range_succ, List.map_append, List.map_append]
      rfl
  rintro H2 ⟨s2, h2⟩
  exact q _ C s2 hC h2
end
end Ft

set_option exponentiation.threshold 9000
set_option maxHeartbeats 4000000
namespace Ft
open PySem L2
def stairGo : Nat → List (List Int) → List (List Int) → Int → Nat → List (List Int)
  | 0, _, done, _, _ => done
  | _ + 1, [], done, _, _ => done
  | f + 1, pivot :: more, done, last, k => if pivot.getD k 0 ≤ 0 then done else stairGo f (more.map fun row => withoutL row pivot k last) (done ++ [pivot]) (pivot.getD k 0) (k + 1)
def stairL (rows : List (List Int)) : List (List Int) := stairGo rows.length rows [] 1 0
/-- what the walk asks of the numbers -/
def StOk (n : Nat) : Nat → List (List Int) → Int → Nat → Prop
  | 0, _, _, _ => True
  | _ + 1, [], _, _ => False
  | f + 1, pivot :: more, last, k => (∀ r ∈ pivot :: more, Bd r ∧ r.length = n) ∧ k < n ∧ 0 < last ∧ last.natAbs < 2 ^ 2000 ∧ (pivot.getD k 0 ≤ 0 ∨ StOk n f (more.map fun row => withoutL row pivot k last) (pivot.getD k 0) (k + 1))
/-- lists of ints, none of them at D -/
inductive Rls (H : Hp) (D : Addr) : List V → List (List Int) → Prop
  | nil : Rls H D [] []
  | cons {c : Addr} {vs : List V} {r : List Int} {rs : List (List Int)} : IsL H c r → c ≠ D → Rls H D vs rs → Rls H D (.ref c :: vs) (r :: rs)
theorem Rls.keep {H H' : Hp} {D : Addr} (s : ∀ b o, H b = some o → b ≠ D → H' b = some o) : ∀ {vs : List V} {rs : List (List Int)}, Rls H D vs rs → Rls H' D vs rs
  | _, _, .nil => .nil
  | _, _, .cons h n t => .cons (s _ _ h n) n (Rls.keep s t)
theorem Rls.snoc {H : Hp} {D c : Addr} {r : List Int} (h : IsL H c r) (n : c ≠ D) : ∀ {vs : List V} {rs : List (List Int)}, Rls H D vs rs → Rls H D (vs ++ [.ref c]) (rs ++ [r])
  | _, _, .nil => .cons h n .nil
  | _, _, .cons k m t => .cons k m (Rls.snoc h n t)
theorem Rls.len {H : Hp} {D : Addr} : ∀ {vs : List V} {rs : List (List Int)}, Rls H D vs rs → vs.length = rs.length
  | _, _, .nil => rfl
  | _, _, .cons _ _ t => congrArg (· + 1) (Rls.len t)
theorem Rls.get {H : Hp} {D : Addr} : ∀ {vs : List V} {rs : List (List Int)}, Rls H D vs rs → ∀ {i : Nat} {v : V}, vs[i]? = some v → ∃ c r, v = .ref c ∧ rs[i]? = some r ∧ IsL H c r ∧ c ≠ D
  | _, _, .nil, i, v, e => by cases e
  | _, _, .cons h n t, 0, v, e => ⟨_, _, by cases e; rfl, rfl, h, n⟩
  | _, _, .cons h n t, i + 1, v, e => Rls.get t (i := i) e
/-- rows of ints, lists or tuples -/
inductive Rns (H : Hp) : List V → List (List Int) → Prop
  | nil : Rns H [] []
  | cons {c : Addr} {vs : List V} {r : List Int} {rs : List (List Int)} : (H c = some (.lst (r.map V.int)) ∨ H c = some (.tup (r.map V.int))) → Rns H vs rs → Rns H (.ref c :: vs) (r :: rs)
theorem Rns.get {H : Hp} : ∀ {vs : List V} {rs : List (List Int)}, Rns H vs rs → ∀ {i : Nat} {v : V}, vs[i]? = some v → ∃ c r, v = .ref c ∧ rs[i]? = some r ∧ (H c = some (.lst (r.map V.int)) ∨ H c = some (.tup (r.map V.int)))
  | _, _, .nil, i, v, e => by cases e
  | _, _, .cons h t, 0, v, e => ⟨_, _, by cases e; rfl, rfl, h⟩
  | _, _, .cons h t, i + 1, v, e => Rns.get t (i := i) e
theorem Rns.len {H : Hp} : ∀ {vs : List V} {rs : List (List Int)}, Rns H vs rs → vs.length = rs.length
  | _, _, .nil => rfl
  | _, _, .cons _ t => congrArg (· + 1) (Rns.len t)
/-- lists of ints that are new over H0 -/
inductive Rnw (H0 H : Hp) : List V → List (List Int) → Prop
  | nil : Rnw H0 H [] []
  | cons {c : Addr} {vs : List V} {r : List Int} {rs : List (List Int)} : IsL H c r → H0 c = none → Rnw H0 H vs rs → Rnw H0 H (.ref c :: vs) (r :: rs)
theorem Rls.move {H H' : Hp} {D E : Addr} (s : Same H H') (hE : H E = none) : ∀ {vs : List V} {rs : List (List Int)}, Rls H D vs rs → Rls H' E vs rs
  | _, _, .nil => .nil
  | _, _, .cons h n t => .cons (s _ _ h) (fun e => by rw [e] at h; unfold IsL at h; rw [hE] at h; cases h) (Rls.move s hE t)
theorem Rls.other {H : Hp} {D E : Addr} : ∀ {vs : List V} {rs : List (List Int)}, Rls H D vs rs → (∀ v ∈ vs, v ≠ .ref E) → Rls H E vs rs
  | _, _, .nil, _ => .nil
  | _, _, .cons h n t, k => .cons h (fun e => k _ List.mem_cons_self (by rw [e])) (Rls.other t fun v hv => k v (List.mem_cons_of_mem _ hv))
theorem cut_1 (xs : List V) : cutV xs (some 1) none = xs.drop 1 := by
  unfold cutV
  have e1 : HT.sIx xs.length 0 (some 1) = min 1 xs.length := by
    have := HT.sIx_nat xs.length 0 1
    rw [show ((1 : Nat) : Int) = 1 from rfl] at this
    exact this
  have e2 : HT.sIx xs.length xs.length none = xs.length := rfl
  rw [e1, e2]
  cases xs with
  | nil => rfl
  | cons x l =>
    rw [List.length_cons, Nat.min_eq_left (by omega), List.drop_one, List.tail_cons]
    exact List.take_of_length_le (by omega)
section
variable {P : Program} {w : World} {K : PySem.W.Frag} {mg : Str → Option Value} {base : Heap}
def rLiO (K : PySem.W.Frag) : List V → Hp → VK → Prop := fun xs H Q => ∃ p ys, xs = [.ref p] ∧ (SqL K H p ys ∨ SqT K H p ys) ∧ ∀ l, H l = none → Q (.ref l) (upd H l (.lst ys))
def sp_stairL : Sp := fun vs H Q _ => ∃ (t : Addr) (ws : List V) (rows : List (List Int)), vs = [.ref t] ∧ H t = some (.lst ws) ∧ Rns H ws rows ∧ StOk rows.length rows.length rows 1 0 ∧ rows.length ≤ 16 ∧ ∀ H' D dv, Same H H' → H' D = some (.lst dv) → Rls H' D dv (stairL rows) → Q (.ref D) H'
theorem ok_stairL (D : Df K mg "stair" s_stair ["rows"]) (B : Bi mg) (c_without : Cal P w K mg base 1 "without" sp_without) : Cal P w K mg base 2 "stair" sp_stairL := by
  obtain ⟨f, fd, F, m, b⟩ := D.ex
  have sc := sc_stair
  refine ⟨f, fd, _, F.ok sc (fun _ _ _ _ ⟨_, _, _, e, _⟩ => by rw [e]; rfl) (fun cdv A outer s H vs Q E hr h => ?_), m, F.kp, b⟩
  obtain ⟨t, ws, rows, rfl, ht, hws, sok, n16, q⟩ := h
  refine ⟨_, (pss_cons (ps_setLc (i := 2) (own := [("row", 1)]) (g := gName 1) (tt := tYes) (by rfl) sc.nd rfl rfl (sw_true rfl rfl rfl (by decide +kernel)) (pi_list (pv 0)) (blkOk_by (own := [("row", 1)]) (N := N_stair) (sc := defScope s_stair) (by decide +kernel)) (fun _ _ _ _ _ => (pg_name (i := 1) sc.nd rfl (Or.inl rfl))) (fun _ _ _ _ _ => pts_nil) (fun _ _ _ _ _ => (pe_callTy (show CallR _ (.type "list") (rLiO K) from call_list_of) (by rfl) B.list (by decide +kernel) (pa_cons (pv 1) pa_nil))))
      (pss_cons (ps_set (i := 3) sc.nd rfl (Or.inl rfl) (pe_lst pa_nil))
      (pss_cons (ps_set (i := 4) sc.nd rfl (Or.inr rfl) pe_int)
      (pss_cons (ps_for PassesOwn.never rfl (pi_range1 rfl B.range (pa_cons (pe_callB call_len_seq (by rfl) B.len_ (by decide +kernel) (pa_cons (pv 0) pa_nil)) pa_nil)) (pg_name (i := 5) sc.nd rfl (Or.inr rfl))
      (pss_cons (ps_set (i := 6) sc.nd rfl (Or.inr rfl) (pe_ix (show IxR _ (rIx K) from ix_seq) (pv 2) pe_int (fun _ _ => rfl)))
        (pss_cons (ps_if (pt_cmpR op_le (pe_ix (show IxR _ (rIx K) from ix_seq) (pv 6) (pv 5) (fun _ _ => rfl)) pe_int (nomark _))
        (pss_one (ps_ret (pv 3)))
        pss_nil)
        (pss_cons (ps_expr (pe_bm PySem.F.plainAttrs_list PySem.F.slot_list_append PySem.F.type_list_append mt_append (pv 3) (pa_cons (pv 6) pa_nil)))
        (pss_cons (ps_setLc (i := 2) (own := [("row", 1)]) (g := gName 1) (tt := tYes) (by rfl) sc.nd rfl rfl (sw_true rfl rfl rfl (by decide +kernel)) (pi_list (pe_slice sl_list (pv 2) (po_some pe_int) po_none)) (blkOk_by (own := [("row", 1)]) (N := N_stair) (sc := defScope s_stair) (by decide +kernel)) (fun _ _ _ _ _ => (pg_name (i := 1) sc.nd rfl (Or.inl rfl))) (fun _ _ _ _ _ => pts_nil) (fun _ _ _ _ _ => (pe_c c_without hr (by decide) (by rfl) (pa_cons (pv 1) (pa_cons (pv 6) (pa_cons (pv 5) (pa_cons (pv 4) pa_nil)))))))
        (pss_one (ps_set (i := 4) sc.nd rfl (Or.inr rfl) (pe_ix (show IxR _ (rIx K) from ix_seq) (pv 6) (pv 5) (fun _ _ => rfl)))))))))
      (pss_one (ps_ret (pv 3))))))), ?_⟩
  have lw := hws.len
  refine ⟨_, rfl, t, rfl, ⟨_, SqL.of ht⟩, fun C hC => ?_⟩
  refine lc_list (K := K) (a := t) (xs := ws) (fun i H' => Same H H' ∧ ∃ vs : List V, H' C = some (.lst vs) ∧ Rls H' C vs (rows.take i)) ⟨Same.upd_new hC, [], upd_same, .nil⟩ (fun i H' _ ⟨z, _⟩ => SqL.of (z _ _ ht)) ?_ ?_
  · rintro i y Ha hy ⟨ka, vs, hvs, tvs⟩
    obtain ⟨c, r, rfl, hr1, hc⟩ := hws.get hy
    have li : vs.length ≤ 16 := by
      rw [tvs.len, List.length_take]
      omega
    dsimp only [gName]
    have hl : SqL K Ha c (r.map V.int) ∨ SqT K Ha c (r.map V.int) := by
      rcases hc with hc | hc
      · exact .inl (SqL.of (ka _ _ hc))
      · exact .inr (SqT.of (ka _ _ hc))
    refine ⟨rfl, _, rfl, c, _, rfl, hl, fun l hl2 => ?_⟩
    have nl : l ≠ C := fun e => by rw [e, hvs] at hl2; cases hl2
    have k4 : Same Ha (upd Ha l (.lst (r.map V.int))) := Same.upd_new hl2
    refine ⟨vs, k4 _ _ hvs, Nat.lt_of_le_of_lt li (by decide), fun b o e => ?_, vs ++ [.ref l], upd_same, ?_⟩
    · rw [upd_ne (ne_of_none e hC)]
      exact k4 _ _ (ka _ _ e)
    · rw [List.take_add_one, hr1]
      refine Rls.snoc ?_ nl (tvs.keep fun b o h n => ?_)
      · show (upd (upd Ha l _) C _) l = _
        rw [upd_ne nl]
        exact upd_same
      · rw [upd_ne n]
        exact k4 _ _ h
  rintro H1 ⟨s1, vs, hvs, tvs⟩
  rw [lw, List.take_length] at tvs
  dsimp only [gName]
  refine ⟨Nat.zero_le _, fun Dn hDn => ?_⟩
  have s2 : Same H1 (upd H1 Dn (.lst [])) := Same.upd_new hDn
  have d2 : (upd H1 Dn (.lst [])) Dn = some (.lst []) := upd_same
  have nCD : C ≠ Dn := fun e => by rw [e, hDn] at hvs; cases hvs
  have tv2 := tvs.move s2 hDn
  have hvs2 := s2 _ _ hvs
  generalize upd H1 Dn (.lst []) = H2 at s2 d2 tv2 hvs2
  have s02 := s1.trans s2
  have hDn0 : H Dn = none := s1.free hDn
  dsimp only [gName]
  refine at_state [some (.ref t), none, some (.ref C), some (.ref Dn), none, none, none] rfl ?_
  refine ⟨_, rfl, t, ws, rfl, .inl (SqL.of (s02 _ _ ht)), ?_⟩
  refine ⟨_, rfl, by omega, by omega, for_range (lo := 0) (n := Int.toNat (ws.length : Int)) (fun i σ H' => (∀ b o, H2 b = some o → b ≠ Dn → H' b = some o) ∧ ∃ (R : Addr) (rv dv : List V) (rest done : List (List Int)) (last : Int) (o1 o5 o6 : Option V), σ = [some (.ref t), o1, some (.ref R), some (.ref Dn), some (.int last), o5, o6] ∧ R ≠ Dn ∧ H' R = some (.lst rv) ∧ Rls H' Dn rv rest ∧ H' Dn = some (.lst dv) ∧ Rls H' Dn dv done ∧ dv.length ≤ i ∧ rest.length ≤ 16 ∧ StOk rows.length (rows.length - i) rest last i ∧ stairGo (rows.length - i) rest done last i = stairL rows) ⟨fun b o h _ => h, C, vs, [], rows, [], 1, none, none, none, rfl, nCD, hvs2, tv2, d2, .nil, Nat.zero_le _, n16, sok, rfl⟩ ?_ ?_⟩
  · rintro i σ H3 hi ⟨k3, R, rv, dv, rest, done, last, o1, o5, o6, rfl, nR, hR, tr, hD, td, ld, lr16, ok, go⟩
    have hi' : i < rows.length := by omega
    obtain ⟨f', hf⟩ : ∃ f', rows.length - i = f' + 1 := ⟨rows.length - i - 1, by omega⟩
    have hf2 : rows.length - (i + 1) = f' := by omega
    rw [hf] at ok go
    cases rest with
    | nil => exact absurd ok (by intro z; exact z)
    | cons pivot more =>
    obtain ⟨pc, mv, rfl, hpc, npc, tm⟩ : ∃ c mv, rv = V.ref c :: mv ∧ IsL H3 c pivot ∧ c ≠ Dn ∧ Rls H3 Dn mv more := by
      cases tr with
      | cons a b c => exact ⟨_, _, rfl, a, b, c⟩
    obtain ⟨bd, kn, l0, l2, nx⟩ := ok
    obtain ⟨bp, lp⟩ := bd pivot List.mem_cons_self
    have ip : i < pivot.length := by omega
    have sH : ∀ b o, H b = some o → H3 b = some o := fun b o h => k3 b o (s02 _ _ h) (ne_of_none h hDn0)
    dsimp only [gName]
    rw [Int.zero_add]
    refine ⟨_, rfl, .inl ⟨R, _, 0, .ref pc, rfl, rfl, SqL.of hR, (show atI (V.ref pc :: mv) ((0 : Nat) : Int) = some (V.ref pc) from atI_nat rfl), ?_⟩⟩
    refine ⟨_, rfl, _, rfl, .inl ⟨pc, _, _, _, rfl, rfl, SqL.of hpc, atI_nat (getD_at ip), _, _, rfl, rfl, _, rfl, ifD (fun le => ?_) fun gt => ?_⟩⟩
    · unfold stairGo at go
      rw [if_pos le] at go
      exact ⟨_, rfl, q _ Dn dv sH hD (by rw [← go]; exact td)⟩
    unfold stairGo at go
    rw [if_neg gt] at go
    have nx : StOk rows.length f' (more.map fun row => withoutL row pivot i last) (pivot.getD i 0) (i + 1) := by
      rcases nx with nx | nx
      · exact absurd nx gt
      · exact nx
    dsimp only [tNext]
    refine ⟨_, rfl, .inl ⟨rfl, _, SqL.of hD⟩, _, rfl, Dn, _, _, rfl, rfl, hD, Nat.lt_of_le_of_lt (by omega : dv.length ≤ 16) (by decide), ?_⟩
    have k4 : ∀ b o, H3 b = some o → b ≠ Dn → (upd H3 Dn (.lst (dv ++ [V.ref pc]))) b = some o := fun b o h n => by rw [upd_ne n]; exact h
    have d4 : (upd H3 Dn (.lst (dv ++ [V.ref pc]))) Dn = some (.lst (dv ++ [V.ref pc])) := upd_same
    generalize upd H3 Dn (.lst (dv ++ [V.ref pc])) = H4 at k4 d4
    have hR4 := k4 _ _ hR nR
    have hpc4 : IsL H4 pc pivot := k4 _ _ hpc npc
    have tm4 := tm.keep k4
    have td4 := Rls.snoc hpc4 npc (td.keep k4)
    refine ⟨_, rfl, 1, rfl, R, _, rfl, SqL.of hR4, fun C0 hC0 => ?_⟩
    rw [cut_1, List.drop_one, List.tail_cons]
    have s5 : Same H4 (upd H4 C0 (.lst mv)) := Same.upd_new hC0
    have h5 : (upd H4 C0 (.lst mv)) C0 = some (.lst mv) := upd_same
    generalize upd H4 C0 (.lst mv) = H5 at s5 h5
    have d5 := s5 _ _ d4
    have hpc5 : IsL H5 pc pivot := s5 _ _ hpc4
    have tm5 := tm4.keep fun b o h _ => s5 b o h
    have lm : mv.length ≤ 16 := by
      have := tr.len
      rw [List.length_cons] at this
      have z := tm.len
      rw [List.length_cons] at lr16
      omega
    refine ⟨C0, rfl, ⟨_, SqL.of h5⟩, fun Cn hCn => ?_⟩
    refine lc_list (K := K) (a := C0) (xs := mv) (fun j H' => Same H5 H' ∧ ∃ nv : List V, H' Cn = some (.lst nv) ∧ Rls H' Cn nv ((more.take j).map fun row => withoutL row pivot i last) ∧ ∀ v ∈ nv, v ≠ .ref Dn) ⟨Same.upd_new hCn, [], upd_same, .nil, fun v hv => by cases hv⟩ (fun j H' _ ⟨z, _⟩ => SqL.of (z _ _ h5)) ?_ ?_
    · rintro j y Ha hy ⟨ka, nv, hnv, tnv, nnv⟩
      obtain ⟨c, row, rfl, hrow, hc, nc⟩ := tm5.get hy
      obtain ⟨br, lr⟩ := bd row (List.mem_cons_of_mem _ (List.mem_of_getElem? hrow))
      have hj : j < mv.length := (List.getElem?_eq_some_iff.mp hy).1
      dsimp only [gName]
      refine ⟨rfl, _, rfl, _, rfl, _, rfl, _, rfl, c, pc, row, pivot, i, last, rfl, ka _ _ hc, ka _ _ hpc5, br, bp, by omega, by omega, l0, l2, fun Hd r sd nr hr' => ?_⟩
      have nrC : r ≠ Cn := fun e => by rw [e, hnv] at nr; cases nr
      have nrD : r ≠ Dn := fun e => by rw [e, ka _ _ d5] at nr; cases nr
      refine ⟨nv, sd _ _ hnv, Nat.lt_of_le_of_lt (by have := tnv.len; rw [List.length_map, List.length_take] at this; omega : nv.length ≤ 16) (by decide), fun b o e => ?_, nv ++ [.ref r], upd_same, ?_, fun v hv => ?_⟩
      · rw [upd_ne (ne_of_none e hCn)]
        exact sd _ _ (ka _ _ e)
      · rw [List.take_add_one, hrow, List.map_append]
        refine Rls.snoc ?_ nrC (tnv.keep fun b o h n => ?_)
        · show (upd Hd Cn _) r = _
          rw [upd_ne nrC]
          exact hr'
        · rw [upd_ne n]
          exact sd _ _ h
      · rcases List.mem_append.mp hv with hv | hv
        · exact nnv v hv
        · rw [List.mem_singleton.mp hv]
          exact fun e => nrD (V.ref.inj e)
    rintro H6 ⟨s6, nv, hnv, tnv, nnv⟩
    rw [tm.len, List.take_length] at tnv
    dsimp only [gName]
    refine ⟨_, rfl, _, rfl, .inl ⟨pc, _, _, _, rfl, rfl, SqL.of (s6 _ _ hpc5), atI_nat (getD_at ip), ?_⟩⟩
    dsimp only [gName]
    have nCn : Cn ≠ Dn := fun e => by rw [e, d5] at hCn; cases hCn
    refine ⟨fun b o h n => s6 _ _ (s5 _ _ (k4 _ _ (k3 _ _ h n) n)), Cn, nv, dv ++ [.ref pc], _, done ++ [pivot], pivot.getD i 0, _, _, _, rfl, nCn, hnv, tnv.other nnv, s6 _ _ d5, td4.keep (fun b o h _ => s6 _ _ (s5 _ _ h)), by rw [List.length_append]; show dv.length + 1 ≤ i + 1; omega, (by rw [List.length_map]; rw [List.length_cons] at lr16; omega), ?_, ?_⟩
    · rw [hf2]
      exact nx
    · rw [hf2]
      exact go
  · rintro σ H3 ⟨k3, R, rv, dv, rest, done, last, o1, o5, o6, rfl, nR, hR, tr, hD, td, ld, lr16, ok, go⟩
    rw [show rows.length - Int.toNat (ws.length : Int) = 0 by omega] at go
    unfold stairGo at go
    have sH : ∀ b o, H b = some o → H3 b = some o := fun b o h => k3 b o (s02 _ _ h) (ne_of_none h hDn0)
    exact ⟨_, rfl, q _ Dn dv sH hD (by rw [← go]; exact td)⟩
def sp_stairT : Sp := fun vs H Q _ => ∃ (t : Addr) (ws : List V) (rows : List (List Int)), vs = [.ref t] ∧ H t = some (.tup ws) ∧ Rns H ws rows ∧ StOk rows.length rows.length rows 1 0 ∧ rows.length ≤ 16 ∧ ∀ H' D dv, Same H H' → H' D = some (.lst dv) → Rls H' D dv (stairL rows) → Q (.ref D) H'
theorem ok_stairT (D : Df K mg "stair" s_stair ["rows"]) (B : Bi mg) (c_without : Cal P w K mg base 1 "without" sp_without) : Cal P w K mg base 2 "stair" sp_stairT := by
  obtain ⟨f, fd, F, m, b⟩ := D.ex
  have sc := sc_stair
  refine ⟨f, fd, _, F.ok sc (fun _ _ _ _ ⟨_, _, _, e, _⟩ => by rw [e]; rfl) (fun cdv A outer s H vs Q E hr h => ?_), m, F.kp, b⟩
  obtain ⟨t, ws, rows, rfl, ht, hws, sok, n16, q⟩ := h
  refine ⟨_, (pss_cons (ps_setLc (i := 2) (own := [("row", 1)]) (g := gName 1) (tt := tYes) (by rfl) sc.nd rfl rfl (sw_true rfl rfl rfl (by decide +kernel)) (pi_tup (pv 0)) (blkOk_by (own := [("row", 1)]) (N := N_stair) (sc := defScope s_stair) (by decide +kernel)) (fun _ _ _ _ _ => (pg_name (i := 1) sc.nd rfl (Or.inl rfl))) (fun _ _ _ _ _ => pts_nil) (fun _ _ _ _ _ => (pe_callTy (show CallR _ (.type "list") (rLiO K) from call_list_of) (by rfl) B.list (by decide +kernel) (pa_cons (pv 1) pa_nil))))
      (pss_cons (ps_set (i := 3) sc.nd rfl (Or.inl rfl) (pe_lst pa_nil))
      (pss_cons (ps_set (i := 4) sc.nd rfl (Or.inr rfl) pe_int)
      (pss_cons (ps_for PassesOwn.never rfl (pi_range1 rfl B.range (pa_cons (pe_callB call_len_seq (by rfl) B.len_ (by decide +kernel) (pa_cons (pv 0) pa_nil)) pa_nil)) (pg_name (i := 5) sc.nd rfl (Or.inr rfl))
      (pss_cons (ps_set (i := 6) sc.nd rfl (Or.inr rfl) (pe_ix (show IxR _ (rIx K) from ix_seq) (pv 2) pe_int (fun _ _ => rfl)))
        (pss_cons (ps_if (pt_cmpR op_le (pe_ix (show IxR _ (rIx K) from ix_seq) (pv 6) (pv 5) (fun _ _ => rfl)) pe_int (nomark _))
        (pss_one (ps_ret (pv 3)))
        pss_nil)
        (pss_cons (ps_expr (pe_bm PySem.F.plainAttrs_list PySem.F.slot_list_append PySem.F.type_list_append mt_append (pv 3) (pa_cons (pv 6) pa_nil)))
        (pss_cons (ps_setLc (i := 2) (own := [("row", 1)]) (g := gName 1) (tt := tYes) (by rfl) sc.nd rfl rfl (sw_true rfl rfl rfl (by decide +kernel)) (pi_list (pe_slice sl_list (pv 2) (po_some pe_int) po_none)) (blkOk_by (own := [("row", 1)]) (N := N_stair) (sc := defScope s_stair) (by decide +kernel)) (fun _ _ _ _ _ => (pg_name (i := 1) sc.nd rfl (Or.inl rfl))) (fun _ _ _ _ _ => pts_nil) (fun _ _ _ _ _ => (pe_c c_without hr (by decide) (by rfl) (pa_cons (pv 1) (pa_cons (pv 6) (pa_cons (pv 5) (pa_cons (pv 4) pa_nil)))))))
        (pss_one (ps_set (i := 4) sc.nd rfl (Or.inr rfl) (pe_ix (show IxR _ (rIx K) from ix_seq) (pv 6) (pv 5) (fun _ _ => rfl)))))))))
      (pss_one (ps_ret (pv 3))))))), ?_⟩
  have lw := hws.len
  refine ⟨_, rfl, t, rfl, ⟨_, SqT.of ht⟩, fun C hC => ?_⟩
  refine lc_tup (K := K) (a := t) (xs := ws) (fun i H' => Same H H' ∧ ∃ vs : List V, H' C = some (.lst vs) ∧ Rls H' C vs (rows.take i)) ⟨Same.upd_new hC, [], upd_same, .nil⟩ (fun i H' _ ⟨z, _⟩ => SqT.of (z _ _ ht)) ?_ ?_
  · rintro i y Ha hy ⟨ka, vs, hvs, tvs⟩
    obtain ⟨c, r, rfl, hr1, hc⟩ := hws.get hy
    have li : vs.length ≤ 16 := by
      rw [tvs.len, List.length_take]
      omega
    dsimp only [gName]
    have hl : SqL K Ha c (r.map V.int) ∨ SqT K Ha c (r.map V.int) := by
      rcases hc with hc | hc
      · exact .inl (SqL.of (ka _ _ hc))
      · exact .inr (SqT.of (ka _ _ hc))
    refine ⟨rfl, _, rfl, c, _, rfl, hl, fun l hl2 => ?_⟩
    have nl : l ≠ C := fun e => by rw [e, hvs] at hl2; cases hl2
    have k4 : Same Ha (upd Ha l (.lst (r.map V.int))) := Same.upd_new hl2
    refine ⟨vs, k4 _ _ hvs, Nat.lt_of_le_of_lt li (by decide), fun b o e => ?_, vs ++ [.ref l], upd_same, ?_⟩
    · rw [upd_ne (ne_of_none e hC)]
      exact k4 _ _ (ka _ _ e)
    · rw [List.take_add_one, hr1]
      refine Rls.snoc ?_ nl (tvs.keep fun b o h n => ?_)
      · show (upd (upd Ha l _) C _) l = _
        rw [upd_ne nl]
        exact upd_same
      · rw [upd_ne n]
        exact k4 _ _ h
  rintro H1 ⟨s1, vs, hvs, tvs⟩
  rw [lw, List.take_length] at tvs
  dsimp only [gName]
  refine ⟨Nat.zero_le _, fun Dn hDn => ?_⟩
  have s2 : Same H1 (upd H1 Dn (.lst [])) := Same.upd_new hDn
  have d2 : (upd H1 Dn (.lst [])) Dn = some (.lst []) := upd_same
  have nCD : C ≠ Dn := fun e => by rw [e, hDn] at hvs; cases hvs
  have tv2 := tvs.move s2 hDn
  have hvs2 := s2 _ _ hvs
  generalize upd H1 Dn (.lst []) = H2 at s2 d2 tv2 hvs2
  have s02 := s1.trans s2
  have hDn0 : H Dn = none := s1.free hDn
  dsimp only [gName]
  refine at_state [some (.ref t), none, some (.ref C), some (.ref Dn), none, none, none] rfl ?_
  refine ⟨_, rfl, t, ws, rfl, .inr (SqT.of (s02 _ _ ht)), ?_⟩
  refine ⟨_, rfl, by omega, by omega, for_range (lo := 0) (n := Int.toNat (ws.length : Int)) (fun i σ H' => (∀ b o, H2 b = some o → b ≠ Dn → H' b = some o) ∧ ∃ (R : Addr) (rv dv : List V) (rest done : List (List Int)) (last : Int) (o1 o5 o6 : Option V), σ = [some (.ref t), o1, some (.ref R), some (.ref Dn), some (.int last), o5, o6] ∧ R ≠ Dn ∧ H' R = some (.lst rv) ∧ Rls H' Dn rv rest ∧ H' Dn = some (.lst dv) ∧ Rls H' Dn dv done ∧ dv.length ≤ i ∧ rest.length ≤ 16 ∧ StOk rows.length (rows.length - i) rest last i ∧ stairGo (rows.length - i) rest done last i = stairL rows) ⟨fun b o h _ => h, C, vs, [], rows, [], 1, none, none, none, rfl, nCD, hvs2, tv2, d2, .nil, Nat.zero_le _, n16, sok, rfl⟩ ?_ ?_⟩
  · rintro i σ H3 hi ⟨k3, R, rv, dv, rest, done, last, o1, o5, o6, rfl, nR, hR, tr, hD, td, ld, lr16, ok, go⟩
    have hi' : i < rows.length := by omega
    obtain ⟨f', hf⟩ : ∃ f', rows.length - i = f' + 1 := ⟨rows.length - i - 1, by omega⟩
    have hf2 : rows.length - (i + 1) = f' := by omega
    rw [hf] at ok go
    cases rest with
    | nil => exact absurd ok (by intro z; exact z)
    | cons pivot more =>
    obtain ⟨pc, mv, rfl, hpc, npc, tm⟩ : ∃ c mv, rv = V.ref c :: mv ∧ IsL H3 c pivot ∧ c ≠ Dn ∧ Rls H3 Dn mv more := by
      cases tr with
      | cons a b c => exact ⟨_, _, rfl, a, b, c⟩
    obtain ⟨bd, kn, l0, l2, nx⟩ := ok
    obtain ⟨bp, lp⟩ := bd pivot List.mem_cons_self
    have ip : i < pivot.length := by omega
    have sH : ∀ b o, H b = some o → H3 b = some o := fun b o h => k3 b o (s02 _ _ h) (ne_of_none h hDn0)
    dsimp only [gName]
    rw [Int.zero_add]
    refine ⟨_, rfl, .inl ⟨R, _, 0, .ref pc, rfl, rfl, SqL.of hR, (show atI (V.ref pc :: mv) ((0 : Nat) : Int) = some (V.ref pc) from atI_nat rfl), ?_⟩⟩
    refine ⟨_, rfl, _, rfl, .inl ⟨pc, _, _, _, rfl, rfl, SqL.of hpc, atI_nat (getD_at ip), _, _, rfl, rfl, _, rfl, ifD (fun le => ?_) fun gt => ?_⟩⟩
    · unfold stairGo at go
      rw [if_pos le] at go
      exact ⟨_, rfl, q _ Dn dv sH hD (by rw [← go]; exact td)⟩
    unfold stairGo at go
    rw [if_neg gt] at go
    have nx : StOk rows.length f' (more.map fun row => withoutL row pivot i last) (pivot.getD i 0) (i + 1) := by
      rcases nx with nx | nx
      · exact absurd nx gt
      · exact nx
    dsimp only [tNext]
    refine ⟨_, rfl, .inl ⟨rfl, _, SqL.of hD⟩, _, rfl, Dn, _, _, rfl, rfl, hD, Nat.lt_of_le_of_lt (by omega : dv.length ≤ 16) (by decide), ?_⟩
    have k4 : ∀ b o, H3 b = some o → b ≠ Dn → (upd H3 Dn (.lst (dv ++ [V.ref pc]))) b = some o := fun b o h n => by rw [upd_ne n]; exact h
    have d4 : (upd H3 Dn (.lst (dv ++ [V.ref pc]))) Dn = some (.lst (dv ++ [V.ref pc])) := upd_same
    generalize upd H3 Dn (.lst (dv ++ [V.ref pc])) = H4 at k4 d4
    have hR4 := k4 _ _ hR nR
    have hpc4 : IsL H4 pc pivot := k4 _ _ hpc npc
    have tm4 := tm.keep k4
    have td4 := Rls.snoc hpc4 npc (td.keep k4)
    refine ⟨_, rfl, 1, rfl, R, _, rfl, SqL.of hR4, fun C0 hC0 => ?_⟩
    rw [cut_1, List.drop_one, List.tail_cons]
    have s5 : Same H4 (upd H4 C0 (.lst mv)) := Same.upd_new hC0
    have h5 : (upd H4 C0 (.lst mv)) C0 = some (.lst mv) := upd_same
    generalize upd H4 C0 (.lst mv) = H5 at s5 h5
    have d5 := s5 _ _ d4
    have hpc5 : IsL H5 pc pivot := s5 _ _ hpc4
    have tm5 := tm4.keep fun b o h _ => s5 b o h
    have lm : mv.length ≤ 16 := by
      have := tr.len
      rw [List.length_cons] at this
      have z := tm.len
      rw [List.length_cons] at lr16
      omega
    refine ⟨C0, rfl, ⟨_, SqL.of h5⟩, fun Cn hCn => ?_⟩
    refine lc_list (K := K) (a := C0) (xs := mv) (fun j H' => Same H5 H' ∧ ∃ nv : List V, H' Cn = some (.lst nv) ∧ Rls H' Cn nv ((more.take j).map fun row => withoutL row pivot i last) ∧ ∀ v ∈ nv, v ≠ .ref Dn) ⟨Same.upd_new hCn, [], upd_same, .nil, fun v hv => by cases hv⟩ (fun j H' _ ⟨z, _⟩ => SqL.of (z _ _ h5)) ?_ ?_
    · rintro j y Ha hy ⟨ka, nv, hnv, tnv, nnv⟩
      obtain ⟨c, row, rfl, hrow, hc, nc⟩ := tm5.get hy
      obtain ⟨br, lr⟩ := bd row (List.mem_cons_of_mem _ (List.mem_of_getElem? hrow))
      have hj : j < mv.length := (List.getElem?_eq_some_iff.mp hy).1
      dsimp only [gName]
      refine ⟨rfl, _, rfl, _, rfl, _, rfl, _, rfl, c, pc, row, pivot, i, last, rfl, ka _ _ hc, ka _ _ hpc5, br, bp, by omega, by omega, l0, l2, fun Hd r sd nr hr' => ?_⟩
      have nrC : r ≠ Cn := fun e => by rw [e, hnv] at nr; cases nr
      have nrD : r ≠ Dn := fun e => by rw [e, ka _ _ d5] at nr; cases nr
      refine ⟨nv, sd _ _ hnv, Nat.lt_of_le_of_lt (by have := tnv.len; rw [List.length_map, List.length_take] at this; omega : nv.length ≤ 16) (by decide), fun b o e => ?_, nv ++ [.ref r], upd_same, ?_, fun v hv => ?_⟩
      · rw [upd_ne (ne_of_none e hCn)]
        exact sd _ _ (ka _ _ e)
      · rw [List.take_add_one, hrow, List.map_append]
        refine Rls.snoc ?_ nrC (tnv.keep fun b o h n => ?_)
        · show (upd Hd Cn _) r = _
          rw [upd_ne nrC]
          exact hr'
        · rw [upd_ne n]
          exact sd _ _ h
      · rcases List.mem_append.mp hv with hv | hv
        · exact nnv v hv
        · rw [List.mem_singleton.mp hv]
          exact fun e => nrD (V.ref.inj e)
    rintro H6 ⟨s6, nv, hnv, tnv, nnv⟩
    rw [tm.len, List.take_length] at tnv
    dsimp only [gName]
    refine ⟨_, rfl, _, rfl, .inl ⟨pc, _, _, _, rfl, rfl, SqL.of (s6 _ _ hpc5), atI_nat (getD_at ip), ?_⟩⟩
    dsimp only [gName]
    have nCn : Cn ≠ Dn := fun e => by rw [e, d5] at hCn; cases hCn
    refine ⟨fun b o h n => s6 _ _ (s5 _ _ (k4 _ _ (k3 _ _ h n) n)), Cn, nv, dv ++ [.ref pc], _, done ++ [pivot], pivot.getD i 0, _, _, _, rfl, nCn, hnv, tnv.other nnv, s6 _ _ d5, td4.keep (fun b o h _ => s6 _ _ (s5 _ _ h)), by rw [List.length_append]; show dv.length + 1 ≤ i + 1; omega, (by rw [List.length_map]; rw [List.length_cons] at lr16; omega), ?_, ?_⟩
    · rw [hf2]
      exact nx
    · rw [hf2]
      exact go
  · rintro σ H3 ⟨k3, R, rv, dv, rest, done, last, o1, o5, o6, rfl, nR, hR, tr, hD, td, ld, lr16, ok, go⟩
    rw [show rows.length - Int.toNat (ws.length : Int) = 0 by omega] at go
    unfold stairGo at go
    have sH : ∀ b o, H b = some o → H3 b = some o := fun b o h => k3 b o (s02 _ _ h) (ne_of_none h hDn0)
    exact ⟨_, rfl, q _ Dn dv sH hD (by rw [← go]; exact td)⟩
end
end Ft

set_option exponentiation.threshold 9000
set_option maxHeartbeats 1000000
namespace Ft
open PySem L2
/-- a comprehension's loop with any body: outer and inner ones alike -/
theorem lcF {J : It} {n : Nat} {G : Hp → Prop} {Y : Nat → Hp → V → Hp → Prop} (w : Walk J n G Y) {g : TG} {tt : TT} {vs : List Nat} {σ : L2.St} {H0 : Hp} {F : L2.St → Hp → (Hp → Prop) → Prop} {Qd : Hp → Prop} (Pv : Nat → Hp → Prop) (h0 : Pv 0 H0) (hG : ∀ i H, i ≤ n → Pv i H → G H)
    (hs : ∀ i x H H', i < n → Pv i H → Y i H x H' → g x (wipe σ vs) H' fun σ2 H2 => wipe σ2 vs = wipe σ vs ∧ tt σ2 H2 fun b H3 => if b = true then F σ2 H3 (Pv (i + 1)) else Pv (i + 1) H3) (hd : ∀ H, Pv n H → Qd H) :
    ∃ W : Nat → Nat → Hp → Prop, (∃ m, W 0 m H0) ∧ ∀ i m H, W i m H →
      (J.stop i H ∧ Qd H) ∨ (J.go i H ∧ ∃ Nx : Hp → Prop, (∀ H', Nx H' → ∃ m', m' < m ∧ W (i + 1) m' H') ∧ ∀ x H', J.yld i H x H' → g x (wipe σ vs) H' fun σ2 H2 => wipe σ2 vs = wipe σ vs ∧ tt σ2 H2 fun b H3 => if b = true then F σ2 H3 Nx else Nx H3) := by
  refine ⟨fun i m H => m + i = n ∧ Pv i H, ⟨n, rfl, h0⟩, fun i m H ⟨e, p⟩ => ?_⟩
  have q := hG i H (by omega) p
  rcases Nat.lt_or_ge i n with lt | ge
  · refine .inr ⟨w.goes i H lt q, Pv (i + 1), fun H' p' => ⟨m - 1, by omega, by omega, p'⟩, fun x H' y => hs i x H H' lt p (w.yields i H x H' lt q y)⟩
  · obtain rfl : i = n := by omega
    exact .inl ⟨w.stops H q, hd H p⟩
/-- tuples of ints -/
inductive Tts (H : Hp) : List V → List (List Int) → Prop
  | nil : Tts H [] []
  | cons {c : Addr} {vs : List V} {r : List Int} {rs : List (List Int)} : H c = some (.tup (r.map V.int)) → Tts H vs rs → Tts H (.ref c :: vs) (r :: rs)
theorem Tts.get {H : Hp} : ∀ {vs : List V} {rs : List (List Int)}, Tts H vs rs → ∀ {i : Nat} {v : V}, vs[i]? = some v → ∃ c r, v = .ref c ∧ rs[i]? = some r ∧ H c = some (.tup (r.map V.int))
  | _, _, .nil, i, v, e => by cases e
  | _, _, .cons h t, 0, v, e => ⟨_, _, by cases e; rfl, rfl, h⟩
  | _, _, .cons h t, i + 1, v, e => Tts.get t (i := i) e
theorem Tts.len {H : Hp} : ∀ {vs : List V} {rs : List (List Int)}, Tts H vs rs → vs.length = rs.length
  | _, _, .nil => rfl
  | _, _, .cons _ t => congrArg (· + 1) (Tts.len t)
theorem Tts.same {H H' : Hp} (s : Same H H') : ∀ {vs : List V} {rs : List (List Int)}, Tts H vs rs → Tts H' vs rs
  | _, _, .nil => .nil
  | _, _, .cons h t => .cons (s _ _ h) (Tts.same s t)
theorem Tts.rns {H : Hp} : ∀ {vs : List V} {rs : List (List Int)}, Tts H vs rs → Rns H vs rs
  | _, _, .nil => .nil
  | _, _, .cons h t => .cons (.inr h) (Tts.rns t)
/-- a table: a tuple of tuples -/
def TabT (H : Hp) (t : Addr) (rows : List (List Int)) : Prop := ∃ ws, H t = some (.tup ws) ∧ Tts H ws rows
theorem TabT.same {H H' : Hp} {t : Addr} {rows : List (List Int)} (h : TabT H t rows) (s : Same H H') : TabT H' t rows := by
  obtain ⟨ws, a, b⟩ := h
  exact ⟨ws, s _ _ a, b.same s⟩
def rLeO (K : PySem.W.Frag) : List V → Hp → VK → Prop := fun xs H Q => ∃ p ys, xs = [.ref p] ∧ (SqL K H p ys ∨ SqT K H p ys) ∧ Q (.int (ys.length : Nat)) H
def sp_isTab : Sp := fun vs H Q _ => ∃ (t : Addr) (rows : List (List Int)) (m : Nat), vs = [.ref t, .int (m : Int)] ∧ TabT H t rows ∧ rows.length = m ∧ (∀ r ∈ rows, r.length = m) ∧ m ≤ 8 ∧ ∀ H', Same H H' → Q (.bl true) H'
section
variable {P : Program} {w : World} {K : PySem.W.Frag} {mg : Str → Option Value} {base : Heap}
theorem ok_isTab (D : Df K mg "is_table_of_integers" s_is_table_of_integers ["thing", "many"]) (B : Bi mg) (c_is_integer : Cal P w K mg base 1 "is_integer" sp_is_integer) : Cal P w K mg base 2 "is_table_of_integers" sp_isTab := by
  obtain ⟨f, fd, F, m, b⟩ := D.ex
  have sc := sc_is_table_of_integers
  refine ⟨f, fd, _, F.ok sc (fun _ _ _ _ ⟨_, _, _, e, _⟩ => by rw [e]; rfl) (fun cdv A outer s H vs Q E hr h => ?_), m, F.kp, b⟩
  obtain ⟨t, rows, m, rfl, ⟨ws, ht, tws⟩, lm, lr, m8, q⟩ := h
  refine ⟨_, (pss_cons (ps_if (PW.pt (pw_or (pt_not (pt_val (pe_callB (id := "isinstance") (r := rIsi K) call_isi (by rfl) B.isinstance (by decide +kernel) (pa_cons (pv 0) (pa_cons (pe_ty (n := "tuple") (by rfl) B.tuple (by decide +kernel)) pa_nil))))) (pw_or1 (pt_cmpR op_ne (pe_callB (id := "len") (r := rLeO K) call_len_seq (by rfl) B.len_ (by decide +kernel) (pa_cons (pv 0) pa_nil)) (pv 1) (nomark _)))))
      (pss_one (ps_ret pe_bl))
      pss_nil)
      (pss_cons (ps_if (pt_not (pt_val (pe_callB (id := "all") (r := rAll K) (cr_all rfl) (by rfl) B.all (by decide +kernel) (pa_cons (pe_lc (own := [("row", 2)]) (g := gName 2) (tt := tYes) (by rfl) sc.nd (pi_tup (pv 0)) (blkOk_by (own := [("row", 2)]) (N := N_is_table_of_integers) (sc := defScope s_is_table_of_integers) (by decide +kernel)) (fun _ _ _ _ _ => (pg_name (i := 2) sc.nd rfl (Or.inl rfl))) (fun _ _ _ _ _ => pts_nil) (fun _ _ _ _ _ => (pe_and (pe_callB (id := "isinstance") (r := rIsi K) call_isi (by rfl) B.isinstance (by decide +kernel) (pa_cons (pv 2) (pa_cons (pe_ty (n := "tuple") (by rfl) B.tuple (by decide +kernel)) pa_nil))) (pe_one (pe_cmpR op_eq (pe_callB (id := "len") (r := rLeO K) call_len_seq (by rfl) B.len_ (by decide +kernel) (pa_cons (pv 2) pa_nil)) (pv 1) (nomark _)))))) pa_nil))))
      (pss_one (ps_ret pe_bl))
      pss_nil)
      (pss_one (ps_ret (pe_callB (id := "all") (r := rAll K) (cr_all rfl) (by rfl) B.all (by decide +kernel) (pa_cons (pe_lc2 (own := [("row", 2), ("entry", 3)]) (vs1 := [3]) (g := gName 2) (g1 := gName 3) (tt := tYes) (tt1 := tYes) (by rfl) sc.nd (pi_tup (pv 0)) (blkOk_by (own := [("row", 2), ("entry", 3)]) (N := N_is_table_of_integers) (sc := defScope s_is_table_of_integers) (by decide +kernel)) (by decide) (fun _ _ _ _ _ => (pg_name (i := 2) sc.nd rfl (Or.inl rfl))) (fun _ _ _ _ _ => pts_nil) (fun _ _ _ _ _ => (show PI _ _ _ (iTup K (tVar 2)) from pi_tup (pv 2))) (fun _ _ _ _ _ => (pg_name (i := 3) sc.nd rfl (Or.inl rfl))) (fun _ _ _ _ _ => pts_nil) (fun _ _ _ _ _ => (pe_c c_is_integer hr (by decide) (by rfl) (pa_cons (pv 3) pa_nil)))) pa_nil)))))), ?_⟩
  have lw := tws.len
  refine ⟨_, rfl, _, _, _, _, true, rfl, .ty _, .base (.tup ht), kit_tup_tup, true, rfl, iteF ?_⟩
  refine ⟨_, rfl, t, _, rfl, .inr (SqT.of ht), _, rfl, rfl, _, rfl, ifNI (fun e => absurd (show (ws.length : Int) = (m : Int) by rw [lw, lm]) e) fun _ => ?_⟩
  dsimp only [tNext]
  refine ⟨_, rfl, t, rfl, ⟨_, SqT.of ht⟩, fun D1 hD1 => ?_⟩
  refine lc_tup (K := K) (a := t) (xs := ws) (fun i H' => Same H H' ∧ H' D1 = some (.lst ((List.replicate i true).map V.bl))) ⟨Same.upd_new hD1, upd_same⟩ (fun i H' _ ⟨z, _⟩ => SqT.of (z _ _ ht)) ?_ ?_
  · rintro i x H2 hx ⟨s2, h2⟩
    obtain ⟨c, r, rfl, hr1, hc⟩ := tws.get hx
    have hi : i < ws.length := (List.getElem?_eq_some_iff.mp hx).1
    have lc : r.length = m := lr r (List.mem_of_getElem? hr1)
    have hc2 := s2 _ _ hc
    have ll : (r.map V.int).length = r.length := List.length_map ..
    dsimp only [gName]
    refine ⟨rfl, _, rfl, _, _, _, _, true, rfl, .ty _, .base (.tup hc2), kit_tup_tup, true, rfl, iteT ?_⟩
    refine ⟨_, rfl, c, _, rfl, .inr (SqT.of hc2), _, rfl, rfl, ?_⟩
    rw [ll, lc, decide_eq_true rfl]
    refine ⟨_, h2, ?_, fun b o e => ?_, ?_⟩
    · rw [List.length_map, List.length_replicate]
      exact Nat.lt_of_le_of_lt (by omega : i ≤ 400) (by decide)
    · rw [upd_ne (ne_of_none e hD1)]
      exact s2 _ _ e
    · rw [upd_same, List.replicate_succ', List.map_append]
      rfl
  rintro H2 ⟨s2, h2⟩
  refine ⟨D1, _, rfl, SqL.of h2, ?_⟩
  rw [show (List.replicate ws.length true).all id = true by simp]
  refine ⟨true, rfl, iteF ?_⟩
  dsimp only [tNext]
  have ht2 := s2 _ _ ht
  have tw2 := tws.same s2
  refine ⟨_, rfl, t, rfl, ⟨_, SqT.of ht2⟩, fun D2 hD2 => ?_⟩
  refine lcF (walk_tup (K := K) (a := t) (xs := ws)) (fun i H' => Same H2 H' ∧ ∃ c, c ≤ 8 * i ∧ H' D2 = some (.lst ((List.replicate c true).map V.bl))) ⟨Same.upd_new hD2, 0, Nat.zero_le _, upd_same⟩ (fun i H' _ ⟨z, _⟩ => SqT.of (z _ _ ht2)) ?_ ?_
  · rintro i x H3 H4 hi ⟨s3, c, hc, h3⟩ ⟨rfl, hx⟩
    obtain ⟨a, r, rfl, hr1, ha⟩ := tw2.get hx
    have lc : r.length = m := lr r (List.mem_of_getElem? hr1)
    have ha3 := s3 _ _ ha
    have ll : (r.map V.int).length = r.length := List.length_map ..
    refine ⟨rfl, _, rfl, a, rfl, ⟨_, SqT.of ha3⟩, ?_⟩
    refine lcF (walk_tup (K := K) (a := a) (xs := r.map V.int)) (fun j H' => Same H2 H' ∧ H' D2 = some (.lst ((List.replicate (c + j) true).map V.bl))) ⟨s3, h3⟩ (fun j H' _ ⟨z, _⟩ => SqT.of (z _ _ ha)) ?_ ?_
    · rintro j y H5 H6 hj ⟨s5, h5⟩ ⟨rfl, hy⟩
      obtain ⟨z, rfl, _⟩ := int_at hy
      dsimp only [gName]
      refine ⟨rfl, _, rfl, z, rfl, trivial, _, h5, ?_, fun b o e => ?_, ?_⟩
      · rw [List.length_map, List.length_replicate]
        exact Nat.lt_of_le_of_lt (by omega : c + j ≤ 400) (by decide)
      · rw [upd_ne (ne_of_none e hD2)]
        exact s5 _ _ e
      · rw [upd_same, ← Nat.add_assoc, List.replicate_succ', List.map_append]
        rfl
    · rintro H5 ⟨s5, h5⟩
      exact ⟨s5, c + r.length, by omega, by rw [← ll]; exact h5⟩
  rintro H3 ⟨s3, c, hc, h3⟩
  refine ⟨D2, _, rfl, SqL.of h3, ?_⟩
  rw [show (List.replicate c true).all id = true by simp]
  exact q _ (s2.trans s3)
end
end Ft

set_option exponentiation.threshold 9000
namespace Ft
open PySem L2
def intsD (many : Nat) : PyData → Bool
  | .tuple ds => decide (ds.length = many) && ds.all isIntD
  | _ => false
def sp_tupQ : Sp := fun vs H Q _ => ∃ v D N many, vs = [v, .int ((many : Nat) : Int)] ∧ Dq H N v D ∧ many ≤ 400 ∧ ∀ H', Same H H' → Q (.bl (intsD many D)) H'
theorem tup_of {D : PyData} (h : isTupD D = true) : ∃ ds, D = .tuple ds := by
  cases D with
  | tuple ds => exact ⟨ds, rfl⟩
  | int _ => cases h
  | str _ => cases h
  | none => cases h
  | bool _ => cases h
  | list _ => cases h
  | dict _ => cases h
theorem dq_at {H : Hp} {N : Addr → Prop} : ∀ {vs : List V} {ds : List PyData} {i : Nat} {d : PyData}, DqAll H N vs ds → ds[i]? = some d → ∃ v, vs[i]? = some v ∧ Dq H N v d
  | _, _, 0, _, .cons a _, e => ⟨_, rfl, by cases e; exact a⟩
  | _, _, i + 1, _, .cons _ t, e => dq_at (i := i) t e
theorem dq_of {H : Hp} {N : Addr → Prop} : ∀ {vs : List V} {ds : List PyData} {i : Nat} {v : V}, DqAll H N vs ds → vs[i]? = some v → ∃ d, ds[i]? = some d ∧ Dq H N v d
  | _, _, 0, _, .cons a _, e => ⟨_, rfl, by cases e; exact a⟩
  | _, _, i + 1, _, .cons _ t, e => dq_of (i := i) t e
section
variable {P : Program} {w : World} {K : PySem.W.Frag} {mg : Str → Option Value} {base : Heap}
end
end Ft

set_option exponentiation.threshold 9000
namespace Ft
open PySem L2
theorem no_odd {α : Type} (p : α → Bool) : ∀ ds : List α, (ds.filter fun d => !p d).isEmpty = ds.all p
  | [] => rfl
  | d :: ds => by
    rw [List.filter_cons, List.all_cons]
    cases h : p d with
    | false => rfl
    | true => rw [Bool.true_and]; exact no_odd p ds
theorem ones_dp {K : PySem.W.Frag} {H : Hp} {α : Type} : ∀ l : List α, DpAll K H (l.map fun _ => V.int 1) (l.map fun _ => PyData.int 1)
  | [] => .nil
  | _ :: l => .cons (.int 1) (ones_dp l)
theorem ones_shaped {α : Type} (l : List α) : SeqAt.shaped (.list (l.map fun _ => PyData.int 1)) = true := by
  have := PySem.W.ke_shaped_ints (l.map fun _ => (1 : Int))
  rw [List.map_map] at this
  exact this
theorem ones_nil {α : Type} (l : List α) : PyData.eqv (.list (l.map fun _ => PyData.int 1)) (.list []) = l.isEmpty := by rw [eqv_nil]; cases l <;> rfl
section
variable {P : Program} {w : World} {K : PySem.W.Frag} {mg : Str → Option Value} {base : Heap}
theorem ok_lints (D : Df K mg "_law_are_integers" s__law_are_integers ["_law_thing", "_law_many"]) (B : Bi mg) (c__law_is_integer : Cal P w K mg base 1 "_law_is_integer" sp_isIntQ) : Cal P w K mg base 2 "_law_are_integers" sp_tupQ := by
  obtain ⟨f, fd, F, m, b⟩ := D.ex
  have sc := sc__law_are_integers
  refine ⟨f, fd, _, F.ok sc (fun _ _ _ _ ⟨_, _, _, _, e, _⟩ => by rw [e]; rfl) (fun cdv A outer s H vs Q E hr h => ?_), m, F.kp, b⟩
  obtain ⟨v, D, N, many, rfl, hd, m4, q⟩ := h
  have h64 : (A.deeper (PyProof.Rows.envOfC "_law_are_integers" (defScope s__law_are_integers) s.heap.objs.size f cdv)).units + 64 < cLine := by have := hr.un; omega
  refine ⟨_, (pss_one (ps_ret (pe_and (pe_callB (id := "isinstance") (r := rIsi K) call_isi (by rfl) B.isinstance (by decide +kernel) (pa_cons (pv 0) (pa_cons (pe_ty (n := "tuple") (by rfl) B.tuple (by decide +kernel)) pa_nil))) (pe_and (pe_cmpR op_eq (pe_callB call_len_seq (by rfl) B.len_ (by decide +kernel) (pa_cons (pv 0) pa_nil)) (pv 1) (nomark _)) (pe_one (pe_cmpR (op_eqD h64) (pe_lc (own := [("_law_x", 2)]) (g := gName 2)  (by rfl) sc.nd (pi_tup (pv 0)) (blkOk_by (own := [("_law_x", 2)]) (N := N__law_are_integers) (sc := defScope s__law_are_integers) (by decide +kernel)) (fun _ _ _ _ _ => (pg_name (i := 2) sc.nd rfl (Or.inl rfl))) (fun _ _ _ _ _ => (pts_one (pt_not (pt_val (pe_c c__law_is_integer hr (by decide) (by rfl) (pa_cons (pv 2) pa_nil)))))) (fun _ _ _ _ _ => pe_int)) (pe_lst pa_nil) (nomark _))))))), ?_⟩
  refine ⟨_, rfl, _, _, _, _, isTupD D, rfl, .ty _, hd.ty, kit_tupD D, _, rfl, ?_⟩
  cases hT : isTupD D with
  | false =>
    have e : intsD many D = false := by cases D <;> first | rfl | cases hT
    rw [e] at q
    exact iteF (q _ (Same.refl _))
  | true =>
  obtain ⟨ds, rfl⟩ := tup_of hT
  obtain ⟨a, xs, rfl, na, ra, hx⟩ := hd.tup_inv
  have lx := hx.length
  refine iteT ⟨_, rfl, a, xs, rfl, .inr (.inl ra), ?_⟩
  rw [lx]
  have et : intsD many (.tuple ds) = (decide (ds.length = many) && ds.all isIntD) := rfl
  rw [et] at q
  refine ⟨_, rfl, rfl, _, rfl, ifI (fun e => ?_) fun e => ?_⟩
  · have e : ds.length = many := by omega
    rw [decide_eq_true e, Bool.true_and] at q
    refine ⟨_, rfl, a, rfl, ⟨xs, .inl ra⟩, fun D1 hD1 => ?_⟩
    have fr : ∀ {H' : Hp}, Same H H' → SqT K H' a xs := fun s2 => by cases ra with | inl e => exact .inl (.inl (s2 _ _ e))
    refine lc_tup (K := K) (a := a) (xs := xs) (fun i H' => Same H H' ∧ H' D1 = some (.lst (((ds.take i).filter fun d => !isIntD d).map fun _ => V.int 1))) ⟨Same.upd_new hD1, upd_same⟩ (fun i H' _ ⟨s2, _⟩ => fr s2) ?_ ?_
    · rintro i x H2 hi ⟨s2, h2⟩
      obtain ⟨d0, hd0, dx⟩ := dq_of hx hi
      refine ⟨rfl, ?_⟩
      refine ⟨_, rfl, x, d0, N, rfl, dx.same s2, _, rfl, ?_⟩
      have et : (ds.take (i + 1)).filter (fun d => !isIntD d) = (ds.take i).filter (fun d => !isIntD d) ++ (if (!isIntD d0) = true then [d0] else []) := by
        rw [List.take_add_one, hd0, List.filter_append]
        congr 1
        show List.filter _ [d0] = _
        rw [List.filter_cons]
        cases isIntD d0 <;> rfl
      cases hI : isIntD d0 with
      | true =>
        rw [hI] at et
        refine iteF ⟨s2, ?_⟩
        rw [et]
        show _ = some (HO.lst (List.map _ (_ ++ [])))
        rw [List.append_nil]
        exact h2
      | false =>
        rw [hI] at et
        refine iteT ⟨_, h2, ?_, fun b o e => ?_, ?_⟩
        · rw [List.length_map]
          refine Nat.lt_of_le_of_lt (Nat.le_trans (List.length_filter_le _ _) (by rw [List.length_take]; omega : _ ≤ 400)) (by decide)
        · rw [upd_ne (ne_of_none e hD1)]
          exact s2 _ _ e
        · rw [upd_same, et]
          show _ = some (HO.lst (List.map _ (_ ++ [d0])))
          rw [List.map_append]
          rfl
    · rintro H2 ⟨s2, h2⟩
      rw [lx, List.take_length] at h2
      refine ⟨(by show (0 : Nat) ≤ sizeLine; decide), fun E1 hE1 => ?_⟩
      have s3 : Same H2 (upd H2 E1 (.lst [])) := Same.upd_new hE1
      refine ⟨_, .list [], .lst (SqL.of (s3 _ _ h2)) (ones_dp _), .lst (SqL.of upd_same) .nil, ones_shaped _, rfl, ?_⟩
      rw [ones_nil, no_odd]
      exact q _ (s2.trans s3)
  · have e : ¬ ds.length = many := by omega
    rw [decide_eq_false e, Bool.false_and] at q
    exact q _ (Same.refl _)
end
end Ft

set_option linter.all false
set_option autoImplicit false
namespace Ft
/-! Determinants of integers by the last column, and what the eliminations without fractions rest on. -/
def sm : Nat → (Nat → Int) → Int
  | 0, _ => 0
  | n + 1, f => sm n f + f n
theorem sm_congr {f g : Nat → Int} : ∀ {n : Nat}, (∀ i, i < n → f i = g i) → sm n f = sm n g
  | 0, _ => rfl
  | n + 1, h => by
    show sm n f + f n = sm n g + g n
    rw [sm_congr (n := n) fun i hi => h i (by omega), h n (by omega)]
theorem sm_add (f g : Nat → Int) : ∀ n, sm n (fun i => f i + g i) = sm n f + sm n g
  | 0 => rfl
  | n + 1 => by
    show sm n _ + (f n + g n) = sm n f + f n + (sm n g + g n)
    rw [sm_add f g n]; omega
theorem sm_neg (f : Nat → Int) : ∀ n, sm n (fun i => -f i) = -sm n f
  | 0 => rfl
  | n + 1 => by
    show sm n _ + -f n = -(sm n f + f n)
    rw [sm_neg f n]; omega
theorem sm_mul (c : Int) (f : Nat → Int) : ∀ n, sm n (fun i => c * f i) = c * sm n f
  | 0 => (Int.mul_zero c).symm
  | n + 1 => by
    show sm n _ + c * f n = c * (sm n f + f n)
    rw [sm_mul c f n, Int.mul_add]
theorem sm_zero : ∀ n, sm n (fun _ => 0) = 0
  | 0 => rfl
  | n + 1 => by show sm n _ + 0 = 0; rw [sm_zero n]; rfl
def sgD (k : Nat) : Int := if k % 2 = 0 then 1 else -1
theorem sgD_succ (k : Nat) : sgD (k + 1) = -sgD k := by
  unfold sgD
  rcases Nat.mod_two_eq_zero_or_one k with h | h
  · rw [if_neg (by omega), if_pos h]
  · rw [if_pos (by omega), if_neg (by omega)]; rfl
theorem sgD_two (k : Nat) : sgD (k + k) = 1 := by
  unfold sgD
  rw [if_pos (by omega)]
def skp (t u : Nat) : Nat := if u < t then u else u + 1
theorem skp_skp {t u : Nat} (h : u < t) (r : Nat) : skp u (skp (t - 1) r) = skp t (skp u r) := by
  unfold skp
  split <;> split <;> split <;> (try split) <;> omega
def dt : Nat → (Nat → Nat → Int) → Int
  | 0, _ => 1
  | n + 1, f => sm (n + 1) fun t => sgD (n + t) * (f t n * dt n fun r c => f (skp t r) c)
theorem dt_succ (n : Nat) (f : Nat → Nat → Int) : dt (n + 1) f = sm (n + 1) fun t => sgD (n + t) * (f t n * dt n fun r c => f (skp t r) c) := rfl
theorem skp_lt {t r n : Nat} (h : r < n) : skp t r < n + 1 := by unfold skp; split <;> omega
theorem dt_congr : ∀ {n : Nat} {f g : Nat → Nat → Int}, (∀ r c, r < n → c < n → f r c = g r c) → dt n f = dt n g
  | 0, _, _, _ => rfl
  | n + 1, f, g, h => by
    rw [dt_succ, dt_succ]
    refine sm_congr fun t ht => ?_
    rw [h t n ht (by omega), dt_congr (n := n) fun r c hr hc => h (skp t r) c (skp_lt hr) (by omega)]
theorem sm_pair {H : Nat → Nat → Int} (h : ∀ t u, u < t → H t u = -H u (t - 1)) : ∀ n, sm (n + 1) (fun t => sm n fun u => H t u) = 0
  | 0 => rfl
  | n + 1 => by
    show sm (n + 1) (fun t => sm n (fun u => H t u) + H t n) + sm (n + 1) (fun u => H (n + 1) u) = 0
    rw [sm_add (fun t => sm n fun u => H t u) (fun t => H t n), sm_pair h n]
    have e : sm (n + 1) (fun u => H (n + 1) u) = sm (n + 1) (fun u => -H u n) := sm_congr fun u hu => by
      have := h (n + 1) u hu
      rw [this]; rfl
    rw [e, sm_neg]; omega
/-- two columns exchanged -/
def sw (s u c : Nat) : Nat := if c = s then u else if c = u then s else c
theorem dt_adj (n : Nat) (f : Nat → Nat → Int) : dt (n + 2) (fun r c => f r (sw n (n + 1) c)) = -dt (n + 2) f := by
  have key : dt (n + 2) (fun r c => f r (sw n (n + 1) c)) + dt (n + 2) f = 0 := by
    have ex : ∀ g : Nat → Nat → Int, dt (n + 2) g = sm (n + 2) fun t => sm (n + 1) fun u => sgD (n + 1 + t) * sgD (n + u) * (g t (n + 1) * g (skp t u) n) * dt n fun r c => g (skp t (skp u r)) c := fun g => by
      rw [dt_succ]
      refine sm_congr fun t _ => ?_
      rw [dt_succ, ← sm_mul, ← sm_mul]
      refine sm_congr fun u _ => ?_
      simp only [Int.mul_assoc, Int.mul_left_comm]
    rw [ex, ex, ← sm_add]
    have e : (fun t => sm (n + 1) (fun u => sgD (n + 1 + t) * sgD (n + u) * (f t (sw n (n + 1) (n + 1)) * f (skp t u) (sw n (n + 1) n)) * dt n fun r c => f (skp t (skp u r)) (sw n (n + 1) c)) + sm (n + 1) (fun u => sgD (n + 1 + t) * sgD (n + u) * (f t (n + 1) * f (skp t u) n) * dt n fun r c => f (skp t (skp u r)) c))
        = fun t => sm (n + 1) fun u => sgD (n + 1 + t) * sgD (n + u) * (f t n * f (skp t u) (n + 1) + f t (n + 1) * f (skp t u) n) * dt n fun r c => f (skp t (skp u r)) c := by
      funext t
      rw [← sm_add]
      refine sm_congr fun u _ => ?_
      have e1 : sw n (n + 1) (n + 1) = n := by unfold sw; rw [if_neg (by omega), if_pos rfl]
      have e2 : sw n (n + 1) n = n + 1 := by unfold sw; rw [if_pos rfl]
      have e3 : (dt n fun r c => f (skp t (skp u r)) (sw n (n + 1) c)) = dt n fun r c => f (skp t (skp u r)) c := dt_congr fun r c _ hc => by
        have : sw n (n + 1) c = c := by unfold sw; rw [if_neg (by omega), if_neg (by omega)]
        rw [this]
      rw [e1, e2, e3, Int.mul_add, Int.add_mul]
    rw [e]
    refine sm_pair (fun t u h => ?_) (n + 1)
    have a1 : skp t u = u := by unfold skp; rw [if_pos h]
    have a2 : skp u (t - 1) = t := by unfold skp; rw [if_neg (by omega)]; omega
    have a3 : (dt n fun r c => f (skp u (skp (t - 1) r)) c) = dt n fun r c => f (skp t (skp u r)) c := by
      congr 1
      funext r c
      rw [skp_skp h]
    have a4 : sgD (n + 1 + t) * sgD (n + u) = -(sgD (n + 1 + u) * sgD (n + (t - 1))) := by
      have b1 : sgD (n + 1 + t) = sgD (n + (t - 1)) := by
        rw [show n + 1 + t = n + (t - 1) + 1 + 1 by omega, sgD_succ, sgD_succ, Int.neg_neg]
      have b2 : sgD (n + 1 + u) = -sgD (n + u) := by rw [show n + 1 + u = n + u + 1 by omega, sgD_succ]
      rw [b1, b2, Int.neg_mul, Int.neg_neg, Int.mul_comm]
    rw [a1, a2, a3, a4]
    have a5 : f t n * f u (n + 1) + f t (n + 1) * f u n = f u n * f t (n + 1) + f u (n + 1) * f t n := by
      rw [Int.mul_comm (f t n), Int.mul_comm (f t (n + 1)), Int.add_comm]
    rw [a5]
    simp only [Int.neg_mul]
  omega
theorem dt_flip : ∀ (n : Nat) (f : Nat → Nat → Int) (s u : Nat), s < u → u < n → dt n (fun r c => f r (sw s u c)) = -dt n f
  | 0, _, _, _, _, h => absurd h (Nat.not_lt_zero _)
  | n + 1, f, s, u, hs, hu => by
    have small : ∀ (f : Nat → Nat → Int) (s u : Nat), s < u → u < n → dt (n + 1) (fun r c => f r (sw s u c)) = -dt (n + 1) f := fun f s u hs hu => by
      rw [dt_succ, dt_succ, ← sm_neg]
      refine sm_congr fun t _ => ?_
      have e : sw s u n = n := by unfold sw; rw [if_neg (by omega), if_neg (by omega)]
      rw [e, dt_flip n (fun r c => f (skp t r) c) s u hs hu]
      simp only [Int.mul_neg]
    by_cases h : u < n
    · exact small f s u hs h
    have hn : u = n := by omega
    subst hn
    obtain ⟨m, rfl⟩ : ∃ m, u = m + 1 := ⟨u - 1, by omega⟩
    by_cases h2 : s = m
    · subst h2
      exact dt_adj s f
    have hsm : s < m := by omega
    have e : (fun r c => f r (sw s (m + 1) c)) = fun r c => (fun r c => (fun r c => f r (sw s m c)) r (sw m (m + 1) c)) r (sw s m c) := by
      funext r c
      show f r _ = f r _
      congr 1
      unfold sw
      repeat' split
      all_goals omega
    have a1 := small (fun r c => (fun r c => f r (sw s m c)) r (sw m (m + 1) c)) s m hsm (by omega)
    have a2 := dt_adj m (fun r c => f r (sw s m c))
    have a3 := small f s m hsm (by omega)
    rw [e]
    rw [a3] at a2
    exact a1.trans (by rw [a2, Int.neg_neg])
theorem dt_eq {n : Nat} {f : Nat → Nat → Int} {s u : Nat} (hs : s < u) (hu : u < n) (h : ∀ r, f r s = f r u) : dt n f = 0 := by
  have a := dt_flip n f s u hs hu
  have e : (fun r c => f r (sw s u c)) = f := by
    funext r c
    unfold sw
    split
    · rename_i h1; rw [h1, h]
    · split
      · rename_i h1; rw [h1, h]
      · rfl
  rw [e] at a
  omega
/-! ### the stages -/
variable {a : Nat → Nat → Int}
/-- the leading minor -/
def PM (a : Nat → Nat → Int) (k : Nat) : Int := dt k a
/-- the minor of the first k rows and i, the first k columns and j -/
def SM (a : Nat → Nat → Int) (k i j : Nat) : Int := dt (k + 1) fun r c => a (if r < k then r else i) (if c < k then c else j)
def MM (a : Nat → Nat → Int) (k i t : Nat) : Int := sgD (k + t) * dt k fun r c => a (if skp t r < k then skp t r else i) c
theorem PM_zero : PM a 0 = 1 := rfl
theorem SM_diag (k : Nat) : SM a k k k = PM a (k + 1) := dt_congr fun r c hr hc => by
  have e1 : (if r < k then r else k) = r := by split <;> omega
  have e2 : (if c < k then c else k) = c := by split <;> omega
  rw [e1, e2]
theorem SM_zero (i j : Nat) : SM a 0 i j = a i j := by
  show (0 : Int) + sgD 0 * (a i j * 1) = a i j
  rw [show sgD 0 = 1 from rfl]; omega
theorem SM_exp (k i j : Nat) : SM a k i j = PM a k * a i j + sm k fun t => MM a k i t * a t j := by
  unfold SM
  rw [dt_succ]
  show sm k _ + _ = _
  have e1 : sm k (fun t => sgD (k + t) * (a (if t < k then t else i) (if k < k then k else j) * dt k fun r c => a (if skp t r < k then skp t r else i) (if c < k then c else j))) = sm k fun t => MM a k i t * a t j := sm_congr fun t ht => by
    rw [if_pos ht, if_neg (Nat.lt_irrefl k)]
    unfold MM
    have : (dt k fun r c => a (if skp t r < k then skp t r else i) (if c < k then c else j)) = dt k fun r c => a (if skp t r < k then skp t r else i) c := dt_congr fun r c _ hc => by rw [if_pos hc]
    rw [this, Int.mul_comm (a t j), Int.mul_assoc]
  rw [e1]
  dsimp only
  rw [if_neg (Nat.lt_irrefl k), if_neg (Nat.lt_irrefl k), sgD_two, Int.one_mul, Int.add_comm, Int.mul_comm]
  congr 1
  congr 1
  exact dt_congr fun r c hr hc => by
    have : skp k r = r := by unfold skp; rw [if_pos hr]
    rw [this, if_pos hr, if_pos hc]
theorem SM_nil {k i j : Nat} (h : j < k) : SM a k i j = 0 := dt_eq h (Nat.lt_succ_self k) fun r => by rw [if_pos h, if_neg (Nat.lt_irrefl k)]
/-- a combination of the first k rows that is 0 in the first k columns is 0 -/
theorem comb_zero : ∀ {k : Nat}, (∀ s, s < k → PM a (s + 1) ≠ 0) → ∀ c : Nat → Int, (∀ j, j < k → sm k (fun t => c t * a t j) = 0) → ∀ j, sm k (fun t => c t * a t j) = 0
  | 0, _, _, _, _ => rfl
  | k + 1, hp, c, h0, j => by
    have pk : PM a k ≠ 0 := by
      cases k with
      | zero => rw [PM_zero]; decide
      | succ m => exact hp m (by omega)
    have ex : ∀ j, sm k (fun t => (PM a k * c t - c k * MM a k k t) * a t j) = PM a k * sm (k + 1) (fun t => c t * a t j) - c k * SM a k k j := fun j => by
      rw [SM_exp]
      show _ = PM a k * (sm k (fun t => c t * a t j) + c k * a k j) - _
      have : (fun t => (PM a k * c t - c k * MM a k k t) * a t j) = fun t => PM a k * (c t * a t j) + -(c k * (MM a k k t * a t j)) := by
        funext t
        rw [Int.sub_mul, Int.mul_assoc, Int.mul_assoc, Int.sub_eq_add_neg]
      rw [this, sm_add, sm_neg, sm_mul, sm_mul, Int.mul_add, Int.mul_add]
      have : PM a k * (c k * a k j) = c k * (PM a k * a k j) := Int.mul_left_comm _ _ _
      omega
    have all := comb_zero (k := k) (fun s hs => hp s (by omega)) (fun t => PM a k * c t - c k * MM a k k t) fun j hj => by
      rw [ex, h0 j (by omega), SM_nil hj, Int.mul_zero, Int.mul_zero]; rfl
    have ck : c k = 0 := by
      have h := all k
      rw [ex, h0 k (by omega), SM_diag, Int.mul_zero] at h
      have : c k * PM a (k + 1) = 0 := by omega
      exact (Int.mul_eq_zero.mp this).resolve_right (hp k (by omega))
    have h := all j
    rw [ex, ck, Int.zero_mul, Int.sub_zero] at h
    exact (Int.mul_eq_zero.mp h).resolve_left pk
/-- the elimination's step is exact -/
theorem SM_step {k : Nat} (hp : ∀ s, s < k + 1 → PM a (s + 1) ≠ 0) (i j : Nat) : PM a k * SM a (k + 1) i j = PM a (k + 1) * SM a k i j - SM a k i k * SM a k k j := by
  let C : Nat → Int := fun t => PM a k * MM a (k + 1) i t + (if t < k then SM a k i k * MM a k k t - PM a (k + 1) * MM a k i t else SM a k i k * PM a k)
  have ex : ∀ j, sm (k + 1) (fun t => C t * a t j) = PM a k * SM a (k + 1) i j - (PM a (k + 1) * SM a k i j - SM a k i k * SM a k k j) := fun j => by
    rw [SM_exp (k + 1), SM_exp k i j, SM_exp k k j]
    have e1 : (fun t => C t * a t j) = fun t => PM a k * (MM a (k + 1) i t * a t j) + (if t < k then SM a k i k * MM a k k t - PM a (k + 1) * MM a k i t else SM a k i k * PM a k) * a t j := by
      funext t
      show (PM a k * MM a (k + 1) i t + _) * a t j = _
      rw [Int.add_mul, Int.mul_assoc]
    rw [e1, sm_add, sm_mul]
    have e2 : sm (k + 1) (fun t => (if t < k then SM a k i k * MM a k k t - PM a (k + 1) * MM a k i t else SM a k i k * PM a k) * a t j) = SM a k i k * sm k (fun t => MM a k k t * a t j) - PM a (k + 1) * sm k (fun t => MM a k i t * a t j) + SM a k i k * PM a k * a k j := by
      show sm k _ + (if k < k then _ else _) * a k j = _
      rw [if_neg (Nat.lt_irrefl k)]
      congr 1
      have : sm k (fun t => (if t < k then SM a k i k * MM a k k t - PM a (k + 1) * MM a k i t else SM a k i k * PM a k) * a t j) = sm k fun t => SM a k i k * (MM a k k t * a t j) + -(PM a (k + 1) * (MM a k i t * a t j)) := sm_congr fun t ht => by
        rw [if_pos ht, Int.sub_mul, Int.mul_assoc, Int.mul_assoc, Int.sub_eq_add_neg]
      rw [this, sm_add, sm_neg, sm_mul, sm_mul, Int.sub_eq_add_neg]
    rw [e2]
    generalize sm k (fun t => MM a k k t * a t j) = u
    generalize sm k (fun t => MM a k i t * a t j) = v
    generalize sm (k + 1) (fun t => MM a (k + 1) i t * a t j) = w
    generalize SM a k i k = z
    generalize PM a k = p
    generalize PM a (k + 1) = q
    generalize a i j = x
    generalize a k j = y
    simp only [Int.mul_add, Int.add_mul, Int.mul_sub, Int.sub_mul]
    have h1 : p * (q * x) = q * (p * x) := Int.mul_left_comm _ _ _
    have h2 : z * p * y = z * (p * y) := Int.mul_assoc _ _ _
    omega
  have all := comb_zero (k := k + 1) hp C (fun j hj => by
    rw [ex, SM_nil hj]
    rcases Nat.lt_or_ge j k with h | h
    · rw [SM_nil h, SM_nil h]; simp
    · have : j = k := by omega
      subst this
      rw [SM_diag, Int.mul_comm (SM a j i j)]; simp) j
  rw [ex] at all
  omega
theorem SM_div {k : Nat} (hp : ∀ s, s < k + 1 → PM a (s + 1) ≠ 0) (i j : Nat) (h : PM a k ≠ 0) : (PM a (k + 1) * SM a k i j - SM a k i k * SM a k k j) / PM a k = SM a (k + 1) i j := by
  rw [← SM_step hp, Int.mul_ediv_cancel_left _ h]
end Ft

set_option linter.all false
set_option autoImplicit false
namespace Ft
/-! ### minors above 0: the form is above 0 -/
theorem sm_head (f : Nat → Int) : ∀ n, sm (n + 1) f = f 0 + sm n (fun i => f (i + 1))
  | 0 => by show (0 : Int) + f 0 = f 0 + 0; omega
  | n + 1 => by
    show sm (n + 1) f + f (n + 1) = f 0 + (sm n (fun i => f (i + 1)) + f (n + 1))
    rw [sm_head f n]; omega
theorem sm_mulr (c : Int) (f : Nat → Int) (n : Nat) : sm n (fun i => f i * c) = sm n f * c := by
  rw [Int.mul_comm, ← sm_mul]
  exact sm_congr fun i _ => Int.mul_comm _ _
def qf (n : Nat) (T : Nat → Nat → Int) (x : Nat → Int) : Int := sm n fun i => sm n fun j => T i j * (x i * x j)
theorem qf_cut {n : Nat} {T T' : Nat → Nat → Int} {q : Int} (sy : ∀ i, T (i + 1) 0 = T 0 (i + 1)) (h : ∀ i j, q * T' i j = T 0 0 * T (i + 1) (j + 1) - T (i + 1) 0 * T 0 (j + 1)) (x : Nat → Int) :
    T 0 0 * qf (n + 1) T x = sm (n + 1) (fun j => T 0 j * x j) * sm (n + 1) (fun j => T 0 j * x j) + q * qf n T' (fun i => x (i + 1)) := by
  have e1 : qf (n + 1) T x = T 0 0 * (x 0 * x 0) + x 0 * sm n (fun j => T 0 (j + 1) * x (j + 1)) + (x 0 * sm n (fun j => T 0 (j + 1) * x (j + 1)) + qf n (fun i j => T (i + 1) (j + 1)) (fun i => x (i + 1))) := by
    unfold qf
    rw [sm_head]
    have a1 : sm (n + 1) (fun j => T 0 j * (x 0 * x j)) = T 0 0 * (x 0 * x 0) + x 0 * sm n (fun j => T 0 (j + 1) * x (j + 1)) := by
      rw [sm_head, ← sm_mul]
      congr 1
      exact sm_congr fun j _ => Int.mul_left_comm _ _ _
    have a2 : sm n (fun i => sm (n + 1) fun j => T (i + 1) j * (x (i + 1) * x j)) = x 0 * sm n (fun j => T 0 (j + 1) * x (j + 1)) + sm n (fun i => sm n fun j => T (i + 1) (j + 1) * (x (i + 1) * x (j + 1))) := by
      rw [← sm_mul, ← sm_add]
      refine sm_congr fun i _ => ?_
      rw [sm_head, sy]
      congr 1
      rw [Int.mul_comm (x (i + 1)) (x 0), Int.mul_left_comm]
    rw [a1, a2]
  have e2 : q * qf n T' (fun i => x (i + 1)) = T 0 0 * qf n (fun i j => T (i + 1) (j + 1)) (fun i => x (i + 1)) - sm n (fun j => T 0 (j + 1) * x (j + 1)) * sm n (fun j => T 0 (j + 1) * x (j + 1)) := by
    unfold qf
    rw [← sm_mul, ← sm_mul, ← sm_mulr, Int.sub_eq_add_neg, ← sm_neg, ← sm_add]
    refine sm_congr fun i _ => ?_
    rw [← sm_mul, ← sm_mul, ← sm_mul, ← sm_neg, ← sm_add]
    refine sm_congr fun j _ => ?_
    have := h i j
    rw [sy i] at this
    have c : q * (T' i j * (x (i + 1) * x (j + 1))) = q * T' i j * (x (i + 1) * x (j + 1)) := (Int.mul_assoc _ _ _).symm
    rw [c, this, Int.sub_mul, Int.sub_eq_add_neg, Int.mul_assoc]
    congr 2
    simp only [Int.mul_assoc, Int.mul_left_comm]
  rw [e1, e2, sm_head]
  generalize sm n (fun j => T 0 (j + 1) * x (j + 1)) = R
  generalize qf n (fun i j => T (i + 1) (j + 1)) (fun i => x (i + 1)) = W
  generalize T 0 0 = p
  generalize x 0 = z
  simp only [Int.mul_add, Int.add_mul]
  have h1 : p * (p * (z * z)) = p * z * (p * z) := by simp only [Int.mul_assoc, Int.mul_left_comm]
  have h2 : p * (z * R) = p * z * R := (Int.mul_assoc _ _ _).symm
  have h3 : R * (p * z) = p * z * R := Int.mul_comm _ _
  omega
variable {a : Nat → Nat → Int}
theorem SM_symm (sy : ∀ i j, a i j = a j i) : ∀ {k : Nat}, (∀ s, s < k → PM a (s + 1) ≠ 0) → ∀ i j, SM a k i j = SM a k j i
  | 0, _, i, j => by rw [SM_zero, SM_zero, sy]
  | k + 1, hp, i, j => by
    have pk : PM a k ≠ 0 := by
      cases k with
      | zero => rw [PM_zero]; decide
      | succ m => exact hp m (by omega)
    have ih := SM_symm sy (k := k) fun s hs => hp s (by omega)
    have e : PM a k * SM a (k + 1) i j = PM a k * SM a (k + 1) j i := by
      rw [SM_step hp, SM_step hp, ih i j, ih i k, ih k j, Int.mul_comm (SM a k k i)]
    exact Int.eq_of_mul_eq_mul_left pk e
/-- minors above 0: at each stage the form is above 0 -/
theorem qf_pos (sy : ∀ i j, a i j = a j i) : ∀ (n k : Nat), (∀ s, s < k + n → 0 < PM a (s + 1)) → ∀ x : Nat → Int, 0 ≤ qf n (fun i j => SM a k (k + i) (k + j)) x ∧ (qf n (fun i j => SM a k (k + i) (k + j)) x = 0 → ∀ i, i < n → x i = 0)
  | 0, _, _, _ => ⟨Int.le_refl _, fun _ i hi => absurd hi (Nat.not_lt_zero i)⟩
  | n + 1, k, hp, x => by
    have pk : 0 < PM a k := by
      cases k with
      | zero => rw [PM_zero]; decide
      | succ m => exact hp m (by omega)
    have nz : ∀ s, s < k + 1 → PM a (s + 1) ≠ 0 := fun s hs => by
      have := hp s (by omega)
      omega
    have p0 : SM a k (k + 0) (k + 0) = PM a (k + 1) := SM_diag k
    have c := qf_cut (n := n) (T := fun i j => SM a k (k + i) (k + j)) (T' := fun i j => SM a (k + 1) (k + 1 + i) (k + 1 + j)) (q := PM a k) (fun i => SM_symm sy (fun s hs => nz s (by omega)) _ _) (fun i j => by
      have := SM_step nz (k + 1 + i) (k + 1 + j)
      rw [this, ← SM_diag k]
      show _ = SM a k k k * SM a k (k + (i + 1)) (k + (j + 1)) - SM a k (k + (i + 1)) k * SM a k k (k + (j + 1))
      rw [show k + (i + 1) = k + 1 + i by omega, show k + (j + 1) = k + 1 + j by omega]) x
    rw [p0] at c
    obtain ⟨ih1, ih2⟩ := qf_pos sy n (k + 1) (fun s hs => hp s (by omega)) fun i => x (i + 1)
    have pp := hp k (by omega)
    generalize qf (n + 1) (fun i j => SM a k (k + i) (k + j)) x = q at c
    generalize hL : sm (n + 1) (fun j => SM a k (k + 0) (k + j) * x j) = L at c
    generalize qf n (fun i j => SM a (k + 1) (k + 1 + i) (k + 1 + j)) (fun i => x (i + 1)) = w at c ih1 ih2
    have l2 : 0 ≤ L * L := by
      rcases Int.le_total 0 L with h | h
      · exact Int.mul_nonneg h h
      · exact Int.mul_nonneg_of_nonpos_of_nonpos h h
    have w2 : 0 ≤ PM a k * w := Int.mul_nonneg (Int.le_of_lt pk) ih1
    refine ⟨?_, fun h => ?_⟩
    · rcases Int.lt_or_le q 0 with h | h
      · have := Int.mul_neg_of_pos_of_neg pp h
        omega
      · exact h
    · rw [h, Int.mul_zero] at c
      have w0 : PM a k * w = 0 := by omega
      have w00 : w = 0 := (Int.mul_eq_zero.mp w0).resolve_left (by omega)
      have xs := ih2 w00
      have L0 : L * L = 0 := by omega
      have L00 : L = 0 := by rcases Int.mul_eq_zero.mp L0 with h | h <;> exact h
      have e : sm (n + 1) (fun j => SM a k (k + 0) (k + j) * x j) = PM a (k + 1) * x 0 := by
        rw [sm_head]
        have : sm n (fun j => SM a k (k + 0) (k + (j + 1)) * x (j + 1)) = sm n fun _ => 0 := sm_congr fun j hj => by rw [xs j hj, Int.mul_zero]
        rw [this, sm_zero, Int.add_zero]
        rw [p0]
      rw [hL, L00] at e
      have x0 : x 0 = 0 := (Int.mul_eq_zero.mp e.symm).resolve_left (by omega)
      intro i hi
      cases i with
      | zero => exact x0
      | succ i => exact xs i (by omega)
theorem form_pos {n : Nat} (sy : ∀ i j, a i j = a j i) (hp : ∀ s, s < n → 0 < PM a (s + 1)) (x : Nat → Int) : 0 ≤ qf n a x ∧ (qf n a x = 0 → ∀ i, i < n → x i = 0) := by
  have h := qf_pos sy n 0 (fun s hs => hp s (by omega)) x
  have e : (fun i j => SM a 0 (0 + i) (0 + j)) = a := by
    funext i j
    rw [SM_zero, Nat.zero_add, Nat.zero_add]
  rwa [e] at h
/-- even on the diagonal: the form is even -/
theorem qf_even (sy : ∀ i j, a i j = a j i) (ev : ∀ i, a i i % 2 = 0) (x : Nat → Int) : ∀ n, qf n a x % 2 = 0
  | 0 => rfl
  | n + 1 => by
    have e : qf (n + 1) a x = qf n a x + 2 * sm n (fun i => a i n * (x i * x n)) + a n n * (x n * x n) := by
      unfold qf
      show sm n (fun i => sm n (fun j => a i j * (x i * x j)) + a i n * (x i * x n)) + (sm n (fun j => a n j * (x n * x j)) + a n n * (x n * x n)) = _
      rw [sm_add]
      have : sm n (fun j => a n j * (x n * x j)) = sm n (fun i => a i n * (x i * x n)) := sm_congr fun i _ => by rw [sy n i, Int.mul_comm (x n)]
      rw [this]
      omega
    have i1 := qf_even sy ev x n
    have i2 := ev n
    rw [e]
    obtain ⟨c, hc⟩ : ∃ c, a n n = 2 * c := ⟨a n n / 2, by omega⟩
    rw [hc, Int.mul_assoc]
    omega
end Ft

set_option linter.all false
set_option autoImplicit false
namespace Ft
/-! ### the elimination's tables, as floor division makes them -/
/-- one step: the first row and the first column leave -/
def nxt (q : Int) (T : Nat → Nat → Int) : Nat → Nat → Int := fun i j => (T 0 0 * T (i + 1) (j + 1) - T (i + 1) 0 * T 0 (j + 1)) / q
/-- the last pivot and the table after k steps -/
def stq (T : Nat → Nat → Int) : Nat → Int × (Nat → Nat → Int)
  | 0 => (1, T)
  | k + 1 => ((stq T k).2 0 0, nxt (stq T k).1 (stq T k).2)
/-- the pivots -/
def pv_ (T : Nat → Nat → Int) (k : Nat) : Int := (stq T k).2 0 0
def allpos (T : Nat → Nat → Int) (m : Nat) : Bool := (List.range m).all fun k => decide (0 < pv_ T k)
theorem allpos_iff {T : Nat → Nat → Int} {m : Nat} : allpos T m = true ↔ ∀ k, k < m → 0 < pv_ T k := by
  unfold allpos
  rw [List.all_eq_true]
  exact ⟨fun h k hk => of_decide_eq_true (h k (List.mem_range.mpr hk)), fun h k hk => decide_eq_true (h k (List.mem_range.mp hk))⟩
/-- as long as the pivots are above 0 the tables hold minors -/
theorem stq_SM {a : Nat → Nat → Int} : ∀ {k : Nat}, (∀ s, s < k → 0 < pv_ a s) → (stq a k).1 = PM a k ∧ (∀ i j, (stq a k).2 i j = SM a k (k + i) (k + j)) ∧ ∀ s, s < k → 0 < PM a (s + 1)
  | 0, _ => ⟨rfl, fun i j => by rw [SM_zero, Nat.zero_add, Nat.zero_add]; rfl, fun s h => absurd h (Nat.not_lt_zero s)⟩
  | k + 1, h => by
    obtain ⟨h1, h2, h3⟩ := stq_SM (k := k) fun s hs => h s (by omega)
    have pk : (stq a k).2 0 0 = PM a (k + 1) := (h2 0 0).trans (SM_diag k)
    have pp : 0 < PM a (k + 1) := by
      have := h k (by omega)
      unfold pv_ at this
      rwa [pk] at this
    have all : ∀ s, s < k + 1 → 0 < PM a (s + 1) := fun s hs => by
      rcases Nat.lt_or_ge s k with h | h
      · exact h3 s h
      · have : s = k := by omega
        subst this
        exact pp
    refine ⟨pk, fun i j => ?_, all⟩
    have pk0 : PM a k ≠ 0 := by
      cases k with
      | zero => rw [PM_zero]; decide
      | succ m => have := h3 m (by omega); omega
    show ((stq a k).2 0 0 * (stq a k).2 (i + 1) (j + 1) - (stq a k).2 (i + 1) 0 * (stq a k).2 0 (j + 1)) / (stq a k).1 = _
    rw [h1, pk, h2, h2, h2, ← SM_div (fun s hs => by have := all s hs; omega) (k + 1 + i) (k + 1 + j) pk0]
    rw [show k + (i + 1) = k + 1 + i by omega, show k + (j + 1) = k + 1 + j by omega]
    rfl
/-- what a form tells is at least 0, and 0 only at 0 -/
theorem form_val {a : Nat → Nat → Int} {m : Nat} (sy : ∀ i j, a i j = a j i) (ev : ∀ i, a i i % 2 = 0) (hp : allpos a m = true) (x : Nat → Int) : 0 ≤ qf m a x / 2 ∧ (qf m a x / 2 = 0 ↔ ∀ i, i < m → x i = 0) := by
  obtain ⟨p1, p2⟩ := form_pos (n := m) sy (stq_SM (allpos_iff.mp hp)).2.2 x
  have e := qf_even sy ev x m
  refine ⟨by omega, fun h => p2 (by omega), fun h => ?_⟩
  have : qf m a x = 0 := by
    unfold qf
    have z : sm m (fun i => sm m fun j => a i j * (x i * x j)) = sm m fun _ => 0 := sm_congr fun i hi => by
      have z2 : sm m (fun j => a i j * (x i * x j)) = sm m fun _ => 0 := sm_congr fun j _ => by rw [h i hi, Int.zero_mul, Int.mul_zero]
      rw [z2, sm_zero]
    rw [z, sm_zero]
  rw [this]
  rfl
/-- how great the tables' numbers grow, crudely -/
def bw (b : Nat) : Nat → Nat
  | 0 => b
  | k + 1 => 2 * bw b k + 1
theorem nxt_lt {q : Int} {p e r o : Int} {b : Nat} (hp : p.natAbs < 2 ^ b) (he : e.natAbs < 2 ^ b) (hr : r.natAbs < 2 ^ b) (ho : o.natAbs < 2 ^ b) : ((p * e - r * o) / q).natAbs < 2 ^ (2 * b + 1) := by
  refine Nat.lt_of_le_of_lt (Int.natAbs_ediv_le_natAbs _ _) ?_
  have h1 : (p * e).natAbs < 2 ^ (b + b) := by
    rw [Int.natAbs_mul, Nat.pow_add]
    exact Nat.mul_lt_mul'' hp he
  have h2 : (r * o).natAbs < 2 ^ (b + b) := by
    rw [Int.natAbs_mul, Nat.pow_add]
    exact Nat.mul_lt_mul'' hr ho
  have : 2 ^ (2 * b + 1) = 2 ^ (b + b) + 2 ^ (b + b) := by
    rw [show 2 * b + 1 = b + b + 1 by omega, Nat.pow_succ]
    omega
  omega
theorem stq_lt {a : Nat → Nat → Int} {b : Nat} (h : ∀ i j, (a i j).natAbs < 2 ^ b) : ∀ (k i j : Nat), ((stq a k).2 i j).natAbs < 2 ^ bw b k
  | 0, i, j => h i j
  | k + 1, i, j => nxt_lt (stq_lt h k 0 0) (stq_lt h k _ _) (stq_lt h k _ _) (stq_lt h k _ _)
end Ft

namespace Ft
open PySem L2
/-! ### the law's minors and the program's stair -/
def stepL (top row : List Int) (last : Int) : List Int := (List.range (row.length - 1)).map fun i => (top.getD 0 0 * row.getD (i + 1) 0 - row.getD 0 0 * top.getD (i + 1) 0) / last
def minGo : Nat → List (List Int) → Int → List Int
  | 0, _, _ => []
  | _ + 1, [], _ => []
  | f + 1, top :: rest, last => if 0 < top.getD 0 0 then top.getD 0 0 :: minGo f (rest.map fun row => stepL top row last) (top.getD 0 0) else []
def zr (k : Nat) (row : List Int) : List Int := List.replicate k 0 ++ row
theorem zr_len (k : Nat) (row : List Int) : (zr k row).length = k + row.length := by unfold zr; rw [List.length_append, List.length_replicate]
theorem zr_lt {k i : Nat} {row : List Int} (h : i < k) : (zr k row).getD i 0 = 0 := by
  unfold zr
  rw [List.getD_eq_getElem?_getD, List.getElem?_append_left (by rw [List.length_replicate]; exact h), List.getElem?_replicate, if_pos h]
  rfl
theorem zr_ge {k i : Nat} {row : List Int} : (zr k row).getD (k + i) 0 = row.getD i 0 := by
  unfold zr
  rw [List.getD_eq_getElem?_getD, List.getElem?_append_right (by rw [List.length_replicate]; omega), List.length_replicate, Nat.add_sub_cancel_left, List.getD_eq_getElem?_getD]
theorem zr_zero (row : List Int) : zr 0 row = row := rfl
theorem list_ext_getD {as bs : List Int} (hl : as.length = bs.length) (h : ∀ i, i < as.length → as.getD i 0 = bs.getD i 0) : as = bs := by
  refine List.ext_getElem hl fun i h1 h2 => ?_
  have := h i h1
  rwa [List.getD_eq_getElem?_getD, List.getD_eq_getElem?_getD, List.getElem?_eq_getElem h1, List.getElem?_eq_getElem h2] at this
theorem map_range_getD {n i : Nat} {f : Nat → Int} (h : i < n) : ((List.range n).map f).getD i 0 = f i := by
  rw [List.getD_eq_getElem?_getD, List.getElem?_map, List.getElem?_range h]
  rfl
theorem without_zr {k : Nat} {row top : List Int} {last : Int} (h1 : 1 ≤ row.length) (hl : top.length = row.length) : withoutL (zr k row) (zr k top) k last = zr (k + 1) (stepL top row last) := by
  have l1 : (withoutL (zr k row) (zr k top) k last).length = k + row.length := by
    unfold withoutL
    rw [List.length_map, List.length_range, zr_len]
  have l2 : (zr (k + 1) (stepL top row last)).length = k + row.length := by
    rw [zr_len]
    unfold stepL
    rw [List.length_map, List.length_range]
    omega
  refine list_ext_getD (l1.trans l2.symm) fun i hi => ?_
  rw [l1] at hi
  have e : (withoutL (zr k row) (zr k top) k last).getD i 0 = ((zr k top).getD k 0 * (zr k row).getD i 0 - (zr k row).getD k 0 * (zr k top).getD i 0) / last := by
    unfold withoutL
    exact map_range_getD (by rw [zr_len]; exact hi)
  have kt : (zr k top).getD k 0 = top.getD 0 0 := zr_ge (i := 0)
  have kr : (zr k row).getD k 0 = row.getD 0 0 := zr_ge (i := 0)
  rw [e, kt, kr]
  rcases Nat.lt_trichotomy i k with h | h | h
  · rw [zr_lt h, zr_lt h, zr_lt (show i < k + 1 by omega), Int.mul_zero, Int.mul_zero]
    exact Int.zero_ediv last
  · subst h
    rw [kt, kr, zr_lt (Nat.lt_succ_self i), Int.mul_comm, Int.sub_self]
    exact Int.zero_ediv last
  · obtain ⟨j, rfl⟩ : ∃ j, i = k + (j + 1) := ⟨i - k - 1, by omega⟩
    rw [zr_ge, zr_ge, show k + (j + 1) = k + 1 + j by omega, zr_ge]
    unfold stepL
    rw [map_range_getD (by omega)]
/-- rows of one length -/
def Sq_ (n : Nat) (rows : List (List Int)) : Prop := ∀ r ∈ rows, r.length = n
theorem Sq_.step {n : Nat} {top : List Int} {rest : List (List Int)} {last : Int} (h : Sq_ n (top :: rest)) : Sq_ (n - 1) (rest.map fun row => stepL top row last) := fun r hr => by
  obtain ⟨row, hrow, rfl⟩ := List.mem_map.mp hr
  unfold stepL
  rw [List.length_map, List.length_range, h row (List.mem_cons_of_mem _ hrow)]
theorem stair_min : ∀ (f n k : Nat) (rows : List (List Int)) (done : List (List Int)) (last : Int), rows.length = n → Sq_ n rows → (stairGo f (rows.map (zr k)) done last k).length = done.length + (minGo f rows last).length
  | 0, _, _, _, _, _, _, _ => rfl
  | f + 1, n, k, [], done, last, _, _ => rfl
  | f + 1, n, k, top :: rest, done, last, hl, hs => by
    have kt : (zr k top).getD k 0 = top.getD 0 0 := zr_ge (i := 0)
    show (if (zr k top).getD k 0 ≤ 0 then done else stairGo f ((rest.map (zr k)).map fun row => withoutL row (zr k top) k last) (done ++ [zr k top]) ((zr k top).getD k 0) (k + 1)).length = done.length + (if 0 < top.getD 0 0 then top.getD 0 0 :: minGo f (rest.map fun row => stepL top row last) (top.getD 0 0) else []).length
    rw [kt]
    by_cases h : 0 < top.getD 0 0
    · rw [if_neg (by omega), if_pos h]
      have e : (rest.map (zr k)).map (fun row => withoutL row (zr k top) k last) = (rest.map fun row => stepL top row last).map (zr (k + 1)) := by
        rw [List.map_map, List.map_map]
        refine List.map_congr_left fun row hrow => ?_
        have a := hs row (List.mem_cons_of_mem _ hrow)
        have b := hs top List.mem_cons_self
        have c : rest.length + 1 = n := hl
        exact without_zr (by omega) (by omega)
      rw [e, stair_min f (n - 1) (k + 1) _ _ _ (by rw [List.length_map]; have c : rest.length + 1 = n := hl; omega) hs.step]
      simp only [List.length_append, List.length_cons, List.length_nil]
      omega
    · rw [if_pos (by omega), if_neg h]
      rfl
theorem stairL_len {rows : List (List Int)} (hs : Sq_ rows.length rows) : (stairL rows).length = (minGo rows.length rows 1).length := by
  have := stair_min rows.length rows.length 0 rows [] 1 rfl hs
  have e : rows.map (zr 0) = rows := by
    conv => rhs; rw [← List.map_id rows]
    exact List.map_congr_left fun r _ => rfl
  rw [e] at this
  unfold stairL
  rw [this]
  exact Nat.zero_add _
/-- the table's numbers, 0 outside -/
def tb (rows : List (List Int)) (i j : Nat) : Int := (rows.getD i []).getD j 0
theorem step_getD {top row : List Int} {last : Int} {n : Nat} (h1 : top.length = n) (h2 : row.length = n) (j : Nat) : (stepL top row last).getD j 0 = (top.getD 0 0 * row.getD (j + 1) 0 - row.getD 0 0 * top.getD (j + 1) 0) / last := by
  rcases Nat.lt_or_ge j (n - 1) with h | h
  · unfold stepL
    rw [map_range_getD (by omega)]
  · have o : ∀ l : List Int, l.length = n → l.getD (j + 1) 0 = 0 := fun l hl => by
      rw [List.getD_eq_getElem?_getD, List.getElem?_eq_none (by omega)]; rfl
    rw [o row h2, o top h1, Int.mul_zero, Int.mul_zero, List.getD_eq_getElem?_getD, List.getElem?_eq_none (by unfold stepL; rw [List.length_map, List.length_range]; omega)]
    exact (Int.zero_ediv last).symm
theorem tb_step {top : List Int} {rest : List (List Int)} {last : Int} {n : Nat} (hs : Sq_ n (top :: rest)) : tb (rest.map fun row => stepL top row last) = nxt last (tb (top :: rest)) := by
  funext i j
  have ht := hs top List.mem_cons_self
  show (((rest.map fun row => stepL top row last)).getD i []).getD j 0 = (top.getD 0 0 * (rest.getD i []).getD (j + 1) 0 - (rest.getD i []).getD 0 0 * top.getD (j + 1) 0) / last
  rcases Nat.lt_or_ge i rest.length with h | h
  · have e : (rest.map fun row => stepL top row last).getD i [] = stepL top (rest.getD i []) last := by
      rw [List.getD_eq_getElem?_getD, List.getElem?_map, List.getElem?_eq_getElem h, List.getD_eq_getElem?_getD, List.getElem?_eq_getElem h]
      rfl
    have hr : (rest.getD i []).length = n := by
      rw [List.getD_eq_getElem?_getD, List.getElem?_eq_getElem h]
      exact hs _ (List.mem_cons_of_mem _ (List.getElem_mem h))
    rw [e, step_getD ht hr]
  · have e : (rest.map fun row => stepL top row last).getD i [] = [] := by
      rw [List.getD_eq_getElem?_getD, List.getElem?_eq_none (by rw [List.length_map]; exact h)]; rfl
    have e2 : rest.getD i [] = [] := by
      rw [List.getD_eq_getElem?_getD, List.getElem?_eq_none h]; rfl
    rw [e, e2]
    show (0 : Int) = (top.getD 0 0 * 0 - 0 * top.getD (j + 1) 0) / last
    rw [Int.mul_zero, Int.zero_mul]
    exact (Int.zero_ediv last).symm
def stp (s : Int × (Nat → Nat → Int)) : Int × (Nat → Nat → Int) := (s.2 0 0, nxt s.1 s.2)
def stg : (Int × (Nat → Nat → Int)) → Nat → Int × (Nat → Nat → Int)
  | s, 0 => s
  | s, k + 1 => stg (stp s) k
theorem stg_succ : ∀ (k : Nat) (s : Int × (Nat → Nat → Int)), stg s (k + 1) = stp (stg s k)
  | 0, _ => rfl
  | k + 1, s => stg_succ k (stp s)
theorem stq_stg (T : Nat → Nat → Int) : ∀ k, stq T k = stg (1, T) k
  | 0 => rfl
  | k + 1 => by
    rw [stg_succ, ← stq_stg T k]
    rfl
theorem min_len : ∀ (n : Nat) (rows : List (List Int)) (last : Int), rows.length = n → Sq_ n rows → ((minGo n rows last).length = n ↔ ∀ k, k < n → 0 < (stg (last, tb rows) k).2 0 0)
  | 0, _, _, _, _ => ⟨fun _ k h => absurd h (Nat.not_lt_zero k), fun _ => rfl⟩
  | n + 1, [], _, h, _ => by cases h
  | n + 1, top :: rest, last, hl, hs => by
    have hr : rest.length = n := Nat.succ.inj hl
    have ih := min_len n (rest.map fun row => stepL top row last) (top.getD 0 0) (by rw [List.length_map]; exact hr) hs.step
    rw [tb_step hs] at ih
    show (if 0 < top.getD 0 0 then top.getD 0 0 :: minGo n (rest.map fun row => stepL top row last) (top.getD 0 0) else []).length = n + 1 ↔ _
    by_cases h : 0 < top.getD 0 0
    · rw [if_pos h, List.length_cons]
      refine ⟨fun e k hk => ?_, fun a => ?_⟩
      · cases k with
        | zero => exact h
        | succ k => exact ih.mp (by omega) k (by omega)
      · rw [ih.mpr fun k hk => a (k + 1) (by omega)]
    · rw [if_neg h]
      exact ⟨fun e => (by cases e), fun a => absurd (a 0 (Nat.succ_pos n)) h⟩
theorem min_allpos {rows : List (List Int)} (hs : Sq_ rows.length rows) : (minGo rows.length rows 1).length = rows.length ↔ allpos (tb rows) rows.length = true := by
  rw [min_len rows.length rows 1 rfl hs, allpos_iff]
  refine ⟨fun h k hk => ?_, fun h k hk => ?_⟩
  · unfold pv_; rw [stq_stg]; exact h k hk
  · have := h k hk
    unfold pv_ at this
    rwa [stq_stg] at this
end Ft

set_option exponentiation.threshold 9000
namespace Ft
open PySem L2
/-- the bits of the numbers while so many rows are left -/
def bt (f : Nat) : Nat := 2 ^ (11 - f) - 1
theorem bt_step {f : Nat} (h : f < 8) : 2 * bt (f + 1) + 1 = bt f := by
  unfold bt
  have e : 11 - f = 11 - (f + 1) + 1 := by omega
  have p : 1 ≤ 2 ^ (11 - (f + 1)) := Nat.one_le_two_pow
  rw [e, Nat.pow_succ]
  omega
theorem bt_le {f : Nat} (h : 1 ≤ f) : bt f ≤ 1023 := by
  unfold bt
  have : 2 ^ (11 - f) ≤ 2 ^ 10 := Nat.pow_le_pow_right (by decide) (by omega)
  omega
theorem bt_7 {f : Nat} (h : f ≤ 8) : 7 ≤ bt f := by
  unfold bt
  have : 2 ^ 3 ≤ 2 ^ (11 - f) := Nat.pow_le_pow_right (by decide) (by omega)
  omega
theorem getD_lt' {b : Nat} {r : List Int} (h : ∀ x ∈ r, x.natAbs < 2 ^ b) (i : Nat) : (r.getD i 0).natAbs < 2 ^ b := by
  rw [List.getD_eq_getElem?_getD]
  rcases Nat.lt_or_ge i r.length with hi | hi
  · rw [List.getElem?_eq_getElem hi]
    exact h _ (List.getElem_mem hi)
  · rw [List.getElem?_eq_none hi]
    exact Nat.two_pow_pos b
theorem stok_of : ∀ (f n k : Nat) (rows : List (List Int)) (last : Int), rows.length = f → f ≤ 8 → n = k + f → n ≤ 40 → (∀ r ∈ rows, r.length = n ∧ ∀ x ∈ r, x.natAbs < 2 ^ bt f) → 0 < last → last.natAbs < 2 ^ 2000 → StOk n f rows last k
  | 0, _, _, _, _, _, _, _, _, _, _, _ => trivial
  | f + 1, n, k, [], _, h, _, _, _, _, _, _ => by cases h
  | f + 1, n, k, pivot :: more, last, hl, h8, hn, n4, hr, l0, l2 => by
    have b1 : bt (f + 1) ≤ 1023 := bt_le (by omega)
    have up : ∀ x : Int, x.natAbs < 2 ^ bt (f + 1) → x.natAbs < 2 ^ 2000 := fun x h => Nat.lt_of_lt_of_le h (Nat.pow_le_pow_right (by decide) (by omega))
    refine ⟨fun r h => ⟨⟨by rw [(hr r h).1]; exact n4, fun x hx => up x ((hr r h).2 x hx)⟩, (hr r h).1⟩, by omega, l0, l2, ?_⟩
    by_cases hp : pivot.getD k 0 ≤ 0
    · exact .inl hp
    · refine .inr (stok_of f n (k + 1) _ _ (by rw [List.length_map]; exact Nat.succ.inj hl) (by omega) (by omega) n4 (fun r h => ?_) (by omega) (up _ (getD_lt' (hr pivot List.mem_cons_self).2 k)))
      obtain ⟨row, hrow, rfl⟩ := List.mem_map.mp h
      have hw := hr row (List.mem_cons_of_mem _ hrow)
      have hv := hr pivot List.mem_cons_self
      refine ⟨by unfold withoutL; rw [List.length_map, List.length_range]; exact hw.1, fun x hx => ?_⟩
      unfold withoutL at hx
      obtain ⟨i, _, rfl⟩ := List.mem_map.mp hx
      have := nxt_lt (q := last) (getD_lt' hv.2 k) (getD_lt' hw.2 i) (getD_lt' hw.2 k) (getD_lt' hv.2 i)
      rwa [bt_step (by omega)] at this
theorem stok_small {rows : List (List Int)} (h8 : rows.length ≤ 8) (hs : Sq_ rows.length rows) (hx : ∀ r ∈ rows, ∀ x ∈ r, x.natAbs ≤ 100) : StOk rows.length rows.length rows 1 0 :=
  stok_of rows.length rows.length 0 rows 1 rfl h8 (by omega) (by omega) (fun r h => ⟨hs r h, fun x hx' => Nat.lt_of_le_of_lt (hx r h x hx') (Nat.lt_of_lt_of_le (by decide : 100 < 2 ^ 7) (Nat.pow_le_pow_right (by decide) (bt_7 h8)))⟩) (by decide) (by decide)
end Ft

set_option exponentiation.threshold 9000
namespace Ft
open PySem L2
/-! ### is_table_of_integers of any value -/
def rowD (m : Nat) : PyData → Bool
  | .tuple es => decide (es.length = m)
  | _ => false
def entD : PyData → List Bool
  | .tuple es => es.map isIntD
  | _ => []
def tabD (m : Nat) : PyData → Bool
  | .tuple ds => decide (ds.length = m) && (ds.all (rowD m) && ds.all fun d => (entD d).all id)
  | _ => false
theorem decI {a b : Nat} : decide (V.int (a : Int) = V.int (b : Int)) = decide (a = b) := decide_eq_decide.mpr ⟨fun h => by have := V.int.inj h; omega, fun h => by rw [h]⟩
theorem take_snocA {α : Type} {l : List α} {i : Nat} {a : α} (h : l[i]? = some a) : l.take (i + 1) = l.take i ++ [a] := by
  rw [List.take_add_one, h]
  rfl
def sp_tabQ : Sp := fun vs H Q _ => ∃ v D N m, vs = [v, .int ((m : Nat) : Int)] ∧ Dq H N v D ∧ m ≤ 8 ∧ ∀ H', Same H H' → Q (.bl (tabD m D)) H'
section
variable {P : Program} {w : World} {K : PySem.W.Frag} {mg : Str → Option Value} {base : Heap}
theorem ok_tabQ (D : Df K mg "is_table_of_integers" s_is_table_of_integers ["thing", "many"]) (B : Bi mg) (c_is_integer : Cal P w K mg base 1 "is_integer" sp_isIntQ) : Cal P w K mg base 2 "is_table_of_integers" sp_tabQ := by
  obtain ⟨f, fd, F, m, b⟩ := D.ex
  have sc := sc_is_table_of_integers
  refine ⟨f, fd, _, F.ok sc (fun _ _ _ _ ⟨_, _, _, _, e, _⟩ => by rw [e]; rfl) (fun cdv A outer s H vs Q E hr h => ?_), m, F.kp, b⟩
  obtain ⟨v, D, N, m, rfl, hd, m8, q⟩ := h
  refine ⟨_, (pss_cons (ps_if (PW.pt (pw_or (pt_not (pt_val (pe_callB (id := "isinstance") (r := rIsi K) call_isi (by rfl) B.isinstance (by decide +kernel) (pa_cons (pv 0) (pa_cons (pe_ty (n := "tuple") (by rfl) B.tuple (by decide +kernel)) pa_nil))))) (pw_or1 (pt_cmpR op_ne (pe_callB (id := "len") (r := rLeO K) call_len_seq (by rfl) B.len_ (by decide +kernel) (pa_cons (pv 0) pa_nil)) (pv 1) (nomark _)))))
      (pss_one (ps_ret pe_bl))
      pss_nil)
      (pss_cons (ps_if (pt_not (pt_val (pe_callB (id := "all") (r := rAll K) (cr_all rfl) (by rfl) B.all (by decide +kernel) (pa_cons (pe_lc (own := [("row", 2)]) (g := gName 2) (tt := tYes) (by rfl) sc.nd (pi_tup (pv 0)) (blkOk_by (own := [("row", 2)]) (N := N_is_table_of_integers) (sc := defScope s_is_table_of_integers) (by decide +kernel)) (fun _ _ _ _ _ => (pg_name (i := 2) sc.nd rfl (Or.inl rfl))) (fun _ _ _ _ _ => pts_nil) (fun _ _ _ _ _ => (pe_and (pe_callB (id := "isinstance") (r := rIsi K) call_isi (by rfl) B.isinstance (by decide +kernel) (pa_cons (pv 2) (pa_cons (pe_ty (n := "tuple") (by rfl) B.tuple (by decide +kernel)) pa_nil))) (pe_one (pe_cmpR op_eq (pe_callB (id := "len") (r := rLeO K) call_len_seq (by rfl) B.len_ (by decide +kernel) (pa_cons (pv 2) pa_nil)) (pv 1) (nomark _)))))) pa_nil))))
      (pss_one (ps_ret pe_bl))
      pss_nil)
      (pss_one (ps_ret (pe_callB (id := "all") (r := rAll K) (cr_all rfl) (by rfl) B.all (by decide +kernel) (pa_cons (pe_lc2 (own := [("row", 2), ("entry", 3)]) (vs1 := [3]) (g := gName 2) (g1 := gName 3) (tt := tYes) (tt1 := tYes) (by rfl) sc.nd (pi_tup (pv 0)) (blkOk_by (own := [("row", 2), ("entry", 3)]) (N := N_is_table_of_integers) (sc := defScope s_is_table_of_integers) (by decide +kernel)) (by decide) (fun _ _ _ _ _ => (pg_name (i := 2) sc.nd rfl (Or.inl rfl))) (fun _ _ _ _ _ => pts_nil) (fun _ _ _ _ _ => (show PI _ _ _ (iTup K (tVar 2)) from pi_tup (pv 2))) (fun _ _ _ _ _ => (pg_name (i := 3) sc.nd rfl (Or.inl rfl))) (fun _ _ _ _ _ => pts_nil) (fun _ _ _ _ _ => (pe_c c_is_integer hr (by decide) (by rfl) (pa_cons (pv 3) pa_nil)))) pa_nil)))))), ?_⟩
  refine ⟨_, rfl, _, _, _, _, isTupD D, rfl, .ty _, hd.ty, kit_tupD D, _, rfl, ?_⟩
  cases hT : isTupD D with
  | false =>
    have e : tabD m D = false := by cases D <;> first | rfl | cases hT
    rw [e] at q
    exact iteT (q _ (Same.refl _))
  | true =>
  obtain ⟨ds, rfl⟩ := tup_of hT
  obtain ⟨t, ws, rfl, nt, rt, hx⟩ := hd.tup_inv
  have ht : H t = some (.tup ws) := by cases rt; assumption
  have lw := hx.length
  have et : tabD m (.tuple ds) = (decide (ds.length = m) && (ds.all (rowD m) && ds.all fun d => (entD d).all id)) := rfl
  rw [et] at q
  refine iteF ⟨_, rfl, t, _, rfl, .inr (SqT.of ht), _, rfl, rfl, _, rfl, ?_⟩
  rw [decI, lw]
  by_cases hm : ds.length = m
  case neg =>
    rw [decide_eq_false hm, Bool.false_and] at q
    rw [decide_eq_false hm]
    exact iteT (q _ (Same.refl _))
  rw [decide_eq_true hm, Bool.true_and] at q
  rw [decide_eq_true hm]
  refine iteF ?_
  dsimp only [tNext]
  refine ⟨_, rfl, t, rfl, ⟨_, SqT.of ht⟩, fun D1 hD1 => ?_⟩
  refine lc_tup (K := K) (a := t) (xs := ws) (fun i H' => Same H H' ∧ H' D1 = some (.lst (((ds.take i).map (rowD m)).map V.bl))) ⟨Same.upd_new hD1, upd_same⟩ (fun i H' _ ⟨z, _⟩ => SqT.of (z _ _ ht)) ?_ ?_
  · rintro i x H2 hi ⟨s2, h2⟩
    obtain ⟨d0, hd0, dx⟩ := dq_of hx hi
    have dx2 := dx.same s2
    have hil : i < 9 := by have := (List.getElem?_eq_some_iff.mp hi).1; omega
    dsimp only [gName]
    refine ⟨rfl, _, rfl, _, _, _, _, isTupD d0, rfl, .ty _, dx2.ty, kit_tupD d0, _, rfl, ?_⟩
    have put : ∀ b : Bool, rowD m d0 = b → Same H (upd H2 D1 (.lst (((ds.take i).map (rowD m)).map V.bl ++ [V.bl b]))) ∧ (upd H2 D1 (.lst (((ds.take i).map (rowD m)).map V.bl ++ [V.bl b]))) D1 = some (.lst (((ds.take (i + 1)).map (rowD m)).map V.bl)) := fun b hb => by
      refine ⟨fun b o e => ?_, ?_⟩
      · rw [upd_ne (ne_of_none e hD1)]
        exact s2 _ _ e
      · rw [upd_same, take_snocA hd0, List.map_append, List.map_append]
        show _ = some (HO.lst (_ ++ [V.bl (rowD m d0)]))
        rw [hb]
    have sz : (((ds.take i).map (rowD m)).map V.bl).length < sizeLine := by
      rw [List.length_map, List.length_map, List.length_take]
      exact Nat.lt_of_le_of_lt (by omega : _ ≤ 400) (by decide)
    cases hT0 : isTupD d0 with
    | false =>
      have e : rowD m d0 = false := by cases d0 <;> first | rfl | cases hT0
      exact iteF ⟨_, h2, sz, put false e⟩
    | true =>
      obtain ⟨es, rfl⟩ := tup_of hT0
      obtain ⟨c, us, rfl, nc, rc, hu⟩ := dx2.tup_inv
      have hc2 : H2 c = some (.tup us) := by cases rc; assumption
      refine iteT ⟨_, rfl, c, _, rfl, .inr (SqT.of hc2), _, rfl, rfl, ?_⟩
      rw [decI, hu.length]
      exact ⟨_, h2, sz, put _ rfl⟩
  rintro H2 ⟨s2, h2⟩
  rw [lw, List.take_length] at h2
  refine ⟨D1, _, rfl, SqL.of h2, ?_⟩
  have ea : ((ds.map (rowD m)).all id) = ds.all (rowD m) := by rw [List.all_map]; rfl
  rw [ea]
  cases hr1 : ds.all (rowD m) with
  | false =>
    rw [hr1, Bool.false_and] at q
    exact ⟨false, rfl, iteT (q _ s2)⟩
  | true =>
  rw [hr1, Bool.true_and] at q
  refine ⟨true, rfl, iteF ?_⟩
  dsimp only [tNext]
  have ht2 := s2 _ _ ht
  have hx2 := hx.same s2
  refine ⟨_, rfl, t, rfl, ⟨_, SqT.of ht2⟩, fun D2 hD2 => ?_⟩
  refine lcF (walk_tup (K := K) (a := t) (xs := ws)) (fun i H' => Same H2 H' ∧ ((ds.take i).flatMap entD).length ≤ 8 * i ∧ H' D2 = some (.lst (((ds.take i).flatMap entD).map V.bl))) ⟨Same.upd_new hD2, Nat.zero_le _, upd_same⟩ (fun i H' _ ⟨z, _⟩ => SqT.of (z _ _ ht2)) ?_ ?_
  · rintro i x Ha H3 hi ⟨s3, hc, h3⟩ ⟨rfl, hx0⟩
    obtain ⟨d0, hd0, dx⟩ := dq_of hx2 hx0
    have dx3 := dx.same s3
    have r0 := List.all_eq_true.mp hr1 d0 (List.mem_of_getElem? hd0)
    obtain ⟨es, rfl⟩ : ∃ es, d0 = .tuple es := by cases d0 <;> first | exact ⟨_, rfl⟩ | cases r0
    have le : es.length = m := of_decide_eq_true (show decide (es.length = m) = true from r0)
    obtain ⟨c, us, rfl, nc, rc, hu⟩ := dx3.tup_inv
    have hc3 : H3 c = some (.tup us) := by cases rc; assumption
    obtain ⟨c', us', ec, _, rc2, hu2⟩ := dx.tup_inv
    cases ec
    have hc2 : H2 c = some (.tup us') := by cases rc2; assumption
    have eu : us' = us := by
      have := s3 _ _ hc2
      rw [this] at hc3
      cases hc3
      rfl
    subst eu
    have hi8 : i < 9 := by have := (List.getElem?_eq_some_iff.mp hx0).1; omega
    refine ⟨rfl, _, rfl, c, rfl, ⟨_, SqT.of hc3⟩, ?_⟩
    refine lcF (walk_tup (K := K) (a := c) (xs := us')) (fun j H' => Same H2 H' ∧ H' D2 = some (.lst (((ds.take i).flatMap entD ++ (es.take j).map isIntD).map V.bl))) ⟨s3, by rw [List.take_zero, List.map_nil, List.append_nil]; exact h3⟩ (fun j H' _ ⟨z, _⟩ => SqT.of (z _ _ hc2)) ?_ ?_
    · rintro j y H5 H6 hj ⟨s5, h5⟩ ⟨rfl, hy⟩
      obtain ⟨e0, he0, dy⟩ := dq_of hu2 hy
      dsimp only [gName]
      refine ⟨rfl, _, rfl, y, e0, N, rfl, dy.same s5, _, h5, ?_, fun b o e => ?_, ?_⟩
      · rw [List.length_map, List.length_append, List.length_map, List.length_take]
        exact Nat.lt_of_le_of_lt (by omega : _ ≤ 400) (by decide)
      · rw [upd_ne (ne_of_none e hD2)]
        exact s5 _ _ e
      · rw [upd_same, take_snocA he0]
        simp only [List.map_append, List.append_assoc]
        rfl
    · rintro H5 ⟨s5, h5⟩
      have lu := hu2.length
      rw [lu, List.take_length] at h5
      have e2 : (ds.take (i + 1)).flatMap entD = (ds.take i).flatMap entD ++ es.map isIntD := by
        rw [take_snocA hd0, List.flatMap_append]
        show _ ++ (entD (.tuple es) ++ []) = _
        rw [List.append_nil]
        rfl
      refine ⟨s5, ?_, ?_⟩
      · rw [e2, List.length_append, List.length_map]
        omega
      · rw [e2]
        exact h5
  rintro H3 ⟨s3, hc, h3⟩
  rw [lw, List.take_length] at h3
  refine ⟨D2, _, rfl, SqL.of h3, ?_⟩
  rw [List.all_flatMap]
  exact q _ (s2.trans s3)
end
end Ft

set_option exponentiation.threshold 9000
set_option maxHeartbeats 1000000
namespace Ft
open PySem L2
def ent (rows : List (List Int)) (i j : Nat) : Int := (rows.getD i []).getD j 0
structure EvOk (rows : List (List Int)) (m : Nat) : Prop where
  len : rows.length = m
  row : ∀ r ∈ rows, r.length = m
  m8 : m ≤ 8
  rng : ∀ r ∈ rows, ∀ e ∈ r, -100 ≤ e ∧ e ≤ 100
  sym : ∀ i j, i < m → j < m → ent rows i j = ent rows j i
  even : ∀ i, i < m → ent rows i i % 2 = 0
def sp_isEven : Sp := fun vs H Q _ => ∃ (t : Addr) (rows : List (List Int)) (m : Nat), vs = [.ref t] ∧ TabT H t rows ∧ EvOk rows m ∧ ∀ H', Same H H' → Q (.bl true) H'
theorem row_at {K : PySem.W.Frag} {H : Hp} {t : Addr} {rows : List (List Int)} {m i : Nat} {M : VK} (h : TabT H t rows) (l : rows.length = m) (hi : i < m) (q : ∀ c : Addr, H c = some (.tup ((rows.getD i []).map V.int)) → M (.ref c) H) : rIx K (.ref t) (.int (i : Int)) H M := by
  obtain ⟨ws, ht, tws⟩ := h
  have lw := tws.len
  obtain ⟨v, hv⟩ : ∃ v, ws[i]? = some v := ⟨_, List.getElem?_eq_getElem (by omega)⟩
  obtain ⟨c, r, rfl, hr, hc⟩ := tws.get hv
  have e : rows.getD i [] = r := by rw [List.getD_eq_getElem?_getD, hr]; rfl
  exact .inr (.inl ⟨t, ws, (i : Int), .ref c, rfl, rfl, SqT.of ht, atI_nat hv, q c (by rw [e]; exact hc)⟩)
theorem ent_of {K : PySem.W.Frag} {H : Hp} {c : Addr} {r : List Int} {j : Nat} {M : VK} (h : H c = some (.tup (r.map V.int))) (hj : j < r.length) (q : M (.int (r.getD j 0)) H) : rIx K (.ref c) (.int (j : Int)) H M :=
  .inr (.inl ⟨c, _, (j : Int), _, rfl, rfl, SqT.of h, atI_nat (getD_at hj), q⟩)
section
variable {P : Program} {w : World} {K : PySem.W.Frag} {mg : Str → Option Value} {base : Heap}
theorem ok_isEven (D : Df K mg "is_small_and_even" s_is_small_and_even ["table"]) (B : Bi mg) (c_is_between : Cal P w K mg base 2 "is_between" sp_is_between) : Cal P w K mg base 3 "is_small_and_even" sp_isEven := by
  obtain ⟨f, fd, F, m, b⟩ := D.ex
  have sc := sc_is_small_and_even
  refine ⟨f, fd, _, F.ok sc (fun _ _ _ _ ⟨_, _, _, e, _⟩ => by rw [e]; rfl) (fun cdv A outer s H vs Q E hr h => ?_), m, F.kp, b⟩
  obtain ⟨t, rows, m, rfl, hT, ev, q⟩ := h
  refine ⟨_, (pss_cons (ps_set (i := 1) sc.nd rfl (Or.inl rfl) (pe_callB call_len_seq (by rfl) B.len_ (by decide +kernel) (pa_cons (pv 0) pa_nil)))
      (pss_cons (ps_if (pt_not (pt_val (pe_callB (id := "all") (r := rAll K) (cr_all rfl) (by rfl) B.all (by decide +kernel) (pa_cons (pe_lc2 (own := [("row", 2), ("entry", 3)]) (vs1 := [3]) (g := gName 2) (g1 := gName 3) (tt := tYes) (tt1 := tYes) (by rfl) sc.nd (pi_tup (pv 0)) (blkOk_by (own := [("row", 2), ("entry", 3)]) (N := N_is_small_and_even) (sc := defScope s_is_small_and_even) (by decide +kernel)) (by decide) (fun _ _ _ _ _ => (pg_name (i := 2) sc.nd rfl (Or.inl rfl))) (fun _ _ _ _ _ => pts_nil) (fun _ _ _ _ _ => (show PI _ _ _ (iTup K (tVar 2)) from pi_tup (pv 2))) (fun _ _ _ _ _ => (pg_name (i := 3) sc.nd rfl (Or.inl rfl))) (fun _ _ _ _ _ => pts_nil) (fun _ _ _ _ _ => (pe_c c_is_between hr (by decide) (by rfl) (pa_cons (pv 3) (pa_cons (pe_un un_neg pe_int) (pa_cons pe_int pa_nil)))))) pa_nil))))
      (pss_one (ps_ret pe_bl))
      pss_nil)
      (pss_cons (ps_if (pt_not (pt_val (pe_callB (id := "all") (r := rAll K) (cr_all rfl) (by rfl) B.all (by decide +kernel) (pa_cons (pe_lc2 (own := [("i", 4), ("j", 5)]) (vs1 := [5]) (g := gName 4) (g1 := gName 5) (tt := tYes) (tt1 := tYes) (by rfl) sc.nd (pi_range1 rfl B.range (pa_cons (pv 1) pa_nil)) (blkOk_by (own := [("i", 4), ("j", 5)]) (N := N_is_small_and_even) (sc := defScope s_is_small_and_even) (by decide +kernel)) (by decide) (fun _ _ _ _ _ => (pg_name (i := 4) sc.nd rfl (Or.inl rfl))) (fun _ _ _ _ _ => pts_nil) (fun _ _ _ _ _ => (pi_range1 rfl B.range (pa_cons (pv 4) pa_nil))) (fun _ _ _ _ _ => (pg_name (i := 5) sc.nd rfl (Or.inl rfl))) (fun _ _ _ _ _ => pts_nil) (fun _ _ _ _ _ => (pe_cmpR op_eq (pe_ix (show IxR _ (rIx K) from ix_seq) (pe_ix (show IxR _ (rIx K) from ix_seq) (pv 0) (pv 4) (fun _ _ => rfl)) (pv 5) (fun _ _ => rfl)) (pe_ix (show IxR _ (rIx K) from ix_seq) (pe_ix (show IxR _ (rIx K) from ix_seq) (pv 0) (pv 5) (fun _ _ => rfl)) (pv 4) (fun _ _ => rfl)) (nomark _)))) pa_nil))))
      (pss_one (ps_ret pe_bl))
      pss_nil)
      (pss_one (ps_ret (pe_callB (id := "all") (r := rAll K) (cr_all rfl) (by rfl) B.all (by decide +kernel) (pa_cons (pe_lc (own := [("i", 4)]) (g := gName 4) (tt := tYes) (by rfl) sc.nd (pi_range1 rfl B.range (pa_cons (pv 1) pa_nil)) (blkOk_by (own := [("i", 4)]) (N := N_is_small_and_even) (sc := defScope s_is_small_and_even) (by decide +kernel)) (fun _ _ _ _ _ => (pg_name (i := 4) sc.nd rfl (Or.inl rfl))) (fun _ _ _ _ _ => pts_nil) (fun _ _ _ _ _ => (pe_cmpR op_eq (pe_op op_mod (pe_ix (show IxR _ (rIx K) from ix_seq) (pe_ix (show IxR _ (rIx K) from ix_seq) (pv 0) (pv 4) (fun _ _ => rfl)) (pv 4) (fun _ _ => rfl)) pe_int) pe_int (nomark _)))) pa_nil))))))), ?_⟩
  obtain ⟨ws, ht, tws⟩ := id hT
  have lw := tws.len
  have lm := ev.len
  have m8 := ev.m8
  have rl : ∀ i, i < m → (rows.getD i []).length = m := fun i hi => by
    refine ev.row _ ?_
    rw [List.getD_eq_getElem?_getD, List.getElem?_eq_getElem (by omega)]
    exact List.getElem_mem _
  have push : ∀ {H3 H5 : Hp} {D : Addr} {c : Nat} {b : Bool}, H3 D = none → Same H3 H5 → H5 D = some (.lst ((List.replicate c true).map V.bl)) → c ≤ 400 → b = true → ∃ acc, H5 D = some (.lst acc) ∧ acc.length < sizeLine ∧ Same H3 (upd H5 D (.lst (acc ++ [V.bl b]))) ∧ (upd H5 D (.lst (acc ++ [V.bl b]))) D = some (.lst ((List.replicate (c + 1) true).map V.bl)) := by
    intro H3 H5 D c b hD s5 h5 hc hb
    subst hb
    refine ⟨_, h5, ?_, fun b o e => ?_, ?_⟩
    · rw [List.length_map, List.length_replicate]
      exact Nat.lt_of_le_of_lt hc (by decide)
    · rw [upd_ne (ne_of_none e hD)]
      exact s5 _ _ e
    · rw [upd_same, List.replicate_succ', List.map_append]
      rfl
  refine ⟨_, rfl, t, _, rfl, .inr (SqT.of ht), ?_⟩
  rw [show ((ws.length : Nat) : Int) = (m : Int) by omega]
  refine ⟨_, rfl, t, rfl, ⟨_, SqT.of ht⟩, fun D1 hD1 => ?_⟩
  refine lcF (walk_tup (K := K) (a := t) (xs := ws)) (fun i H' => Same H H' ∧ ∃ c, c ≤ 8 * i ∧ H' D1 = some (.lst ((List.replicate c true).map V.bl))) ⟨Same.upd_new hD1, 0, Nat.zero_le _, upd_same⟩ (fun i H' _ ⟨z, _⟩ => SqT.of (z _ _ ht)) ?_ ?_
  · rintro i x H3 H4 hi ⟨s3, c, hc, h3⟩ ⟨rfl, hx⟩
    obtain ⟨a, r, rfl, hr1, ha⟩ := tws.get hx
    have rm := List.mem_of_getElem? hr1
    have lc := ev.row r rm
    have ha3 := s3 _ _ ha
    have ll : (r.map V.int).length = r.length := List.length_map ..
    refine ⟨rfl, _, rfl, a, rfl, ⟨_, SqT.of ha3⟩, ?_⟩
    refine lcF (walk_tup (K := K) (a := a) (xs := r.map V.int)) (fun j H' => Same H H' ∧ H' D1 = some (.lst ((List.replicate (c + j) true).map V.bl))) ⟨s3, h3⟩ (fun j H' _ ⟨z, _⟩ => SqT.of (z _ _ ha)) ?_ ?_
    · rintro j y H5 H6 hj ⟨s5, h5⟩ ⟨rfl, hy⟩
      obtain ⟨z, rfl, hz⟩ := int_at hy
      have rg := ev.rng r rm z (List.mem_of_getElem? hz)
      have hj' : j < r.length := by rw [← ll]; exact hj
      dsimp only [gName]
      refine ⟨rfl, _, rfl, _, rfl, z, -100, 100, rfl, trivial, ?_⟩
      have cj : c + j ≤ 400 := by omega
      exact push (c := c + j) hD1 s5 h5 cj (by rw [decide_eq_true rg.1, decide_eq_true rg.2]; rfl)
    · rintro H5 ⟨s5, h5⟩
      exact ⟨s5, c + r.length, by omega, by rw [← ll]; exact h5⟩
  rintro H2 ⟨s2, c, _, h2⟩
  refine ⟨D1, _, rfl, SqL.of h2, ?_⟩
  rw [show (List.replicate c true).all id = true by simp]
  refine ⟨true, rfl, iteF ?_⟩
  dsimp only [tNext]
  have hT2 := hT.same s2
  refine ⟨_, rfl, _, rfl, by omega, by omega, fun D2 hD2 => ?_⟩
  refine lcF (walk_range (lo := 0) (n := Int.toNat (m : Int))) (fun i H' => Same H2 H' ∧ ∃ c, c ≤ 8 * i ∧ H' D2 = some (.lst ((List.replicate c true).map V.bl))) ⟨Same.upd_new hD2, 0, Nat.zero_le _, upd_same⟩ (fun _ _ _ _ => trivial) ?_ ?_
  · rintro i x H3 H4 hi ⟨s3, c, hc, h3⟩ ⟨rfl, rfl⟩
    show gName 4 (V.int (0 + (i : Int))) _ _ _
    rw [Int.zero_add]
    have im : i < m := by omega
    refine ⟨rfl, _, rfl, _, rfl, by omega, by omega, ?_⟩
    refine lcF (walk_range (lo := 0) (n := Int.toNat (i : Int))) (fun j H' => Same H2 H' ∧ H' D2 = some (.lst ((List.replicate (c + j) true).map V.bl))) ⟨s3, h3⟩ (fun _ _ _ _ => trivial) ?_ ?_
    · rintro j y H5 H6 hj ⟨s5, h5⟩ ⟨rfl, rfl⟩
      have jm : j < m := by omega
      dsimp only [gName]
      rw [Int.zero_add]
      have hT5 := hT2.same s5
      refine ⟨rfl, _, rfl, _, rfl, row_at hT5 lm im fun c1 hc1 => ⟨_, rfl, ent_of hc1 (by rw [rl i im]; exact jm) ⟨_, rfl, _, rfl, row_at hT5 lm jm fun c2 hc2 => ⟨_, rfl, ent_of hc2 (by rw [rl j jm]; exact im) ⟨rfl, ?_⟩⟩⟩⟩⟩
      have cj : c + j ≤ 400 := by omega
      exact push (c := c + j) hD2 s5 h5 cj (decide_eq_true (congrArg V.int (ev.sym i j im jm)))
    · rintro H5 ⟨s5, h5⟩
      exact ⟨s5, c + i, by omega, h5⟩
  rintro H3 ⟨s3, c3, _, h3⟩
  refine ⟨D2, _, rfl, SqL.of h3, ?_⟩
  rw [show (List.replicate c3 true).all id = true by simp]
  refine ⟨true, rfl, iteF ?_⟩
  dsimp only [tNext]
  have hT3 := hT2.same s3
  refine ⟨_, rfl, _, rfl, by omega, by omega, fun D3 hD3 => ?_⟩
  refine lc_range (lo := 0) (n := Int.toNat (m : Int)) (fun i H' => Same H3 H' ∧ H' D3 = some (.lst ((List.replicate i true).map V.bl))) ⟨Same.upd_new hD3, upd_same⟩ ?_ ?_
  · rintro i H5 hi ⟨s5, h5⟩
    have im : i < m := by omega
    dsimp only [gName]
    rw [Int.zero_add]
    have hT5 := hT3.same s5
    refine ⟨rfl, _, rfl, _, rfl, row_at hT5 lm im fun c1 hc1 => ⟨_, rfl, ent_of hc1 (by rw [rl i im]; exact im) ⟨_, _, rfl, rfl, (by show (0 : Int) < 2; decide), rfl, ?_⟩⟩⟩
    exact push hD3 s5 h5 (by omega) (decide_eq_true (congrArg V.int (ev.even i im)))
  rintro H5 ⟨s5, h5⟩
  refine ⟨D3, _, rfl, SqL.of h5, ?_⟩
  rw [show (List.replicate (Int.toNat (m : Int)) true).all id = true by simp]
  exact q _ (s2.trans (s3.trans s5))
end
end Ft

set_option exponentiation.threshold 9000
set_option maxHeartbeats 1000000
namespace Ft
open PySem L2
/-! ### is_small_and_even of any table of ints -/
def rng1 (e : Int) : Bool := decide (-100 ≤ e) && decide (e ≤ 100)
def rngB (rows : List (List Int)) : List Bool := rows.flatMap fun r => r.map rng1
def symB (rows : List (List Int)) (m : Nat) : List Bool := (List.range m).flatMap fun i => (List.range i).map fun j => decide (ent rows i j = ent rows j i)
def evnB (rows : List (List Int)) (m : Nat) : List Bool := (List.range m).map fun i => decide (ent rows i i % 2 = 0)
def smallEven (rows : List (List Int)) (m : Nat) : Bool := (rngB rows).all id && ((symB rows m).all id && (evnB rows m).all id)
def sp_evenQ : Sp := fun vs H Q _ => ∃ (t : Addr) (rows : List (List Int)) (m : Nat), vs = [.ref t] ∧ TabT H t rows ∧ rows.length = m ∧ (∀ r ∈ rows, r.length = m) ∧ m ≤ 8 ∧ ∀ H', Same H H' → Q (.bl (smallEven rows m)) H'
section
variable {P : Program} {w : World} {K : PySem.W.Frag} {mg : Str → Option Value} {base : Heap}
theorem ok_evenQ (D : Df K mg "is_small_and_even" s_is_small_and_even ["table"]) (B : Bi mg) (c_is_between : Cal P w K mg base 2 "is_between" sp_is_between) : Cal P w K mg base 3 "is_small_and_even" sp_evenQ := by
  obtain ⟨f, fd, F, m, b⟩ := D.ex
  have sc := sc_is_small_and_even
  refine ⟨f, fd, _, F.ok sc (fun _ _ _ _ ⟨_, _, _, e, _⟩ => by rw [e]; rfl) (fun cdv A outer s H vs Q E hr h => ?_), m, F.kp, b⟩
  obtain ⟨t, rows, m, rfl, hT, lm, lr, m8, q⟩ := h
  refine ⟨_, (pss_cons (ps_set (i := 1) sc.nd rfl (Or.inl rfl) (pe_callB call_len_seq (by rfl) B.len_ (by decide +kernel) (pa_cons (pv 0) pa_nil)))
      (pss_cons (ps_if (pt_not (pt_val (pe_callB (id := "all") (r := rAll K) (cr_all rfl) (by rfl) B.all (by decide +kernel) (pa_cons (pe_lc2 (own := [("row", 2), ("entry", 3)]) (vs1 := [3]) (g := gName 2) (g1 := gName 3) (tt := tYes) (tt1 := tYes) (by rfl) sc.nd (pi_tup (pv 0)) (blkOk_by (own := [("row", 2), ("entry", 3)]) (N := N_is_small_and_even) (sc := defScope s_is_small_and_even) (by decide +kernel)) (by decide) (fun _ _ _ _ _ => (pg_name (i := 2) sc.nd rfl (Or.inl rfl))) (fun _ _ _ _ _ => pts_nil) (fun _ _ _ _ _ => (show PI _ _ _ (iTup K (tVar 2)) from pi_tup (pv 2))) (fun _ _ _ _ _ => (pg_name (i := 3) sc.nd rfl (Or.inl rfl))) (fun _ _ _ _ _ => pts_nil) (fun _ _ _ _ _ => (pe_c c_is_between hr (by decide) (by rfl) (pa_cons (pv 3) (pa_cons (pe_un un_neg pe_int) (pa_cons pe_int pa_nil)))))) pa_nil))))
      (pss_one (ps_ret pe_bl))
      pss_nil)
      (pss_cons (ps_if (pt_not (pt_val (pe_callB (id := "all") (r := rAll K) (cr_all rfl) (by rfl) B.all (by decide +kernel) (pa_cons (pe_lc2 (own := [("i", 4), ("j", 5)]) (vs1 := [5]) (g := gName 4) (g1 := gName 5) (tt := tYes) (tt1 := tYes) (by rfl) sc.nd (pi_range1 rfl B.range (pa_cons (pv 1) pa_nil)) (blkOk_by (own := [("i", 4), ("j", 5)]) (N := N_is_small_and_even) (sc := defScope s_is_small_and_even) (by decide +kernel)) (by decide) (fun _ _ _ _ _ => (pg_name (i := 4) sc.nd rfl (Or.inl rfl))) (fun _ _ _ _ _ => pts_nil) (fun _ _ _ _ _ => (pi_range1 rfl B.range (pa_cons (pv 4) pa_nil))) (fun _ _ _ _ _ => (pg_name (i := 5) sc.nd rfl (Or.inl rfl))) (fun _ _ _ _ _ => pts_nil) (fun _ _ _ _ _ => (pe_cmpR op_eq (pe_ix (show IxR _ (rIx K) from ix_seq) (pe_ix (show IxR _ (rIx K) from ix_seq) (pv 0) (pv 4) (fun _ _ => rfl)) (pv 5) (fun _ _ => rfl)) (pe_ix (show IxR _ (rIx K) from ix_seq) (pe_ix (show IxR _ (rIx K) from ix_seq) (pv 0) (pv 5) (fun _ _ => rfl)) (pv 4) (fun _ _ => rfl)) (nomark _)))) pa_nil))))
      (pss_one (ps_ret pe_bl))
      pss_nil)
      (pss_one (ps_ret (pe_callB (id := "all") (r := rAll K) (cr_all rfl) (by rfl) B.all (by decide +kernel) (pa_cons (pe_lc (own := [("i", 4)]) (g := gName 4) (tt := tYes) (by rfl) sc.nd (pi_range1 rfl B.range (pa_cons (pv 1) pa_nil)) (blkOk_by (own := [("i", 4)]) (N := N_is_small_and_even) (sc := defScope s_is_small_and_even) (by decide +kernel)) (fun _ _ _ _ _ => (pg_name (i := 4) sc.nd rfl (Or.inl rfl))) (fun _ _ _ _ _ => pts_nil) (fun _ _ _ _ _ => (pe_cmpR op_eq (pe_op op_mod (pe_ix (show IxR _ (rIx K) from ix_seq) (pe_ix (show IxR _ (rIx K) from ix_seq) (pv 0) (pv 4) (fun _ _ => rfl)) (pv 4) (fun _ _ => rfl)) pe_int) pe_int (nomark _)))) pa_nil))))))), ?_⟩
  obtain ⟨ws, ht, tws⟩ := id hT
  have lw := tws.len
  have rl : ∀ i, i < m → (rows.getD i []).length = m := fun i hi => by
    refine lr _ ?_
    rw [List.getD_eq_getElem?_getD, List.getElem?_eq_getElem (by omega)]
    exact List.getElem_mem _
  have push : ∀ {H3 H5 : Hp} {D : Addr} {bs cs : List Bool} {b : Bool}, H3 D = none → Same H3 H5 → H5 D = some (.lst (bs.map V.bl)) → bs.length ≤ 400 → cs = bs ++ [b] → ∃ acc, H5 D = some (.lst acc) ∧ acc.length < sizeLine ∧ Same H3 (upd H5 D (.lst (acc ++ [V.bl b]))) ∧ (upd H5 D (.lst (acc ++ [V.bl b]))) D = some (.lst (cs.map V.bl)) := by
    intro H3 H5 D bs cs b hD s5 h5 hc hb
    subst hb
    refine ⟨_, h5, ?_, fun b o e => ?_, ?_⟩
    · rw [List.length_map]
      exact Nat.lt_of_le_of_lt hc (by decide)
    · rw [upd_ne (ne_of_none e hD)]
      exact s5 _ _ e
    · rw [upd_same, List.map_append]
      rfl
  refine ⟨_, rfl, t, _, rfl, .inr (SqT.of ht), ?_⟩
  rw [show ((ws.length : Nat) : Int) = (m : Int) by omega]
  refine ⟨_, rfl, t, rfl, ⟨_, SqT.of ht⟩, fun D1 hD1 => ?_⟩
  refine lcF (walk_tup (K := K) (a := t) (xs := ws)) (fun i H' => Same H H' ∧ (rngB (rows.take i)).length ≤ 8 * i ∧ H' D1 = some (.lst ((rngB (rows.take i)).map V.bl))) ⟨Same.upd_new hD1, Nat.zero_le _, upd_same⟩ (fun i H' _ ⟨z, _⟩ => SqT.of (z _ _ ht)) ?_ ?_
  · rintro i x H3 H4 hi ⟨s3, hc, h3⟩ ⟨rfl, hx⟩
    obtain ⟨a, r, rfl, hr1, ha⟩ := tws.get hx
    have rm := List.mem_of_getElem? hr1
    have lc := lr r rm
    have ha3 := s3 _ _ ha
    have ll : (r.map V.int).length = r.length := List.length_map ..
    have i8 : i < 9 := by have := (List.getElem?_eq_some_iff.mp hx).1; omega
    refine ⟨rfl, _, rfl, a, rfl, ⟨_, SqT.of ha3⟩, ?_⟩
    refine lcF (walk_tup (K := K) (a := a) (xs := r.map V.int)) (fun j H' => Same H H' ∧ H' D1 = some (.lst ((rngB (rows.take i) ++ (r.take j).map rng1).map V.bl))) ⟨s3, by rw [List.take_zero, List.map_nil, List.append_nil]; exact h3⟩ (fun j H' _ ⟨z, _⟩ => SqT.of (z _ _ ha)) ?_ ?_
    · rintro j y H5 H6 hj ⟨s5, h5⟩ ⟨rfl, hy⟩
      obtain ⟨z, rfl, hz⟩ := int_at hy
      have hj' : j < r.length := by rw [← ll]; exact hj
      dsimp only [gName]
      refine ⟨rfl, _, rfl, _, rfl, z, -100, 100, rfl, trivial, ?_⟩
      refine push hD1 s5 h5 ?_ ?_
      · rw [List.length_append, List.length_map, List.length_take]
        omega
      · rw [take_snocA hz, List.map_append, List.append_assoc]
        rfl
    · rintro H5 ⟨s5, h5⟩
      have e2 : rngB (rows.take (i + 1)) = rngB (rows.take i) ++ r.map rng1 := by
        unfold rngB
        rw [take_snocA hr1, List.flatMap_append]
        show _ ++ (r.map rng1 ++ []) = _
        rw [List.append_nil]
      rw [ll, List.take_length] at h5
      exact ⟨s5, by rw [e2, List.length_append, List.length_map]; omega, by rw [e2]; exact h5⟩
  rintro H2 ⟨s2, _, h2⟩
  rw [lw, List.take_length] at h2
  refine ⟨D1, _, rfl, SqL.of h2, ?_⟩
  have eq0 : smallEven rows m = ((rngB rows).all id && ((symB rows m).all id && (evnB rows m).all id)) := rfl
  rw [eq0] at q
  cases hb1 : (rngB rows).all id with
  | false =>
    rw [hb1, Bool.false_and] at q
    exact ⟨false, rfl, iteT (q _ s2)⟩
  | true =>
  rw [hb1, Bool.true_and] at q
  refine ⟨true, rfl, iteF ?_⟩
  dsimp only [tNext]
  have hT2 := hT.same s2
  refine ⟨_, rfl, _, rfl, by omega, by omega, fun D2 hD2 => ?_⟩
  refine lcF (walk_range (lo := 0) (n := Int.toNat (m : Int))) (fun i H' => Same H2 H' ∧ (symB rows i).length ≤ 8 * i ∧ H' D2 = some (.lst ((symB rows i).map V.bl))) ⟨Same.upd_new hD2, Nat.zero_le _, upd_same⟩ (fun _ _ _ _ => trivial) ?_ ?_
  · rintro i x H3 H4 hi ⟨s3, hc, h3⟩ ⟨rfl, rfl⟩
    show gName 4 (V.int (0 + (i : Int))) _ _ _
    rw [Int.zero_add]
    have im : i < m := by omega
    refine ⟨rfl, _, rfl, _, rfl, by omega, by omega, ?_⟩
    refine lcF (walk_range (lo := 0) (n := Int.toNat (i : Int))) (fun j H' => Same H2 H' ∧ H' D2 = some (.lst ((symB rows i ++ (List.range j).map fun j => decide (ent rows i j = ent rows j i)).map V.bl))) ⟨s3, by rw [List.range_zero, List.map_nil, List.append_nil]; exact h3⟩ (fun _ _ _ _ => trivial) ?_ ?_
    · rintro j y H5 H6 hj ⟨s5, h5⟩ ⟨rfl, rfl⟩
      have jm : j < m := by omega
      dsimp only [gName]
      rw [Int.zero_add]
      have hT5 := hT2.same s5
      refine ⟨rfl, _, rfl, _, rfl, row_at hT5 lm im fun c1 hc1 => ⟨_, rfl, ent_of hc1 (by rw [rl i im]; exact jm) ⟨_, rfl, _, rfl, row_at hT5 lm jm fun c2 hc2 => ⟨_, rfl, ent_of hc2 (by rw [rl j jm]; exact im) ⟨rfl, ?_⟩⟩⟩⟩⟩
      refine push hD2 s5 h5 ?_ ?_
      · rw [List.length_append, List.length_map, List.length_range]
        omega
      · rw [List.range_succ, List.map_append, List.append_assoc]
        congr 2
        show [_] = [_]
        congr 1
        exact decide_eq_decide.mpr ⟨fun h => congrArg V.int h, fun h => V.int.inj h⟩
    · rintro H5 ⟨s5, h5⟩
      have e2 : symB rows (i + 1) = symB rows i ++ (List.range i).map fun j => decide (ent rows i j = ent rows j i) := by
        unfold symB
        rw [List.range_succ, List.flatMap_append]
        show _ ++ ((List.range i).map (fun j => decide (ent rows i j = ent rows j i)) ++ []) = _
        rw [List.append_nil]
      exact ⟨s5, by rw [e2, List.length_append, List.length_map, List.length_range]; omega, by rw [e2]; exact h5⟩
  rintro H3 ⟨s3, _, h3⟩
  refine ⟨D2, _, rfl, SqL.of h3, ?_⟩
  rw [Int.toNat_natCast]
  cases hb2 : (symB rows m).all id with
  | false =>
    rw [hb2, Bool.false_and] at q
    exact ⟨false, rfl, iteT (q _ (s2.trans s3))⟩
  | true =>
  rw [hb2, Bool.true_and] at q
  refine ⟨true, rfl, iteF ?_⟩
  dsimp only [tNext]
  have hT3 := hT2.same s3
  refine ⟨_, rfl, _, rfl, by omega, by omega, fun D3 hD3 => ?_⟩
  refine lc_range (lo := 0) (n := Int.toNat (m : Int)) (fun i H' => Same H3 H' ∧ H' D3 = some (.lst ((evnB rows i).map V.bl))) ⟨Same.upd_new hD3, upd_same⟩ ?_ ?_
  · rintro i H5 hi ⟨s5, h5⟩
    have im : i < m := by omega
    dsimp only [gName]
    rw [Int.zero_add]
    have hT5 := hT3.same s5
    refine ⟨rfl, _, rfl, _, rfl, row_at hT5 lm im fun c1 hc1 => ⟨_, rfl, ent_of hc1 (by rw [rl i im]; exact im) ⟨_, _, rfl, rfl, (by show (0 : Int) < 2; decide), rfl, ?_⟩⟩⟩
    refine push hD3 s5 h5 ?_ ?_
    · unfold evnB
      rw [List.length_map, List.length_range]
      omega
    · unfold evnB
      rw [List.range_succ, List.map_append]
      congr 1
      show [_] = [_]
      congr 1
      exact decide_eq_decide.mpr ⟨fun h => congrArg V.int h, fun h => V.int.inj h⟩
  rintro H5 ⟨s5, h5⟩
  refine ⟨D3, _, rfl, SqL.of h5, ?_⟩
  rw [Int.toNat_natCast]
  exact q _ (s2.trans (s3.trans s5))
end
end Ft

set_option exponentiation.threshold 9000
set_option maxHeartbeats 1000000
namespace Ft
open PySem L2
/-- the program's SIZES -/
structure Sz (K : PySem.W.Frag) (mg : Str → Option Value) : Prop where
  ex : ∃ a, mg "SIZES" = some (.ref a) ∧ ∀ H, SqT K H a [.int 2, .int 4, .int 6, .int 8]
def inSz (n : Nat) : Bool := decide (n = 2) || (decide (n = 4) || (decide (n = 6) || decide (n = 8)))
theorem inSz_eq (n : Nat) : inV (V.int (n : Int)) [.int 2, .int 4, .int 6, .int 8] = inSz n := by
  show (((2 : Int) == (n : Int)) || (((4 : Int) == (n : Int)) || (((6 : Int) == (n : Int)) || (((8 : Int) == (n : Int)) || false)))) = _
  have e : ∀ k : Nat, (((k : Nat) : Int) == (n : Int)) = decide (n = k) := fun k => by
    by_cases h : n = k
    · rw [decide_eq_true h, h]; exact beq_self_eq_true _
    · rw [decide_eq_false h]; exact beq_eq_false_iff_ne.mpr (by omega)
  unfold inSz
  rw [show (2 : Int) = ((2 : Nat) : Int) from rfl, show (4 : Int) = ((4 : Nat) : Int) from rfl, show (6 : Int) = ((6 : Nat) : Int) from rfl, show (8 : Int) = ((8 : Nat) : Int) from rfl, e, e, e, e, Bool.or_false]
theorem inSz_le {n : Nat} (h : inSz n = true) : 2 ≤ n ∧ n ≤ 8 := by
  unfold inSz at h
  simp only [Bool.or_eq_true, decide_eq_true_eq] at h
  omega
def intV : PyData → Int
  | .int z => z
  | _ => 0
def rowV : PyData → List Int
  | .tuple es => es.map intV
  | _ => []
def rowsV (ds : List PyData) : List (List Int) := ds.map rowV
def formD : PyData → Bool
  | .tuple ds => inSz ds.length && (tabD ds.length (.tuple ds) && (smallEven (rowsV ds) ds.length && decide ((minGo ds.length (rowsV ds) 1).length = ds.length)))
  | _ => false
theorem ints_dq {H : Hp} {N : Addr → Prop} : ∀ {us : List V} {es : List PyData}, DqAll H N us es → (es.map isIntD).all id = true → us = (es.map intV).map V.int
  | _, _, .nil, _ => rfl
  | _, _, .cons (d := d) a t, h => by
    rw [List.map_cons, List.all_cons, Bool.and_eq_true] at h
    have e := ints_dq t h.2
    have h1 : isIntD d = true := h.1
    cases a with
    | int z => rw [e]; rfl
    | non => cases h1
    | bl b => cases h1
    | str x => cases h1
    | lst _ _ _ => cases h1
    | tup _ _ _ => cases h1
    | dict _ _ _ _ => cases h1
theorem tab_rows {m : Nat} {ds : List PyData} (h : tabD m (.tuple ds) = true) : (rowsV ds).length = m ∧ ∀ r ∈ rowsV ds, r.length = m := by
  have et : tabD m (.tuple ds) = (decide (ds.length = m) && (ds.all (rowD m) && ds.all fun d => (entD d).all id)) := rfl
  rw [et, Bool.and_eq_true, Bool.and_eq_true] at h
  refine ⟨by unfold rowsV; rw [List.length_map]; exact of_decide_eq_true h.1, fun r hr => ?_⟩
  obtain ⟨d, hd, rfl⟩ := List.mem_map.mp hr
  have r0 := List.all_eq_true.mp h.2.1 d hd
  cases d with
  | tuple es => rw [show rowV (.tuple es) = es.map intV from rfl, List.length_map]; exact of_decide_eq_true r0
  | int _ => cases r0
  | str _ => cases r0
  | none => cases r0
  | bool _ => cases r0
  | list _ => cases r0
  | dict _ => cases r0
theorem tts_dq {H : Hp} {N : Addr → Prop} {m : Nat} : ∀ {ws : List V} {ds : List PyData}, DqAll H N ws ds → ds.all (rowD m) = true → (ds.all fun d => (entD d).all id) = true → Tts H ws (rowsV ds)
  | _, _, .nil, _, _ => .nil
  | _, _, .cons (d := d) a t, h1, h2 => by
    rw [List.all_cons, Bool.and_eq_true] at h1 h2
    have ih := tts_dq t h1.2 h2.2
    have r0 := h1.1
    obtain ⟨es, rfl⟩ : ∃ es, d = .tuple es := by cases d <;> first | exact ⟨_, rfl⟩ | cases r0
    obtain ⟨c, us, rfl, _, rc, hu⟩ := a.tup_inv
    have e := ints_dq hu h2.1
    subst e
    exact .cons (by cases rc; assumption) ih
theorem tab_T {H : Hp} {N : Addr → Prop} {m : Nat} {ds : List PyData} {v : V} (hd : Dq H N v (.tuple ds)) (h : tabD m (.tuple ds) = true) : ∃ t, v = .ref t ∧ TabT H t (rowsV ds) := by
  have et : tabD m (.tuple ds) = (decide (ds.length = m) && (ds.all (rowD m) && ds.all fun d => (entD d).all id)) := rfl
  rw [et, Bool.and_eq_true, Bool.and_eq_true] at h
  obtain ⟨t, ws, rfl, nt, rt, hx⟩ := hd.tup_inv
  exact ⟨t, rfl, ws, by cases rt; assumption, tts_dq hx h.2.1 h.2.2⟩
theorem rng_le {rows : List (List Int)} (h : (rngB rows).all id = true) : ∀ r ∈ rows, ∀ x ∈ r, x.natAbs ≤ 100 := fun r hr x hx => by
  have := List.all_eq_true.mp h (rng1 x) (List.mem_flatMap.mpr ⟨r, hr, List.mem_map_of_mem hx⟩)
  have := Bool.and_eq_true_iff.mp (show (decide (-100 ≤ x) && decide (x ≤ 100)) = true from this)
  have a := of_decide_eq_true this.1
  have b := of_decide_eq_true this.2
  omega
def sp_formQ : Sp := fun vs H Q _ => ∃ v D N, vs = [v] ∧ Dq H N v D ∧ ∀ H', Same H H' → Q (.bl (formD D)) H'
section
variable {P : Program} {w : World} {K : PySem.W.Frag} {mg : Str → Option Value} {base : Heap}
theorem fn_formQ {f : Addr} {fd : FuncData} (F : Fun K "is_form" "is_form" s_is_form f fd) (B : Bi mg) (S : Sz K mg) (c_is_table_of_integers : Cal P w K mg base 2 "is_table_of_integers" sp_tabQ) (c_stair : Cal P w K mg base 2 "stair" sp_stairT) (c_is_small_and_even : Cal P w K mg base 3 "is_small_and_even" sp_evenQ) : FnOk P w K mg base CX0 4 f fd ["thing"] sp_formQ := by
  have sc := sc_is_form
  obtain ⟨za, hz, sz⟩ := S.ex
  refine F.ok sc (fun _ _ _ _ ⟨_, _, _, e, _⟩ => by rw [e]; rfl) (fun cdv A outer s H vs Q E hr h => ?_)
  obtain ⟨v, D, N, rfl, hd, q⟩ := h
  refine ⟨_, (pss_cons (ps_if (PW.pt (pw_or (pt_not (pt_val (pe_callB (id := "isinstance") (r := rIsi K) call_isi (by rfl) B.isinstance (by decide +kernel) (pa_cons (pv 0) (pa_cons (pe_ty (n := "tuple") (by rfl) B.tuple (by decide +kernel)) pa_nil))))) (pw_or (pt_cmpR op_notIn_seq (pe_callB call_len_seq (by rfl) B.len_ (by decide +kernel) (pa_cons (pv 0) pa_nil)) (pe_glob (v := .ref za) (by rfl) hz rfl) (by rfl)) (pw_or1 (pt_not (pt_val (pe_c c_is_table_of_integers hr (by decide) (by rfl) (pa_cons (pv 0) (pa_cons (pe_callB call_len_seq (by rfl) B.len_ (by decide +kernel) (pa_cons (pv 0) pa_nil)) pa_nil)))))))))
      (pss_one (ps_ret pe_bl))
      pss_nil)
      (pss_one (ps_ret (pe_and (pe_c c_is_small_and_even hr (by decide) (by rfl) (pa_cons (pv 0) pa_nil)) (pe_one (pe_cmpR op_eq (pe_callB call_len_seq (by rfl) B.len_ (by decide +kernel) (pa_cons (pe_c c_stair hr (by decide) (by rfl) (pa_cons (pv 0) pa_nil)) pa_nil)) (pe_callB call_len_seq (by rfl) B.len_ (by decide +kernel) (pa_cons (pv 0) pa_nil)) (nomark _))))))), ?_⟩
  refine ⟨_, rfl, _, _, _, _, isTupD D, rfl, .ty _, hd.ty, kit_tupD D, _, rfl, ?_⟩
  cases hT : isTupD D with
  | false =>
    have e : formD D = false := by cases D <;> first | rfl | cases hT
    rw [e] at q
    exact iteT (iteT (q _ (Same.refl _)))
  | true =>
  obtain ⟨ds, rfl⟩ := tup_of hT
  obtain ⟨t, ws, rfl, nt, rt, hx⟩ := id hd.tup_inv
  have ht : H t = some (.tup ws) := by cases rt; assumption
  have lw := hx.length
  have eq0 : formD (.tuple ds) = (inSz ds.length && (tabD ds.length (.tuple ds) && (smallEven (rowsV ds) ds.length && decide ((minGo ds.length (rowsV ds) 1).length = ds.length)))) := rfl
  rw [eq0] at q
  refine iteF ⟨_, rfl, t, _, rfl, .inr (SqT.of ht), za, _, rfl, .inr (sz _), rfl, rfl, ?_⟩
  rw [lw, inSz_eq]
  cases hz1 : inSz ds.length with
  | false =>
    rw [hz1, Bool.false_and] at q
    exact ⟨_, rfl, iteT (iteT (q _ (Same.refl _)))⟩
  | true =>
  rw [hz1, Bool.true_and] at q
  obtain ⟨m2, m8⟩ := inSz_le hz1
  refine ⟨_, rfl, iteF ?_⟩
  refine ⟨_, rfl, _, rfl, t, _, rfl, .inr (SqT.of ht), ?_⟩
  rw [lw]
  refine ⟨.ref t, .tuple ds, N, ds.length, rfl, hd, m8, fun H1 s1 => ⟨_, rfl, ?_⟩⟩
  cases ht1 : tabD ds.length (.tuple ds) with
  | false =>
    rw [ht1, Bool.false_and] at q
    exact iteT (q _ s1)
  | true =>
  rw [ht1, Bool.true_and] at q
  obtain ⟨lm, lr⟩ := tab_rows ht1
  obtain ⟨t', et, hTb⟩ := tab_T hd ht1
  cases et
  refine iteF ?_
  dsimp only [tNext]
  refine ⟨_, rfl, t, rowsV ds, ds.length, rfl, hTb.same s1, lm, lr, m8, fun H2 s2 => ⟨_, rfl, ?_⟩⟩
  have s02 := s1.trans s2
  cases hev : smallEven (rowsV ds) ds.length with
  | false =>
    rw [hev, Bool.false_and] at q
    exact iteF (q _ s02)
  | true =>
  rw [hev, Bool.true_and] at q
  have hev' : ((rngB (rowsV ds)).all id && ((symB (rowsV ds) ds.length).all id && (evnB (rowsV ds) ds.length).all id)) = true := hev
  have hx1 := rng_le (Bool.and_eq_true_iff.mp hev').1
  have sqr : Sq_ (rowsV ds).length (rowsV ds) := fun r hr => by rw [lm]; exact lr r hr
  obtain ⟨ws2, ht2, tws⟩ := hTb.same s02
  refine iteT ⟨_, rfl, t, ws2, rowsV ds, rfl, ht2, tws.rns, stok_small (by omega) sqr hx1, (by omega), fun H3 Dd dv s3 hD td => ⟨Dd, dv, rfl, .inl (SqL.of hD), _, rfl, t, ws2, rfl, .inr (SqT.of (s3 _ _ ht2)), rfl, ?_⟩⟩
  rw [decI, td.len, tws.len, stairL_len sqr, lm]
  exact q _ (s02.trans s3)
end
end Ft

set_option exponentiation.threshold 9000
set_option maxHeartbeats 1000000
namespace Ft
open PySem L2
theorem up19 {z : Int} (h : z.natAbs < 2 ^ 1900) : z.natAbs < 2 ^ 8000 := Nat.lt_trans h (Nat.pow_lt_pow_right (by decide) (by decide))
def qT (rows : List (List Int)) (xs : List Int) (i j : Nat) : Int := xs.getD i 0 * ent rows i j * xs.getD j 0
def qL (rows : List (List Int)) (xs : List Int) (m : Nat) : Nat → List Int
  | 0 => []
  | i + 1 => qL rows xs m i ++ (List.range m).map (qT rows xs i)
theorem qL_len (rows : List (List Int)) (xs : List Int) (m : Nat) : ∀ i, (qL rows xs m i).length = m * i
  | 0 => rfl
  | i + 1 => by rw [qL, List.length_append, qL_len rows xs m i, List.length_map, List.length_range, Nat.mul_succ]
theorem getD_memI {ts : List Int} {i : Nat} (h : i < ts.length) : ts.getD i 0 ∈ ts := by
  rw [List.getD_eq_getElem?_getD, List.getElem?_eq_getElem h]
  exact List.getElem_mem h
theorem range_sum (f : Nat → Int) : ∀ n, ((List.range n).map f).sum = sm n f
  | 0 => rfl
  | n + 1 => by
    rw [List.range_succ, List.map_append, List.sum_append, range_sum f n]
    show _ + (f n + 0) = _
    rw [Int.add_zero]
    rfl
theorem qL_sum (rows : List (List Int)) (xs : List Int) (m : Nat) : ∀ i, (qL rows xs m i).sum = sm i fun i => sm m fun j => tb rows i j * (xs.getD i 0 * xs.getD j 0)
  | 0 => rfl
  | i + 1 => by
    rw [qL, List.sum_append, qL_sum rows xs m i, range_sum]
    show _ + _ = sm i _ + _
    congr 1
    refine sm_congr fun j _ => ?_
    unfold qT
    show xs.getD i 0 * tb rows i j * xs.getD j 0 = _
    rw [Int.mul_comm (xs.getD i 0), Int.mul_assoc]
/-- what a form tells of unknowns -/
def valV (m : Nat) (rows : List (List Int)) (xs : List Int) : Int := qf m (tb rows) (fun i => xs.getD i 0) / 2
theorem qL_val (rows : List (List Int)) (xs : List Int) (m : Nat) : (qL rows xs m m).sum / 2 = valV m rows xs := by rw [qL_sum]; rfl
def lenD : PyData → Nat
  | .tuple ds => ds.length
  | _ => 0
theorem formD_tup {D : PyData} (h : formD D = true) : ∃ ds, D = .tuple ds ∧ inSz ds.length = true ∧ tabD ds.length (.tuple ds) = true ∧ smallEven (rowsV ds) ds.length = true ∧ (minGo ds.length (rowsV ds) 1).length = ds.length := by
  cases D with
  | tuple ds =>
    have eq0 : formD (.tuple ds) = (inSz ds.length && (tabD ds.length (.tuple ds) && (smallEven (rowsV ds) ds.length && decide ((minGo ds.length (rowsV ds) 1).length = ds.length)))) := rfl
    rw [eq0] at h
    simp only [Bool.and_eq_true, decide_eq_true_eq] at h
    exact ⟨ds, rfl, h.1, h.2.1, h.2.2.1, h.2.2.2⟩
  | int _ => cases h
  | str _ => cases h
  | none => cases h
  | bool _ => cases h
  | list _ => cases h
  | dict _ => cases h
def smallI (d : PyData) : Prop := ∀ ds z, d = .tuple ds → PyData.int z ∈ ds → z.natAbs < 2 ^ 1900
def sp_ckFormQ (C : Addr) : Sp := fun vs H Q E => ∃ v D N, vs = [v] ∧ Dq H N v D ∧ (formD D = true → ∀ H', Same H H' → Q .non H') ∧ (formD D = false → Rz E C "thing" v H)
def sp_valQ (C0 C1 : Addr) : Sp := fun vs H Q E => ∃ v u D X N M, vs = [v, u] ∧ Dq H N v D ∧ Dq H M u X ∧ smallI X ∧ (formD D = false → Rz E C0 "thing" v H) ∧ (formD D = true → intsD (lenD D) X = false → Rz E C1 "thing" u H) ∧ ∀ ds es, D = .tuple ds → X = .tuple es → formD D = true → intsD ds.length X = true → ∀ H', Same H H' → Q (.int (valV ds.length (rowsV ds) (es.map intV))) H'
section
variable {P : Program} {w : World} {K : PySem.W.Frag} {mg : Str → Option Value} {base : Heap}
theorem cx_checkFormQ {C : Addr} (D : Df K mg "check_form" s_check_form ["form"]) (T : Err P w K mg base "BadForm" C "thing") (c_is_form : Cal P w K mg base 4 "is_form" sp_formQ) : CalX P w K mg base 5 "check_form" (sp_ckFormQ C) := by
  obtain ⟨f, fd, F, m, b⟩ := D.ex
  have sc := sc_check_form
  refine ⟨f, fd, _, F.okX sc (fun _ _ _ _ ⟨_, _, _, e, _⟩ => by rw [e]; rfl) (fun cdv A outer s H vs Q E hr h => ?_), m, F.kp, b⟩
  obtain ⟨v, D, N, rfl, hd, q1, q2⟩ := h
  refine ⟨_, (pss_one (ps_if (pt_not (pt_val (pe_c c_is_form hr (by decide) (by rfl) (pa_cons (pv 0) pa_nil))))
      (pss_one (ps_raise rfl (takes_of rfl rfl rfl rfl) (pmk_err T hr (by decide) (by rfl) (pa_cons (pv 0) pa_nil))))
      pss_nil)), ?_⟩
  refine ⟨_, rfl, v, D, N, rfl, hd, fun H1 s1 => ⟨_, rfl, ?_⟩⟩
  cases hf : formD D with
  | true => exact iteF (q1 hf _ s1)
  | false => exact iteT ⟨_, rfl, v, rfl, fun d hd => q2 hf _ _ s1 hd⟩
theorem fx_valueQ {f : Addr} {fd : FuncData} {C0 C1 : Addr} (F : Fun K "value_at" "value_at" s_value_at f fd) (B : Bi mg) (T : Err P w K mg base "BadRow" C1 "thing") (x_check_form : CalX P w K mg base 5 "check_form" (sp_ckFormQ C0)) (c_is_integer : Cal P w K mg base 1 "is_integer" sp_isIntQ) : FnOk P w K mg base (L2.CX P w) 6 f fd ["form", "x"] (sp_valQ C0 C1) := by
  have sc := sc_value_at
  refine F.okX sc (fun _ _ _ _ ⟨_, _, _, _, _, _, e, _⟩ => by rw [e]; rfl) (fun cdv A outer s H vs Q E hr h => ?_)
  obtain ⟨v, u, D, X, N, M, rfl, hd, hx, sX, r0, r1, q⟩ := h
  refine ⟨_, (pss_cons (ps_expr (pe_x x_check_form hr (by decide) (by rfl) (passes_call (takes_of rfl rfl rfl rfl) fun _ _ _ _ h => h) (pa_cons (pv 0) pa_nil)))
      (pss_cons (ps_set (i := 2) sc.nd rfl (Or.inr rfl) (pe_callB call_len_seq (by rfl) B.len_ (by decide +kernel) (pa_cons (pv 0) pa_nil)))
      (pss_cons (ps_if (PW.pt (pw_or (pt_not (pt_val (pe_callB (id := "isinstance") (r := rIsi K) call_isi (by rfl) B.isinstance (by decide +kernel) (pa_cons (pv 1) (pa_cons (pe_ty (n := "tuple") (by rfl) B.tuple (by decide +kernel)) pa_nil))))) (pw_or (pt_cmpR op_ne (pe_callB call_len_seq (by rfl) B.len_ (by decide +kernel) (pa_cons (pv 1) pa_nil)) (pv 2) (nomark _)) (pw_or1 (pt_not (pt_val (pe_callB (id := "all") (r := rAll K) (cr_all rfl) (by rfl) B.all (by decide +kernel) (pa_cons (pe_lc (own := [("unknown", 3)]) (g := gName 3) (tt := tYes) (by rfl) sc.nd (pi_tup (pv 1)) (blkOk_by (own := [("unknown", 3)]) (N := N_value_at) (sc := defScope s_value_at) (by decide +kernel)) (fun _ _ _ _ _ => (pg_name (i := 3) sc.nd rfl (Or.inl rfl))) (fun _ _ _ _ _ => pts_nil) (fun _ _ _ _ _ => (pe_c c_is_integer hr (by decide) (by rfl) (pa_cons (pv 3) pa_nil)))) pa_nil))))))))
      (pss_one (ps_raise rfl (takes_of rfl rfl rfl rfl) (pmk_err T hr (by decide) (by rfl) (pa_cons (pv 1) pa_nil))))
      pss_nil)
      (pss_one (ps_ret (pe_op op_fdivW (pe_callB (id := "sum") (r := rSum K) (cr_sum rfl) (by rfl) B.sum (by decide +kernel) (pa_cons (pe_lc2 (own := [("i", 4), ("j", 5)]) (vs1 := [5]) (g := gName 4) (g1 := gName 5) (tt := tYes) (tt1 := tYes) (by rfl) sc.nd (pi_range1 rfl B.range (pa_cons (pv 2) pa_nil)) (blkOk_by (own := [("i", 4), ("j", 5)]) (N := N_value_at) (sc := defScope s_value_at) (by decide +kernel)) (by decide) (fun _ _ _ _ _ => (pg_name (i := 4) sc.nd rfl (Or.inl rfl))) (fun _ _ _ _ _ => pts_nil) (fun _ _ _ _ _ => (pi_range1 rfl B.range (pa_cons (pv 2) pa_nil))) (fun _ _ _ _ _ => (pg_name (i := 5) sc.nd rfl (Or.inl rfl))) (fun _ _ _ _ _ => pts_nil) (fun _ _ _ _ _ => (pe_op op_mulW (pe_op op_mulW (pe_ix (show IxR _ (rIx K) from ix_seq) (pv 1) (pv 4) (fun _ _ => rfl)) (pe_ix (show IxR _ (rIx K) from ix_seq) (pe_ix (show IxR _ (rIx K) from ix_seq) (pv 0) (pv 4) (fun _ _ => rfl)) (pv 5) (fun _ _ => rfl))) (pe_ix (show IxR _ (rIx K) from ix_seq) (pv 1) (pv 5) (fun _ _ => rfl))))) pa_nil)) pe_int)))))), ?_⟩
  refine ⟨_, rfl, v, D, N, rfl, hd, (fun hf H1 s1 => ?_), r0⟩
  obtain ⟨ds, rfl, hz1, ht1, hev, hmin⟩ := formD_tup hf
  obtain ⟨m2, m8⟩ := inSz_le hz1
  obtain ⟨lm, lr⟩ := tab_rows ht1
  obtain ⟨t, rfl, hT⟩ := tab_T hd ht1
  obtain ⟨ws, ht, tws⟩ := id hT
  have lw := tws.len
  have r1' := r1 hf
  replace r1 : intsD ds.length X = false → Rz E C1 "thing" u H := r1'
  have q' := fun es e2 hi => q ds es rfl e2 hf hi
  generalize hm : ds.length = m at m2 m8 lm lr r1 q' ht1 hev
  generalize hrw : rowsV ds = rows at lm lr hT tws lw q' hev
  have rl : ∀ i, i < m → (rows.getD i []).length = m := fun i hi => by
    refine lr _ ?_
    rw [List.getD_eq_getElem?_getD, List.getElem?_eq_getElem (by omega)]
    exact List.getElem_mem _
  refine ⟨_, rfl, t, _, rfl, .inr (SqT.of (s1 _ _ ht)), ?_⟩
  rw [show ((ws.length : Nat) : Int) = (m : Int) by omega]
  dsimp only [gName]
  have hx1 := hx.same s1
  refine ⟨_, rfl, _, _, _, _, isTupD X, rfl, .ty _, hx1.ty, kit_tupD X, _, rfl, ?_⟩
  cases hTx : isTupD X with
  | false =>
    have e : intsD m X = false := by cases X <;> first | rfl | cases hTx
    exact iteT (iteT ⟨_, rfl, u, rfl, fun d hd => r1 e _ _ s1 hd⟩)
  | true =>
  obtain ⟨es, rfl⟩ := tup_of hTx
  obtain ⟨p, us, rfl, np, rp, hu⟩ := hx1.tup_inv
  have hp1 : H1 p = some (.tup us) := by cases rp; assumption
  have lu := hu.length
  have ei : intsD m (.tuple es) = (decide (es.length = m) && es.all isIntD) := rfl
  rw [ei] at r1
  refine iteF ⟨_, rfl, p, _, rfl, .inr (SqT.of hp1), _, rfl, rfl, _, rfl, ?_⟩
  rw [decI, lu]
  by_cases hl : es.length = m
  case neg =>
    rw [decide_eq_false hl, Bool.false_and] at r1
    rw [decide_eq_false hl]
    exact iteT (iteT ⟨_, rfl, _, rfl, fun d hd => r1 rfl _ _ s1 hd⟩)
  rw [decide_eq_true hl, Bool.true_and] at r1
  rw [decide_eq_true hl]
  refine iteF ⟨_, rfl, p, rfl, ⟨_, SqT.of hp1⟩, fun D1 hD1 => ?_⟩
  refine lc_tup (K := K) (a := p) (xs := us) (fun i H' => Same H1 H' ∧ H' D1 = some (.lst (((es.take i).map isIntD).map V.bl))) ⟨Same.upd_new hD1, upd_same⟩ (fun i H' _ ⟨z, _⟩ => SqT.of (z _ _ hp1)) ?_ ?_
  · rintro i y H5 hy ⟨s5, h5⟩
    obtain ⟨e0, he0, dy⟩ := dq_of hu hy
    have hi : i < 9 := by have := (List.getElem?_eq_some_iff.mp hy).1; omega
    refine ⟨rfl, _, rfl, y, e0, M, rfl, dy.same s5, _, h5, ?_, fun b o e => ?_, ?_⟩
    · rw [List.length_map, List.length_map, List.length_take]
      exact Nat.lt_of_le_of_lt (by omega : _ ≤ 400) (by decide)
    · rw [upd_ne (ne_of_none e hD1)]
      exact s5 _ _ e
    · rw [upd_same, take_snocA he0, List.map_append, List.map_append]
      rfl
  rintro H2 ⟨s2, h2⟩
  rw [lu, List.take_length] at h2
  refine ⟨D1, _, rfl, SqL.of h2, ?_⟩
  have s02 := s1.trans s2
  have ea : (es.map isIntD).all id = es.all isIntD := by rw [List.all_map]; rfl
  cases hal : (es.map isIntD).all id with
  | false =>
    rw [← ea, hal] at r1
    exact ⟨false, rfl, iteT ⟨_, rfl, _, rfl, fun d hd => r1 rfl _ _ s02 hd⟩⟩
  | true =>
  refine ⟨true, rfl, iteF ?_⟩
  dsimp only [tNext]
  have eus := ints_dq hu hal
  have q2 := q' es rfl (by rw [ei, decide_eq_true hl, ← ea, hal]; rfl)
  generalize hxs : es.map intV = xs at eus q2
  have lx : xs.length = m := by rw [← hxs, List.length_map]; exact hl
  have bx : ∀ x ∈ xs, x.natAbs < 2 ^ 1900 := fun x hx => by
    rw [← hxs] at hx
    obtain ⟨e, he, rfl⟩ := List.mem_map.mp hx
    have h1 := List.all_eq_true.mp hal _ (List.mem_map_of_mem he)
    cases e with
    | int z => exact sX es z rfl he
    | none => cases h1
    | bool _ => cases h1
    | str _ => cases h1
    | list _ => cases h1
    | tuple _ => cases h1
    | dict _ => cases h1
  subst eus
  have hT2 := hT.same s02
  have hp2 := s2 _ _ hp1
  have getx : ∀ {j : Nat}, j < m → atI (xs.map V.int) (j : Int) = some (V.int (xs.getD j 0)) := fun {j} hj => atI_nat (getD_at (by rw [lx]; exact hj))
  have ex : ∀ j, (xs.getD j 0).natAbs < 2 ^ 1900 := fun j => getD_lt' bx j
  have hev' : ((rngB rows).all id && ((symB rows m).all id && (evnB rows m).all id)) = true := hev
  have hx1 := rng_le (Bool.and_eq_true_iff.mp hev').1
  have ee : ∀ i j, i < m → j < m → (ent rows i j).natAbs ≤ 100 := fun i j hi hj => by
    have hr : rows.getD i [] ∈ rows := by
      rw [List.getD_eq_getElem?_getD, List.getElem?_eq_getElem (by omega)]
      exact List.getElem_mem _
    exact hx1 _ hr _ (getD_memI (by rw [rl i hi]; exact hj))
  refine ⟨_, rfl, _, rfl, by omega, by omega, fun D2 hD2 => ?_⟩
  refine lcF (walk_range (lo := 0) (n := Int.toNat (m : Int))) (fun i H' => Same H2 H' ∧ H' D2 = some (.lst ((qL rows xs m i).map V.int))) ⟨Same.upd_new hD2, upd_same⟩ (fun _ _ _ _ => trivial) ?_ ?_
  · rintro i x H3 H4 hi ⟨s3, h3⟩ ⟨rfl, rfl⟩
    show gName 4 (V.int (0 + (i : Int))) _ _ _
    rw [Int.zero_add]
    have im : i < m := by omega
    refine ⟨rfl, _, rfl, _, rfl, by omega, by omega, ?_⟩
    refine lcF (walk_range (lo := 0) (n := Int.toNat (m : Int))) (fun j H' => Same H2 H' ∧ H' D2 = some (.lst ((qL rows xs m i ++ (List.range j).map (qT rows xs i)).map V.int))) ⟨s3, by rw [List.range_zero, List.map_nil, List.append_nil]; exact h3⟩ (fun _ _ _ _ => trivial) ?_ ?_
    · rintro j y H5 H6 hj ⟨s5, h5⟩ ⟨rfl, rfl⟩
      have jm : j < m := by omega
      dsimp only [gName]
      rw [Int.zero_add]
      have hT5 := hT2.same s5
      have hp5 := s5 _ _ hp2
      refine ⟨rfl, _, rfl, _, rfl, .inr (.inl ⟨p, _, _, _, rfl, rfl, SqT.of hp5, getx im, ?_⟩)⟩
      refine ⟨_, rfl, _, rfl, row_at hT5 lm im fun c1 hc1 => ⟨_, rfl, ent_of hc1 (by rw [rl i im]; exact jm) ?_⟩⟩
      have bij := ee i j im jm
      have pw : (2 : Nat) ^ 1900 * 100 < 2 ^ 8000 := by decide
      have m1 : CMulW (xs.getD i 0) (ent rows i j) := mul8 (up19 (ex i)) (Nat.lt_of_le_of_lt bij (by decide))
      have b2 : (xs.getD i 0 * ent rows i j).natAbs < 2 ^ 8000 := by
        rw [Int.natAbs_mul]
        exact Nat.lt_of_le_of_lt (Nat.mul_le_mul (Nat.le_of_lt (ex i)) bij) pw
      refine ⟨_, _, rfl, rfl, m1, _, rfl, _, rfl, .inr (.inl ⟨p, _, _, _, rfl, rfl, SqT.of hp5, getx jm, ?_⟩)⟩
      refine ⟨_, _, rfl, rfl, mul8 b2 (up19 (ex j)), _, h5, ?_, fun b o e => ?_, ?_⟩
      · have h8 : m * i ≤ 64 := Nat.mul_le_mul m8 (by omega : i ≤ 8)
        rw [List.length_map, List.length_append, qL_len, List.length_map, List.length_range]
        exact Nat.lt_of_le_of_lt (by omega : m * i + j ≤ 100) (by decide)
      · rw [upd_ne (ne_of_none e hD2)]
        exact s5 _ _ e
      · have e : qL rows xs m i ++ (List.range (j + 1)).map (qT rows xs i) = (qL rows xs m i ++ (List.range j).map (qT rows xs i)) ++ [qT rows xs i j] := by rw [List.range_succ, List.map_append, ← List.append_assoc]; rfl
        rw [upd_same, e, List.map_append (l₁ := qL rows xs m i ++ (List.range j).map (qT rows xs i))]
        rfl
    · rintro H5 ⟨s5, h5⟩
      exact ⟨s5, h5⟩
  rintro H3 ⟨s3, h3⟩
  rw [Int.toNat_natCast] at h3
  refine ⟨D2, _, rfl, SqL.of h3, _, _, rfl, rfl, ⟨by decide, by decide⟩, ?_⟩
  have e := q2 _ (s02.trans s3)
  rw [← qL_val] at e
  exact e
end
end Ft

set_option exponentiation.threshold 9000
namespace Ft
open PySem L2
/-! ### the full elimination of a form -/
/-- the table after some steps: rows above, rows still to come (k zeros ahead of the law's), the last pivot; all pivots to come are above 0, the last of them is z -/
structure RdI (m k : Nat) (z : Int) (up : List (List Int)) (S : List (List Int)) (last : Int) : Prop where
  lu : up.length = k
  ls : S.length = m - k
  km : k ≤ m
  m8 : m ≤ 8
  sq : Sq_ (m - k) S
  rw : ∀ r ∈ up, r.length = m
  bs : ∀ r ∈ S, ∀ x ∈ r, x.natAbs < 2 ^ bt (m - k)
  bu : ∀ r ∈ up, ∀ x ∈ r, x.natAbs < 2 ^ bt (m - k)
  l0 : 0 < last
  l2 : last.natAbs < 2 ^ 2000
  mn : (minGo (m - k) S last).length = m - k
  fin : (last :: minGo (m - k) S last).getLastD 0 = z
  z0 : 1 ≤ k → (up.getD 0 []).getD 0 0 = last
def tbl (k : Nat) (up S : List (List Int)) : List (List Int) := up ++ S.map (zr k)
theorem RdI.start {m : Nat} {rows : List (List Int)} (lm : rows.length = m) (lr : ∀ r ∈ rows, r.length = m) (m8 : m ≤ 8) (hx : ∀ r ∈ rows, ∀ x ∈ r, x.natAbs ≤ 100) (hm : (minGo m rows 1).length = m) : RdI m 0 ((1 :: minGo m rows 1).getLastD 0) [] rows 1 :=
  ⟨rfl, lm, Nat.zero_le _, m8, lr, fun r h => (by cases h), fun r h x hx' => Nat.lt_of_le_of_lt (hx r h x hx') (Nat.lt_of_lt_of_le (by decide : 100 < 2 ^ 7) (Nat.pow_le_pow_right (by decide) (bt_7 (by omega)))), fun r h => (by cases h), by decide, by decide, hm, rfl, fun h => absurd h (by decide)⟩
theorem bt_up {f : Nat} (h : f < 8) {x : Int} (hx : x.natAbs < 2 ^ bt (f + 1)) : x.natAbs < 2 ^ bt f := Nat.lt_of_lt_of_le hx (Nat.pow_le_pow_right (by decide) (by have := bt_step h; omega))
theorem bt_2000 {f : Nat} (h : 1 ≤ f) {x : Int} (hx : x.natAbs < 2 ^ bt f) : x.natAbs < 2 ^ 2000 := Nat.lt_of_lt_of_le hx (Nat.pow_le_pow_right (by decide) (by have := bt_le h; omega))
theorem mem_getD {l : List (List Int)} {i : Nat} (h : i < l.length) : l.getD i [] ∈ l := by
  rw [List.getD_eq_getElem?_getD, List.getElem?_eq_getElem h]
  exact List.getElem_mem h
/-- the pivot's row is full of what it was, its pivot is above 0 -/
theorem RdI.pivot {m k : Nat} {z : Int} {up S : List (List Int)} {last : Int} (h : RdI m k z up S last) (hk : k < m) : ∃ top rest, S = top :: rest ∧ 0 < top.getD 0 0 ∧ (tbl k up S).getD k [] = zr k top ∧ (zr k top).getD k 0 = top.getD 0 0 ∧ (tbl k up S).length = m := by
  have ls := h.ls
  cases S with
  | nil => exact absurd ls (by show (0 : Nat) ≠ m - k; omega)
  | cons top rest =>
    have mn := h.mn
    obtain ⟨f, hf⟩ : ∃ f, m - k = f + 1 := ⟨m - k - 1, by omega⟩
    rw [hf] at mn
    refine ⟨top, rest, rfl, ?_, ?_, zr_ge (i := 0), ?_⟩
    · rcases Int.lt_or_le 0 (top.getD 0 0) with p | p
      · exact p
      · have e : minGo (f + 1) (top :: rest) last = [] := by
          show (if 0 < top.getD 0 0 then _ else []) = []
          rw [if_neg (by omega)]
        rw [e] at mn
        cases mn
    · have lu := h.lu
      unfold tbl
      rw [List.getD_eq_getElem?_getD, List.getElem?_append_right (by omega), lu, Nat.sub_self]
      rfl
    · unfold tbl
      rw [List.length_append, List.length_map, h.lu, ls]
      omega
theorem RdI.next {m k : Nat} {z : Int} {up : List (List Int)} {top : List Int} {rest : List (List Int)} {last : Int} (h : RdI m k z up (top :: rest) last) (hk : k < m) : RdI m (k + 1) z ((up.map fun r => withoutL r (zr k top) k last) ++ [zr k top]) (rest.map fun row => stepL top row last) (top.getD 0 0) := by
  obtain ⟨top', rest', e, pp, _, _, _⟩ := h.pivot hk
  cases e
  obtain ⟨f, hf⟩ : ∃ f, m - k = f + 1 := ⟨m - k - 1, by omega⟩
  have hf2 : m - (k + 1) = f := by omega
  have f8 : f < 8 := by have := h.m8; omega
  have ls := h.ls
  have bs := h.bs
  have bu := h.bu
  have sq := h.sq
  have mn := h.mn
  have fin := h.fin
  rw [hf] at ls bs bu sq mn fin
  have em : minGo (f + 1) (top :: rest) last = top.getD 0 0 :: minGo f (rest.map fun row => stepL top row last) (top.getD 0 0) := by
    show (if 0 < top.getD 0 0 then _ else _) = _
    rw [if_pos pp]
  rw [em] at mn fin
  have bt0 : ∀ x ∈ top, x.natAbs < 2 ^ bt (f + 1) := bs top List.mem_cons_self
  have bz : ∀ x ∈ zr k top, x.natAbs < 2 ^ bt (f + 1) := fun x hx => by
    rcases List.mem_append.mp hx with hx | hx
    · rw [(List.mem_replicate.mp hx).2]
      exact Nat.two_pow_pos _
    · exact bt0 x hx
  have lz : (zr k top).length = m := by rw [zr_len, sq top List.mem_cons_self]; omega
  refine ⟨?_, ?_, by omega, h.m8, ?_, ?_, ?_, ?_, pp, bt_2000 (by omega) (getD_lt' bt0 0), ?_, ?_, fun _ => ?_⟩
  · rw [List.length_append, List.length_map, h.lu]; rfl
  · rw [List.length_map, hf2]; exact Nat.succ.inj ls
  · rw [hf2]; exact Sq_.step (n := f + 1) sq
  · intro r hr
    rcases List.mem_append.mp hr with hr | hr
    · obtain ⟨r0, h0, rfl⟩ := List.mem_map.mp hr
      unfold withoutL
      rw [List.length_map, List.length_range]
      exact h.rw r0 h0
    · rw [List.mem_singleton.mp hr]; exact lz
  · intro r hr x hx
    obtain ⟨r0, h0, rfl⟩ := List.mem_map.mp hr
    unfold stepL at hx
    obtain ⟨i, _, rfl⟩ := List.mem_map.mp hx
    have b0 := bs r0 (List.mem_cons_of_mem _ h0)
    have := nxt_lt (q := last) (getD_lt' bt0 0) (getD_lt' b0 (i + 1)) (getD_lt' b0 0) (getD_lt' bt0 (i + 1))
    rw [bt_step f8] at this
    rw [hf2]
    exact this
  · intro r hr x hx
    rw [hf2]
    rcases List.mem_append.mp hr with hr | hr
    · obtain ⟨r0, h0, rfl⟩ := List.mem_map.mp hr
      unfold withoutL at hx
      obtain ⟨i, _, rfl⟩ := List.mem_map.mp hx
      have b0 := bu r0 h0
      have := nxt_lt (q := last) (getD_lt' bz k) (getD_lt' b0 i) (getD_lt' b0 k) (getD_lt' bz i)
      rw [bt_step f8] at this
      exact this
    · rw [List.mem_singleton.mp hr] at hx
      exact bt_up f8 (bz x hx)
  · rw [hf2]; exact Nat.succ.inj mn
  · rw [hf2]; rw [← fin]; rfl
  · cases k with
    | zero =>
      have : up = [] := List.length_eq_zero_iff.mp h.lu
      subst this
      rfl
    | succ k =>
      have lu := h.lu
      cases up with
      | nil => cases lu
      | cons r0 up =>
        show (withoutL r0 (zr (k + 1) top) (k + 1) last).getD 0 0 = top.getD 0 0
        have l0 := h.rw r0 List.mem_cons_self
        have e : (withoutL r0 (zr (k + 1) top) (k + 1) last).getD 0 0 = ((zr (k + 1) top).getD (k + 1) 0 * r0.getD 0 0 - r0.getD (k + 1) 0 * (zr (k + 1) top).getD 0 0) / last := by
          unfold withoutL
          exact map_range_getD (by omega)
        have z0 : r0.getD 0 0 = last := h.z0 (by omega)
        have kt : (zr (k + 1) top).getD (k + 1) 0 = top.getD 0 0 := zr_ge (i := 0)
        rw [e, kt, z0, zr_lt (by omega), Int.mul_zero, Int.sub_zero, Int.mul_ediv_cancel _ (by have := h.l0; omega)]
/-- the rows of the next table, one by one -/
theorem RdI.row {m k : Nat} {z : Int} {up : List (List Int)} {top : List Int} {rest : List (List Int)} {last : Int} (h : RdI m k z up (top :: rest) last) (hk : k < m) {i : Nat} (hi : i < m) : (tbl (k + 1) ((up.map fun r => withoutL r (zr k top) k last) ++ [zr k top]) (rest.map fun row => stepL top row last)).getD i [] = if i = k then zr k top else withoutL ((tbl k up (top :: rest)).getD i []) (zr k top) k last := by
  have lu := h.lu
  have ls := h.ls
  have lr : rest.length = m - k - 1 := by have : rest.length + 1 = m - k := ls; omega
  unfold tbl
  rcases Nat.lt_trichotomy i k with hik | hik | hik
  · rw [if_neg (by omega)]
    have hi2 : i < up.length := by omega
    rw [List.getD_eq_getElem?_getD, List.getElem?_append_left (by rw [List.length_append, List.length_map]; omega), List.getElem?_append_left (by rw [List.length_map]; exact hi2), List.getElem?_map, List.getElem?_eq_getElem hi2, List.getD_eq_getElem?_getD, List.getElem?_append_left hi2, List.getElem?_eq_getElem hi2]
    rfl
  · subst hik
    rw [if_pos rfl, List.getD_eq_getElem?_getD, List.getElem?_append_left (by rw [List.length_append, List.length_map, List.length_singleton]; omega), List.getElem?_append_right (by rw [List.length_map]; omega), List.length_map, lu, Nat.sub_self]
    rfl
  · obtain ⟨j, rfl⟩ : ∃ j, i = k + (j + 1) := ⟨i - k - 1, by omega⟩
    have hj : j < rest.length := by omega
    have e1 : ((up.map fun r => withoutL r (zr k top) k last) ++ [zr k top]).length = k + 1 := by rw [List.length_append, List.length_map, lu]; rfl
    rw [if_neg (by omega), List.getD_eq_getElem?_getD, List.getElem?_append_right (by omega), e1, List.getElem?_map, List.getElem?_map, show k + (j + 1) - (k + 1) = j by omega, List.getElem?_eq_getElem hj]
    rw [List.getD_eq_getElem?_getD, List.getElem?_append_right (by omega), lu, List.getElem?_map, show k + (j + 1) - k = j + 1 by omega, List.getElem?_cons_succ, List.getElem?_eq_getElem hj]
    show zr (k + 1) (stepL top rest[j] last) = withoutL (zr k rest[j]) (zr k top) k last
    have a := h.sq rest[j] (List.mem_cons_of_mem _ (List.getElem_mem hj))
    have b := h.sq top List.mem_cons_self
    exact (without_zr (by omega) (by omega)).symm
end Ft

set_option exponentiation.threshold 9000
set_option maxHeartbeats 1000000
namespace Ft
open PySem L2
/-- a list of lists of ints, none of them at D -/
def TabD (H : Hp) (D R : Addr) (rows : List (List Int)) : Prop := R ≠ D ∧ ∃ rv, H R = some (.lst rv) ∧ Rls H D rv rows
theorem TabD.len {H : Hp} {D R : Addr} {rows : List (List Int)} (h : TabD H D R rows) : ∃ rv, H R = some (.lst rv) ∧ rv.length = rows.length := by
  obtain ⟨_, rv, a, b⟩ := h
  exact ⟨rv, a, b.len⟩
theorem rowD_at {K : PySem.W.Frag} {H : Hp} {D R : Addr} {rows : List (List Int)} {i : Nat} {M : VK} (h : TabD H D R rows) (hi : i < rows.length) (q : ∀ c : Addr, IsL H c (rows.getD i []) → c ≠ D → M (.ref c) H) : rIx K (.ref R) (.int (i : Int)) H M := by
  obtain ⟨_, rv, hR, rl⟩ := h
  have lr := rl.len
  obtain ⟨v, hv⟩ : ∃ v, rv[i]? = some v := ⟨_, List.getElem?_eq_getElem (by omega)⟩
  obtain ⟨c, r, rfl, hr, hc, nc⟩ := rl.get hv
  have e : rows.getD i [] = r := by rw [List.getD_eq_getElem?_getD, hr]; rfl
  exact .inl ⟨R, rv, (i : Int), .ref c, rfl, rfl, SqL.of hR, atI_nat hv, q c (by rw [e]; exact hc) nc⟩
theorem entL_of {K : PySem.W.Frag} {H : Hp} {c : Addr} {r : List Int} {j : Nat} {M : VK} (h : IsL H c r) (hj : j < r.length) (q : M (.int (r.getD j 0)) H) : rIx K (.ref c) (.int (j : Int)) H M :=
  .inl ⟨c, _, (j : Int), _, rfl, rfl, SqL.of h, atI_nat (getD_at hj), q⟩
def sp_frw : Sp := fun vs H Q _ => ∃ (R D : Addr) (rows : List (List Int)) (k : Nat), vs = [.ref R, .int (k : Int), .int (k : Int)] ∧ TabD H D R rows ∧ k < rows.length ∧ rows.length ≤ 8 ∧ k < (rows.getD k []).length ∧ (rows.getD k []).getD k 0 ≠ 0 ∧ Q (.int (k : Int)) H
section
variable {P : Program} {w : World} {K : PySem.W.Frag} {mg : Str → Option Value} {base : Heap}
theorem ok_frw (D : Df K mg "first_row_with" s_first_row_with ["table", "k", "least"]) (B : Bi mg) : Cal P w K mg base 1 "first_row_with" sp_frw := by
  obtain ⟨f, fd, F, m, b⟩ := D.ex
  have sc := sc_first_row_with
  refine ⟨f, fd, _, F.ok sc (fun _ _ _ _ ⟨_, _, _, _, e, _⟩ => by rw [e]; rfl) (fun cdv A outer s H vs Q E hr h => ?_), m, F.kp, b⟩
  obtain ⟨R, Dd, rows, k, rfl, hT, hk, h8, hk2, hne, q⟩ := h
  obtain ⟨rv, hR, lrv⟩ := hT.len
  refine ⟨_, (pss_cons (ps_for PassesOwn.never rfl (pi_range2 (by rfl) B.range (pa_cons (pv 2) (pa_cons (pe_callB (id := "len") (r := rLeO K) call_len_seq (by rfl) B.len_ (by decide +kernel) (pa_cons (pv 0) pa_nil)) pa_nil))) (pg_name (i := 3) sc.nd rfl (Or.inl rfl))
      (pss_one (ps_if (pt_cmpR op_ne (pe_ix (show IxR _ (rIx K) from ix_seq) (pe_ix (show IxR _ (rIx K) from ix_seq) (pv 0) (pv 3) (fun _ _ => rfl)) (pv 1) (fun _ _ => rfl)) pe_int (nomark _))
        (pss_one (ps_ret (pv 3)))
        pss_nil)))
      (pss_one (ps_ret pe_non))), ?_⟩
  refine ⟨_, rfl, _, rfl, R, rv, rfl, .inl (SqL.of hR), ?_⟩
  rw [lrv]
  refine ⟨(k : Int), (rows.length : Int), rfl, ⟨by omega, by omega, by omega, by omega⟩, ?_⟩
  refine for_range (lo := (k : Int)) (n := ((rows.length : Int) - (k : Int)).toNat) (fun i σ H' => i = 0 ∧ H' = H ∧ σ = [some (.ref R), some (.int (k : Int)), some (.int (k : Int)), none]) ⟨rfl, rfl, rfl⟩ ?_ ?_
  · rintro i σ H2 hi ⟨rfl, rfl, rfl⟩
    dsimp only [gName]
    rw [show (k : Int) + ((0 : Nat) : Int) = (k : Int) by omega]
    refine ⟨_, rfl, _, rfl, rowD_at hT hk fun c hc _ => ⟨_, rfl, entL_of hc hk2 ⟨rfl, _, rfl, ?_⟩⟩⟩
    rw [show (!decide (V.int ((rows.getD k []).getD k 0) = V.int 0)) = true by rw [decide_eq_false (fun h => hne (V.int.inj h))]; rfl]
    exact iteT ⟨_, rfl, q⟩
  · rintro σ H2 ⟨h0, _, _⟩
    exact absurd h0 (by omega)
end
end Ft

set_option exponentiation.threshold 9000
set_option maxHeartbeats 4000000
namespace Ft
open PySem L2
theorem RdI.bd {m k : Nat} {z : Int} {up S : List (List Int)} {last : Int} (h : RdI m k z up S last) (hk : k < m) : ∀ r ∈ tbl k up S, Bd r ∧ r.length = m := fun r hr => by
  have m8 := h.m8
  rcases List.mem_append.mp hr with hr | hr
  · exact ⟨⟨by rw [h.rw r hr]; omega, fun x hx => bt_2000 (by omega) (h.bu r hr x hx)⟩, h.rw r hr⟩
  · obtain ⟨r0, h0, rfl⟩ := List.mem_map.mp hr
    have l : (zr k r0).length = m := by rw [zr_len, h.sq r0 h0]; omega
    refine ⟨⟨by rw [l]; omega, fun x hx => ?_⟩, l⟩
    rcases List.mem_append.mp hx with hx | hx
    · rw [(List.mem_replicate.mp hx).2]
      exact Nat.two_pow_pos _
    · exact bt_2000 (by omega) (h.bs r0 h0 x hx)
def detV (m : Nat) (rows : List (List Int)) : Int := (1 :: minGo m rows 1).getLastD 0
def sp_reduced : Sp := fun vs H Q _ => ∃ (t : Addr) (rows : List (List Int)) (m : Nat), vs = [.ref t, .int (m : Int)] ∧ TabT H t rows ∧ rows.length = m ∧ (∀ r ∈ rows, r.length = m) ∧ 2 ≤ m ∧ m ≤ 8 ∧ (∀ r ∈ rows, ∀ x ∈ r, x.natAbs ≤ 100) ∧ (minGo m rows 1).length = m ∧ ∀ H' p R D Cc T cols, Same H H' → H' p = some (.tup [.ref R, .ref Cc]) → TabD H' D R T → T.length = m → (T.getD 0 []).length = m → (T.getD 0 []).getD 0 0 = detV m rows → H' Cc = some (.lst cols) → cols.length = m → Q (.ref p) H'
section
variable {P : Program} {w : World} {K : PySem.W.Frag} {mg : Str → Option Value} {base : Heap}
theorem ok_reduced (D : Df K mg "reduced" s_reduced ["rows", "many"]) (B : Bi mg) (c_first_row_with : Cal P w K mg base 1 "first_row_with" sp_frw) (c_without : Cal P w K mg base 1 "without" sp_without) : Cal P w K mg base 2 "reduced" sp_reduced := by
  obtain ⟨f, fd, F, m, b⟩ := D.ex
  have sc := sc_reduced
  refine ⟨f, fd, _, F.ok sc (fun _ _ _ _ ⟨_, _, _, e, _⟩ => by rw [e]; rfl) (fun cdv A outer s H vs Q E hr h => ?_), m, F.kp, b⟩
  obtain ⟨t, rows, m, rfl, ⟨ws, ht, tws⟩, lm, lr, m2, m8, hx, hmin, q⟩ := h
  refine ⟨_, (pss_cons (ps_setLc (i := 3) (own := [("row", 2)]) (g := gName 2) (tt := tYes) (by rfl) sc.nd rfl rfl (sw_true rfl rfl rfl (by decide +kernel)) (pi_tup (pv 0)) (blkOk_by (own := [("row", 2)]) (N := N_reduced) (sc := defScope s_reduced) (by decide +kernel)) (fun _ _ _ _ _ => (pg_name (i := 2) sc.nd rfl (Or.inl rfl))) (fun _ _ _ _ _ => pts_nil) (fun _ _ _ _ _ => (pe_callTy (show CallR _ (.type "list") (rLiO K) from call_list_of) (by rfl) B.list (by decide +kernel) (pa_cons (pv 2) pa_nil))))
      (pss_cons (ps_set (i := 4) sc.nd rfl (Or.inr rfl) pe_int)
      (pss_cons (ps_set (i := 5) sc.nd rfl (Or.inl rfl) (pe_lst pa_nil))
      (pss_cons (ps_for PassesOwn.never rfl (pi_range1 rfl B.range (pa_cons (pv 1) pa_nil)) (pg_name (i := 6) sc.nd rfl (Or.inr rfl))
      (pss_cons (ps_set (i := 7) sc.nd rfl (Or.inr rfl) (pe_callB (id := "len") (r := rLeO K) call_len_seq (by rfl) B.len_ (by decide +kernel) (pa_cons (pv 5) pa_nil)))
        (pss_cons (ps_set (i := 8) sc.nd rfl (Or.inl rfl) (pe_c c_first_row_with hr (by decide) (by rfl) (pa_cons (pv 3) (pa_cons (pv 6) (pa_cons (pv 7) pa_nil)))))
        (pss_one (ps_if (pt_cmpR op_notN (pv 8) pe_non (nomark _))
        (pss_cons (ps_if (pt_cmpR op_gt (pv 8) (pv 7) (nomark _))
          (pss_one (ps_asg (pe_tup (pa_cons (pe_ix (show IxR _ (rIx K) from ix_seq) (pv 3) (pv 8) (fun _ _ => rfl)) (pa_cons (pe_lc (own := [("entry", 9)]) (g := gName 9) (tt := tYes) (by rfl) sc.nd (pi_list (pe_ix (show IxR _ (rIx K) from ix_seq) (pv 3) (pv 7) (fun _ _ => rfl))) (blkOk_by (own := [("entry", 9)]) (N := N_reduced) (sc := defScope s_reduced) (by decide +kernel)) (fun _ _ _ _ _ => (pg_name (i := 9) sc.nd rfl (Or.inl rfl))) (fun _ _ _ _ _ => pts_nil) (fun _ _ _ _ _ => (pe_un un_neg (pv 9)))) pa_nil))) (pg_tup rfl (pgs_cons (pg_sub (pv 3) (pv 7) set_list) (pgs_cons (pg_sub (pv 3) (pv 8) set_list) pgs_nil)))))
          pss_nil)
          (pss_cons (ps_set (i := 10) sc.nd rfl (Or.inr rfl) (pe_ix (show IxR _ (rIx K) from ix_seq) (pv 3) (pv 7) (fun _ _ => rfl)))
          (pss_cons (ps_setLc (i := 3) (own := [("i", 11), ("row", 2)]) (g := gTup K 2 (gCons (gName 11) (gCons (gName 2) gNil))) (tt := tYes) (by rfl) sc.nd rfl rfl (sw_true rfl rfl rfl (by decide +kernel)) (pi_enum (by rfl) B.enumerate (pa_cons (pv 3) pa_nil)) (blkOk_by (own := [("i", 11), ("row", 2)]) (N := N_reduced) (sc := defScope s_reduced) (by decide +kernel)) (fun _ _ _ _ _ => (pg_tup rfl (pgs_cons (pg_name (i := 11) sc.nd rfl (Or.inl rfl) (Or.inr rfl)) (pgs_cons (pg_name (i := 2) sc.nd rfl (Or.inl rfl) (Or.inr rfl)) pgs_nil)))) (fun _ _ _ _ _ => pts_nil) (fun _ _ _ _ _ => (pe_ifExp (pt_cmpR op_eq (pv 11) (pv 7) (nomark _)) (pv 10) (pe_c c_without hr (by decide) (by rfl) (pa_cons (pv 2) (pa_cons (pv 10) (pa_cons (pv 6) (pa_cons (pv 4) pa_nil))))))))
          (pss_cons (ps_set (i := 4) sc.nd rfl (Or.inr rfl) (pe_ix (show IxR _ (rIx K) from ix_seq) (pv 10) (pv 6) (fun _ _ => rfl)))
          (pss_one (ps_expr (pe_bm PySem.F.plainAttrs_list PySem.F.slot_list_append PySem.F.type_list_append mt_append (pv 5) (pa_cons (pv 6) pa_nil))))))))
        pss_nil)))))
      (pss_one (ps_ret (pe_tup (pa_cons (pv 3) (pa_cons (pv 5) pa_nil))))))))), ?_⟩
  have hws := tws.rns
  have lw := hws.len
  refine ⟨_, rfl, t, rfl, ⟨_, SqT.of ht⟩, fun C hC => ?_⟩
  refine lc_tup (K := K) (a := t) (xs := ws) (fun i H' => Same H H' ∧ ∃ vs : List V, H' C = some (.lst vs) ∧ Rls H' C vs (rows.take i)) ⟨Same.upd_new hC, [], upd_same, .nil⟩ (fun i H' _ ⟨z, _⟩ => SqT.of (z _ _ ht)) ?_ ?_
  · rintro i y Ha hy ⟨ka, vs, hvs, tvs⟩
    obtain ⟨c, r, rfl, hr1, hc⟩ := hws.get hy
    have li : vs.length ≤ 16 := by
      rw [tvs.len, List.length_take]
      omega
    dsimp only [gName]
    have hl : SqL K Ha c (r.map V.int) ∨ SqT K Ha c (r.map V.int) := by
      rcases hc with hc | hc
      · exact .inl (SqL.of (ka _ _ hc))
      · exact .inr (SqT.of (ka _ _ hc))
    refine ⟨rfl, _, rfl, c, _, rfl, hl, fun l hl2 => ?_⟩
    have nl : l ≠ C := fun e => by rw [e, hvs] at hl2; cases hl2
    have k4 : Same Ha (upd Ha l (.lst (r.map V.int))) := Same.upd_new hl2
    refine ⟨vs, k4 _ _ hvs, Nat.lt_of_le_of_lt li (by decide), fun b o e => ?_, vs ++ [.ref l], upd_same, ?_⟩
    · rw [upd_ne (ne_of_none e hC)]
      exact k4 _ _ (ka _ _ e)
    · rw [List.take_add_one, hr1]
      refine Rls.snoc ?_ nl (tvs.keep fun b o h n => ?_)
      · show (upd (upd Ha l _) C _) l = _
        rw [upd_ne nl]
        exact upd_same
      · rw [upd_ne n]
        exact k4 _ _ h
  rintro H1 ⟨s1, vs, hvs, tvs⟩
  rw [lw, List.take_length] at tvs
  dsimp only [gName]
  refine ⟨Nat.zero_le _, fun Dn hDn => ?_⟩
  have s2 : Same H1 (upd H1 Dn (.lst [])) := Same.upd_new hDn
  have d2 : (upd H1 Dn (.lst [])) Dn = some (.lst []) := upd_same
  have nCD : C ≠ Dn := fun e => by rw [e, hDn] at hvs; cases hvs
  have tv2 := tvs.move s2 hDn
  have hvs2 := s2 _ _ hvs
  generalize upd H1 Dn (.lst []) = H2 at s2 d2 tv2 hvs2
  have s02 := s1.trans s2
  have hDn0 : H Dn = none := s1.free hDn
  dsimp only [gName]
  refine at_state [some (.ref t), some (.int (m : Int)), none, some (.ref C), some (.int 1), some (.ref Dn), none, none, none, none, none, none] rfl ?_
  have e0 : tbl 0 [] rows = rows := by
    show rows.map (zr 0) = rows
    conv => rhs; rw [← List.map_id rows]
    exact List.map_congr_left fun r _ => rfl
  refine ⟨_, rfl, (m : Int), rfl, by omega, by omega, for_range (lo := 0) (n := Int.toNat (m : Int)) (fun i σ H' => (∀ b o, H2 b = some o → b ≠ Dn → H' b = some o) ∧ ∃ (R : Addr) (up S : List (List Int)) (last : Int) (cols : List V) (o2 o6 o7 o8 o9 o10 o11 : Option V), σ = [some (.ref t), some (.int (m : Int)), o2, some (.ref R), some (.int last), some (.ref Dn), o6, o7, o8, o9, o10, o11] ∧ TabD H' Dn R (tbl i up S) ∧ H' Dn = some (.lst cols) ∧ cols.length = i ∧ RdI m i (detV m rows) up S last) ⟨fun b o h _ => h, C, [], rows, 1, [], none, none, none, none, none, none, none, rfl, ⟨nCD, vs, hvs2, by rw [e0]; exact tv2⟩, d2, rfl, RdI.start lm lr m8 hx hmin⟩ ?_ ?_⟩
  · rintro i σ H3 hi ⟨k3, R, up, S, last, cols, o2, o6, o7, o8, o9, o10, o11, rfl, hTb, hD, lc, inv⟩
    have hi' : i < m := by omega
    obtain ⟨top, rest, rfl, pp, eP, eT, lT⟩ := inv.pivot hi'
    have lz : (zr i top).length = m := by rw [zr_len, inv.sq top List.mem_cons_self]; omega
    dsimp only [gName]
    rw [Int.zero_add]
    refine ⟨_, rfl, Dn, cols, rfl, .inl (SqL.of hD), ?_⟩
    rw [lc]
    dsimp only [gName]
    refine ⟨_, rfl, _, rfl, _, rfl, R, Dn, tbl i up (top :: rest), i, rfl, hTb, by omega, by omega, by rw [eP, lz]; exact hi', by rw [eP, eT]; omega, ?_⟩
    dsimp only [gName]
    refine ⟨_, rfl, rfl, _, rfl, ?_⟩
    rw [show (!decide (V.int (i : Int) = V.non)) = true by rw [decide_eq_false (fun h => by cases h)]; rfl]
    refine iteT ?_
    refine ⟨_, rfl, _, rfl, _, _, rfl, rfl, _, rfl, ?_⟩
    rw [decide_eq_false (by omega)]
    refine iteF ?_
    dsimp only [tNext]
    refine ⟨_, rfl, _, rfl, rowD_at hTb (by omega) fun pc hpc npc => ?_⟩
    rw [eP] at hpc
    dsimp only [gName]
    obtain ⟨nR, rv, hR, trv⟩ := id hTb
    have lrv : rv.length = m := by rw [trv.len, lT]
    refine ⟨_, rfl, R, _, rfl, SqL.of hR, fun C2 hC2 => ?_⟩
    have nDC : Dn ≠ C2 := fun e => by rw [e, hC2] at hD; cases hD
    have npC : pc ≠ C2 := fun e => by unfold IsL at hpc; rw [e, hC2] at hpc; cases hpc
    have inx := inv.next hi'
    refine lc_it (walk_enum (K := K) (a := R) (xs := rv)) (fun j H' => Same H3 H' ∧ ∃ vs2 : List V, H' C2 = some (.lst vs2) ∧ vs2.length = j ∧ Rls H' C2 vs2 ((tbl (i + 1) ((up.map fun r => withoutL r (zr i top) i last) ++ [zr i top]) (rest.map fun row => stepL top row last)).take j) ∧ ∀ v ∈ vs2, v ≠ .ref Dn) ⟨Same.upd_new hC2, [], upd_same, rfl, .nil, fun v hv => (by cases hv)⟩ (fun j H' _ ⟨z, _⟩ => SqL.of (z _ _ hR)) ?_ ?_
    · rintro j x0 Ha Hb hj ⟨ka, vs2, hv2, lv2, tv2, nd⟩ ⟨T, xi, xr, rfl, hT, rfl, hxi, hxr⟩
      obtain rfl : V.int (j : Int) = xi := Option.some.inj hxi
      have hj' : j < m := by omega
      obtain ⟨c, r, rfl, hr0, hc, nc⟩ := trv.get hxr
      have er : (tbl i up (top :: rest)).getD j [] = r := by rw [List.getD_eq_getElem?_getD, hr0]; rfl
      have k4 : Same Ha (upd Ha T (.tup [V.int (j : Int), V.ref c])) := Same.upd_new hT
      refine ⟨T, _, rfl, SqT.of upd_same, rfl, ?_⟩
      refine ⟨_, _, rfl, _, _, rfl, rfl, rfl, ?_⟩
      have nT : T ≠ C2 := fun e => by rw [e, hv2] at hT; cases hT
      have tv4 := tv2.keep (H' := upd Ha T (.tup [V.int (j : Int), V.ref c])) fun b o h _ => k4 _ _ h
      have hv4 := k4 _ _ hv2
      have ka4 := ka.trans k4
      generalize upd Ha T (.tup [V.int (j : Int), V.ref c]) = Hc at k4 tv4 hv4 ka4
      have rw_ := inv.row hi' hj'
      have put : ∀ (H5 : Hp) (d : Addr) (rr : List Int), Same Hc H5 → IsL H5 d rr → d ≠ C2 → d ≠ Dn → (tbl (i + 1) ((up.map fun r => withoutL r (zr i top) i last) ++ [zr i top]) (rest.map fun row => stepL top row last)).getD j [] = rr → ∃ acc, H5 C2 = some (.lst acc) ∧ acc.length < sizeLine ∧ Same H3 (upd H5 C2 (.lst (acc ++ [V.ref d]))) ∧ ∃ vs3, (upd H5 C2 (.lst (acc ++ [V.ref d]))) C2 = some (.lst vs3) ∧ vs3.length = j + 1 ∧ Rls (upd H5 C2 (.lst (acc ++ [V.ref d]))) C2 vs3 ((tbl (i + 1) ((up.map fun r => withoutL r (zr i top) i last) ++ [zr i top]) (rest.map fun row => stepL top row last)).take (j + 1)) ∧ ∀ v ∈ vs3, v ≠ .ref Dn := fun H5 d rr s5 hd nd2 nd3 er2 => by
        have keep : ∀ b o, Hc b = some o → b ≠ C2 → (upd H5 C2 (.lst (vs2 ++ [V.ref d]))) b = some o := fun b o h n => by rw [upd_ne n]; exact s5 _ _ h
        have inx2 := inx
        have lT2 : (tbl (i + 1) ((up.map fun r => withoutL r (zr i top) i last) ++ [zr i top]) (rest.map fun row => stepL top row last)).length = m := by
          unfold tbl
          rw [List.length_append, List.length_map, inx.lu, inx.ls]
          omega
        refine ⟨vs2, s5 _ _ hv4, Nat.lt_of_le_of_lt (by omega : vs2.length ≤ 16) (by decide), fun b o e => ?_, vs2 ++ [V.ref d], upd_same, by rw [List.length_append, lv2]; rfl, ?_, fun v hv => ?_⟩
        · rw [upd_ne (ne_of_none e hC2)]
          exact s5 _ _ (ka4 _ _ e)
        · have e5 : (tbl (i + 1) ((up.map fun r => withoutL r (zr i top) i last) ++ [zr i top]) (rest.map fun row => stepL top row last))[j]? = some rr := by
            rw [← er2, List.getD_eq_getElem?_getD, List.getElem?_eq_getElem (by omega)]
            rfl
          rw [take_snocA e5]
          refine Rls.snoc ?_ nd2 (tv4.keep keep)
          unfold IsL
          rw [upd_ne nd2]
          exact hd
        · rcases List.mem_append.mp hv with hv | hv
          · exact nd v hv
          · rw [List.mem_singleton.mp hv]
            exact fun e => nd3 (V.ref.inj e)
      refine ⟨_, rfl, _, rfl, rfl, _, rfl, ifI (fun e => ?_) fun e => ?_⟩
      · have e : j = i := by omega
        rw [if_pos e] at rw_
        exact ⟨_, rfl, put Hc pc _ (Same.refl _) (ka4 _ _ hpc) npC npc rw_⟩
      · have e : ¬ j = i := by omega
        rw [if_neg e, er] at rw_
        have mr : r ∈ tbl i up (top :: rest) := List.mem_of_getElem? hr0
        obtain ⟨b1, l1⟩ := inv.bd hi' r mr
        obtain ⟨b2, l2⟩ := inv.bd hi' (zr i top) (by rw [← eP]; exact mem_getD (by omega))
        refine ⟨_, rfl, _, rfl, _, rfl, _, rfl, c, pc, r, zr i top, i, last, rfl, ka4 _ _ hc, ka4 _ _ hpc, b1, b2, by omega, by omega, inv.l0, inv.l2, fun H5 d s5 nd5 hd5 => ?_⟩
        exact put H5 d _ s5 hd5 (fun e => by rw [e, hv4] at nd5; cases nd5) (fun e => by rw [e, ka4 _ _ hD] at nd5; cases nd5) rw_
    rintro H4 ⟨s4, vs2, hv2, lv2, tv2, nd⟩
    have lT2 : (tbl (i + 1) ((up.map fun r => withoutL r (zr i top) i last) ++ [zr i top]) (rest.map fun row => stepL top row last)).length = m := by
      unfold tbl
      rw [List.length_append, List.length_map, inx.lu, inx.ls]
      omega
    rw [lrv, List.take_of_length_le (by omega)] at tv2
    dsimp only [gName]
    have hpc4 : IsL H4 pc (zr i top) := s4 _ _ hpc
    refine ⟨_, rfl, _, rfl, entL_of hpc4 (by rw [lz]; exact hi') ?_⟩
    rw [eT]
    dsimp only [gName]
    have hD4 := s4 _ _ hD
    refine ⟨_, rfl, .inl ⟨rfl, _, SqL.of hD4⟩, _, rfl, Dn, _, _, rfl, rfl, hD4, Nat.lt_of_le_of_lt (by omega : cols.length ≤ 16) (by decide), ?_⟩
    have k5 : ∀ b o, H4 b = some o → b ≠ Dn → (upd H4 Dn (.lst (cols ++ [V.int (i : Int)]))) b = some o := fun b o h n => by rw [upd_ne n]; exact h
    refine ⟨fun b o h n => k5 _ _ (s4 _ _ (k3 _ _ h n)) n, C2, _, _, _, _, _, _, _, _, _, _, _, rfl, ⟨fun e => nDC e.symm, vs2, k5 _ _ hv2 (fun e => nDC e.symm), (tv2.other nd).keep k5⟩, upd_same, by rw [List.length_append, lc]; rfl, inx⟩
  · rintro σ H3 ⟨k3, R, up, S, last, cols, o2, o6, o7, o8, o9, o10, o11, rfl, hTb, hD, lc, inv⟩
    rw [Int.toNat_natCast] at hTb lc inv
    have sH : ∀ b o, H b = some o → H3 b = some o := fun b o h => k3 b o (s02 _ _ h) (ne_of_none h hDn0)
    refine ⟨_, rfl, _, rfl, (by show (2 : Nat) ≤ sizeLine; decide), fun p hp => ?_⟩
    have s4 : Same H3 (upd H3 p (.tup [.ref R, .ref Dn])) := Same.upd_new hp
    have eS : S = [] := List.length_eq_zero_iff.mp (by rw [inv.ls]; omega)
    subst eS
    have eT : tbl m up [] = up := List.append_nil up
    rw [eT] at hTb
    have fin := inv.fin
    rw [Nat.sub_self] at fin
    have z0 := inv.z0 (by omega)
    obtain ⟨nR, rv, hR, trv⟩ := hTb
    exact q _ p R Dn Dn up cols (fun b o h => s4 _ _ (sH _ _ h)) upd_same ⟨nR, rv, s4 _ _ hR, trv.keep fun b o h _ => s4 _ _ h⟩ inv.lu (inv.rw _ (mem_getD (by rw [inv.lu]; omega))) (z0.trans fin) (s4 _ _ hD) lc
end
end Ft

set_option exponentiation.threshold 9000
set_option maxHeartbeats 1000000
namespace Ft
open PySem L2
/-- a form's table -/
structure FmT (m : Nat) (rows : List (List Int)) : Prop where
  lm : rows.length = m
  lr : ∀ r ∈ rows, r.length = m
  m2 : 2 ≤ m
  m8 : m ≤ 8
  hx : ∀ r ∈ rows, ∀ x ∈ r, x.natAbs ≤ 100
  mn : (minGo m rows 1).length = m
theorem fmT_of {D : PyData} (h : formD D = true) : ∃ ds, D = .tuple ds ∧ FmT ds.length (rowsV ds) ∧ tabD ds.length (.tuple ds) = true ∧ smallEven (rowsV ds) ds.length = true := by
  obtain ⟨ds, rfl, hz1, ht1, hev, hmin⟩ := formD_tup h
  obtain ⟨m2, m8⟩ := inSz_le hz1
  obtain ⟨lm, lr⟩ := tab_rows ht1
  have hev' : ((rngB (rowsV ds)).all id && ((symB (rowsV ds) ds.length).all id && (evnB (rowsV ds) ds.length).all id)) = true := hev
  exact ⟨ds, rfl, ⟨lm, lr, m2, m8, rng_le (Bool.and_eq_true_iff.mp hev').1, hmin⟩, ht1, hev⟩
def sp_cleared : Sp := fun vs H Q _ => ∃ (t : Addr) (rows : List (List Int)) (m : Nat), vs = [.ref t, .int (m : Int)] ∧ TabT H t rows ∧ FmT m rows ∧ ∀ H' R D T, Same H H' → TabD H' D R T → T.length = m → (T.getD 0 []).length = m → (T.getD 0 []).getD 0 0 = detV m rows → Q (.ref R) H'
def sp_det : Sp := fun vs H Q _ => ∃ (t : Addr) (rows : List (List Int)) (m : Nat), vs = [.ref t] ∧ TabT H t rows ∧ FmT m rows ∧ ∀ H', Same H H' → Q (.int (detV m rows)) H'
def sp_detQ (C : Addr) : Sp := fun vs H Q E => ∃ v D N, vs = [v] ∧ Dq H N v D ∧ (formD D = false → Rz E C "thing" v H) ∧ ∀ ds, D = .tuple ds → formD D = true → ∀ H', Same H H' → Q (.int (detV ds.length (rowsV ds))) H'
section
variable {P : Program} {w : World} {K : PySem.W.Frag} {mg : Str → Option Value} {base : Heap}
theorem ok_cleared (D : Df K mg "cleared" s_cleared ["rows", "many"]) (B : Bi mg) (c_reduced : Cal P w K mg base 2 "reduced" sp_reduced) : Cal P w K mg base 3 "cleared" sp_cleared := by
  obtain ⟨f, fd, F, m, b⟩ := D.ex
  have sc := sc_cleared
  refine ⟨f, fd, _, F.ok sc (fun _ _ _ _ ⟨_, _, _, e, _⟩ => by rw [e]; rfl) (fun cdv A outer s H vs Q E hr h => ?_), m, F.kp, b⟩
  obtain ⟨t, rows, m, rfl, hT, fm, q⟩ := h
  refine ⟨_, (pss_cons (ps_asg (pe_c c_reduced hr (by decide) (by rfl) (pa_cons (pv 0) (pa_cons (pv 1) pa_nil))) (pg_tup rfl (pgs_cons (pg_name (i := 2) sc.nd rfl (Or.inl rfl)) (pgs_cons (pg_name (i := 3) sc.nd rfl (Or.inl rfl)) pgs_nil))))
      (pss_one (ps_ret (pe_ifExp (pt_cmpR op_eq (pe_callB (id := "len") (r := rLeO K) call_len_seq (by rfl) B.len_ (by decide +kernel) (pa_cons (pv 3) pa_nil)) (pv 1) (nomark _)) (pv 2) pe_non)))), ?_⟩
  refine ⟨_, rfl, _, rfl, t, rows, m, rfl, hT, fm.lm, fm.lr, fm.m2, fm.m8, fm.hx, fm.mn, fun H1 p R Dd Cc T cols s1 hp hTb lT l0 z0 hC lc => ?_⟩
  refine ⟨p, _, rfl, SqT.of hp, rfl, _, _, rfl, _, _, rfl, rfl, ?_⟩
  dsimp only [gName]
  refine ⟨_, rfl, Cc, cols, rfl, .inl (SqL.of hC), _, rfl, rfl, _, rfl, ?_⟩
  rw [decI, lc, decide_eq_true rfl]
  exact iteT ⟨_, rfl, q _ R Dd T s1 hTb lT l0 z0⟩
theorem ok_det (D : Df K mg "determinant" s_determinant ["rows"]) (B : Bi mg) (c_cleared : Cal P w K mg base 3 "cleared" sp_cleared) : Cal P w K mg base 4 "determinant" sp_det := by
  obtain ⟨f, fd, F, m, b⟩ := D.ex
  have sc := sc_determinant
  refine ⟨f, fd, _, F.ok sc (fun _ _ _ _ ⟨_, _, _, e, _⟩ => by rw [e]; rfl) (fun cdv A outer s H vs Q E hr h => ?_), m, F.kp, b⟩
  obtain ⟨t, rows, m, rfl, hT, fm, q⟩ := h
  obtain ⟨ws, ht, tws⟩ := id hT
  have lw := tws.len
  have m2 := fm.m2
  refine ⟨_, (pss_cons (ps_set (i := 1) sc.nd rfl (Or.inl rfl) (pe_c c_cleared hr (by decide) (by rfl) (pa_cons (pv 0) (pa_cons (pe_callB (id := "len") (r := rLeO K) call_len_seq (by rfl) B.len_ (by decide +kernel) (pa_cons (pv 0) pa_nil)) pa_nil))))
      (pss_one (ps_ret (pe_ifExp (pt_cmpR op_isN (pv 1) pe_non (nomark _)) pe_int (pe_ix (show IxR _ (rIx K) from ix_seq) (pe_ix (show IxR _ (rIx K) from ix_seq) (pv 1) pe_int (fun _ _ => rfl)) pe_int (fun _ _ => rfl)))))), ?_⟩
  refine ⟨_, rfl, _, rfl, t, ws, rfl, .inr (SqT.of ht), ?_⟩
  rw [lw, fm.lm]
  refine ⟨t, rows, m, rfl, hT, fm, fun H1 R Dd T s1 hTb lT l0 z0 => ?_⟩
  dsimp only [gName]
  refine ⟨_, rfl, rfl, _, rfl, ?_⟩
  rw [show decide (V.ref R = V.non) = false from decide_eq_false (fun h => by cases h)]
  refine iteF ?_
  refine ⟨_, rfl, rowD_at (i := 0) hTb (by omega) fun c hc _ => entL_of (j := 0) hc (by omega) ?_⟩
  rw [z0]
  exact q _ s1
theorem fx_detQ {f : Addr} {fd : FuncData} {C : Addr} (F : Fun K "determinant_of" "determinant_of" s_determinant_of f fd) (x_check_form : CalX P w K mg base 5 "check_form" (sp_ckFormQ C)) (c_determinant : Cal P w K mg base 4 "determinant" sp_det) : FnOk P w K mg base (L2.CX P w) 6 f fd ["form"] (sp_detQ C) := by
  have sc := sc_determinant_of
  refine F.okX sc (fun _ _ _ _ ⟨_, _, _, e, _⟩ => by rw [e]; rfl) (fun cdv A outer s H vs Q E hr h => ?_)
  obtain ⟨v, D, N, rfl, hd, r0, q⟩ := h
  refine ⟨_, (pss_cons (ps_expr (pe_x x_check_form hr (by decide) (by rfl) (passes_call (takes_of rfl rfl rfl rfl) fun _ _ _ _ h => h) (pa_cons (pv 0) pa_nil)))
      (pss_one (ps_ret (pe_c c_determinant hr (by decide) (by rfl) (pa_cons (pv 0) pa_nil))))), ?_⟩
  refine ⟨_, rfl, v, D, N, rfl, hd, (fun hf H1 s1 => ?_), r0⟩
  obtain ⟨ds, rfl, fm, ht1, _⟩ := fmT_of hf
  obtain ⟨t, rfl, hT⟩ := tab_T hd ht1
  exact ⟨_, rfl, t, rowsV ds, ds.length, rfl, hT.same s1, fm, fun H2 s2 => q ds rfl hf _ (s1.trans s2)⟩
end
end Ft

set_option exponentiation.threshold 9000
set_option maxHeartbeats 4000000
namespace Ft
open PySem L2
/-! ### the law's minors -/
def llD (S : List (List Int)) : PyData := .list (S.map fun r => .list (r.map PyData.int))
theorem ll_lay : ∀ S : List (List Int), PyData.canLayAll0 (S.map fun r => .list (r.map PyData.int)) = true
  | [] => rfl
  | r :: S => by
    have h := SeqAt.canLay_of_shaped (shaped_ints r)
    show (PyData.canLay0 (.list (r.map PyData.int)) && PyData.canLayAll0 (S.map fun r => .list (r.map PyData.int))) = true
    rw [h, ll_lay S]
    rfl
theorem dep_ints : ∀ r : List Int, PyData.depthAll (r.map PyData.int) = 0
  | [] => by simp only [List.map_nil, PyData.depthAll]
  | x :: r => by
    simp only [List.map_cons, PyData.depthAll, PyData.depth, dep_ints r]
    rfl
theorem ll_dep : ∀ S : List (List Int), PyData.depthAll (S.map fun r => .list (r.map PyData.int)) ≤ 1
  | [] => by simp only [List.map_nil, PyData.depthAll]; omega
  | r :: S => by
    have := ll_dep S
    simp only [List.map_cons, PyData.depthAll, PyData.depth, dep_ints r]
    omega
theorem ll_shaped (S : List (List Int)) : SeqAt.shaped (llD S) = true := by
  unfold SeqAt.shaped llD
  rw [Bool.and_eq_true]
  refine ⟨ll_lay S, decide_eq_true ?_⟩
  have := ll_dep S
  simp only [PyData.depth]
  omega
theorem ll_dp {K : PySem.W.Frag} {H : Hp} {D : Addr} : ∀ {vs : List V} {S : List (List Int)}, Rls H D vs S → DpAll K H vs (S.map fun r => .list (r.map PyData.int))
  | _, _, .nil => .nil
  | _, _, .cons h _ t => .cons (.lst (SqL.of h) (dp_ints _)) (ll_dp t)
theorem mul_bt {f : Nat} (h : 1 ≤ f) {x y : Int} (hx : x.natAbs < 2 ^ bt f) (hy : y.natAbs < 2 ^ bt f) : CMulW x y := mul8 (Nat.lt_trans (bt_2000 h hx) (Nat.pow_lt_pow_right (by decide) (by decide))) (Nat.lt_trans (bt_2000 h hy) (Nat.pow_lt_pow_right (by decide) (by decide)))
def MnW (H2 : Hp) (t Dn : Addr) (tgt : List Int) (n : Nat) (σ : L2.St) (H' : Hp) : Prop := ∃ (R : Addr) (S : List (List Int)) (last : Int) (fs : List Int) (o1 o5 o6 o7 o8 : Option V), S.length = n ∧ n ≤ 8 ∧ Sq_ n S ∧ (∀ r ∈ S, ∀ x ∈ r, x.natAbs < 2 ^ bt n) ∧ 0 < last ∧ last.natAbs < 2 ^ 2000 ∧ TabD H' Dn R S ∧ H' Dn = some (.lst (fs.map V.int)) ∧ fs.length + n ≤ 8 ∧ fs ++ minGo n S last = tgt ∧ (∀ b o, H2 b = some o → b ≠ Dn → H' b = some o) ∧ σ = [some (.ref t), o1, some (.ref R), some (.int last), some (.ref Dn), o5, o6, o7, o8]
theorem drop1 (r : List Int) : (r.map V.int).drop 1 = (r.drop 1).map V.int := by rw [List.map_drop]
theorem drop1_getD (r : List Int) (i : Nat) : (r.drop 1).getD i 0 = r.getD (i + 1) 0 := by
  rw [List.getD_eq_getElem?_getD, List.getElem?_drop, List.getD_eq_getElem?_getD, Nat.add_comm]
def sp_minors : Sp := fun vs H Q _ => ∃ (t : Addr) (rows : List (List Int)) (m : Nat), vs = [.ref t] ∧ TabT H t rows ∧ rows.length = m ∧ (∀ r ∈ rows, r.length = m) ∧ m ≤ 8 ∧ (∀ r ∈ rows, ∀ x ∈ r, x.natAbs ≤ 100) ∧ ∀ H' p, Same H H' → H' p = some (.lst ((minGo m rows 1).map V.int)) → Q (.ref p) H'
section
variable {P : Program} {w : World} {K : PySem.W.Frag} {mg : Str → Option Value} {base : Heap}
theorem ok_minors (D : Df K mg "_law_minors" s__law_minors ["_law_table"]) (B : Bi mg) : Cal P w K mg base 1 "_law_minors" sp_minors := by
  obtain ⟨f, fd, F, m, b⟩ := D.ex
  have sc := sc__law_minors
  refine ⟨f, fd, _, F.ok sc (fun _ _ _ _ ⟨_, _, _, e, _⟩ => by rw [e]; rfl) (fun cdv A outer s H vs Q E hr h => ?_), m, F.kp, b⟩
  obtain ⟨t, rows, m, rfl, ⟨ws, ht, tws⟩, lm, lr, m8, hx, q⟩ := h
  have h64 : (A.deeper (PyProof.Rows.envOfC "_law_minors" (defScope s__law_minors) s.heap.objs.size f cdv)).units + 64 < cLine := by have := hr.un; omega
  refine ⟨_, (pss_cons (ps_asg (pe_tup (pa_cons (pe_lc (own := [("_law_row", 1)]) (g := gName 1) (tt := tYes) (by rfl) sc.nd (pi_tup (pv 0)) (blkOk_by (own := [("_law_row", 1)]) (N := N__law_minors) (sc := defScope s__law_minors) (by decide +kernel)) (fun _ _ _ _ _ => (pg_name (i := 1) sc.nd rfl (Or.inl rfl))) (fun _ _ _ _ _ => pts_nil) (fun _ _ _ _ _ => (pe_callTy (show CallR _ (.type "list") (rLiO K) from call_list_of) (by rfl) B.list (by decide +kernel) (pa_cons (pv 1) pa_nil)))) (pa_cons pe_int (pa_cons (pe_lst pa_nil) pa_nil)))) (pg_tup rfl (pgs_cons (pg_name (i := 2) sc.nd rfl (Or.inl rfl)) (pgs_cons (pg_name (i := 3) sc.nd rfl (Or.inr rfl)) (pgs_cons (pg_name (i := 4) sc.nd rfl (Or.inl rfl)) pgs_nil)))))
      (pss_cons (ps_while PassesOwn.never (PW.pt (pw_and (pt_cmpR (op_neD h64) (pv 2) (pe_lst pa_nil) (nomark _)) (pw_and1 (pt_cmpR op_gt (pe_ix (show IxR _ (rIx K) from ix_seq) (pe_ix (show IxR _ (rIx K) from ix_seq) (pv 2) pe_int (fun _ _ => rfl)) pe_int (fun _ _ => rfl)) pe_int (nomark _)))))
      (pss_cons (ps_asg (pe_tup (pa_cons (pe_ix (show IxR _ (rIx K) from ix_seq) (pv 2) pe_int (fun _ _ => rfl)) (pa_cons (pe_slice sl_list (pv 2) (po_some pe_int) po_none) pa_nil))) (pg_tup rfl (pgs_cons (pg_name (i := 5) sc.nd rfl (Or.inr rfl)) (pgs_cons (pg_name (i := 6) sc.nd rfl (Or.inl rfl)) pgs_nil))))
        (pss_cons (ps_expr (pe_bm PySem.F.plainAttrs_list PySem.F.slot_list_append PySem.F.type_list_append mt_append (pv 4) (pa_cons (pe_ix (show IxR _ (rIx K) from ix_seq) (pv 5) pe_int (fun _ _ => rfl)) pa_nil)))
        (pss_cons (ps_setLc (i := 2) (own := [("_law_row", 1)]) (g := gName 1) (tt := tYes) (by rfl) sc.nd rfl rfl (sw_true rfl rfl rfl (by decide +kernel)) (pi_list (pv 6)) (blkOk_by (own := [("_law_row", 1)]) (N := N__law_minors) (sc := defScope s__law_minors) (by decide +kernel)) (fun _ _ _ _ _ => (pg_name (i := 1) sc.nd rfl (Or.inr rfl))) (fun _ _ _ _ _ => pts_nil) (fun _ _ _ _ _ => (pe_lc (own := [("_law_x", 7), ("_law_y", 8)]) (g := gTup K 2 (gCons (gName 7) (gCons (gName 8) gNil))) (tt := tYes) (by rfl) sc.nd (show PI _ _ _ (iZip K (tCons (tSl (rSlL K) (tVar 1) (tPart (tC (V.int 1))) tNoPart) (tCons (tSl (rSlL K) (tVar 5) (tPart (tC (V.int 1))) tNoPart) tNil))) from pi_zip (by rfl) B.zip (pa_cons (pe_slice (show SlR _ (rSlL K) from sl_list) (pv 1) (po_some pe_int) po_none) (pa_cons (pe_slice (show SlR _ (rSlL K) from sl_list) (pv 5) (po_some pe_int) po_none) pa_nil))) (blkOk_by (own := [("_law_x", 7), ("_law_y", 8)]) (N := N__law_minors) (sc := { kind := ScopeKind.function, names := [(".0", NameKind.local), ("_law_row", NameKind.cell), ("zip", NameKind.globalImplicit), ("_law_last", NameKind.cell), ("_law_top", NameKind.cell)], isGenerator := false, isCoroutine := false }) (by decide +kernel)) (fun _ _ _ _ _ => (pg_tup rfl (pgs_cons (pg_name (i := 7) sc.nd rfl (Or.inl rfl) (Or.inr rfl)) (pgs_cons (pg_name (i := 8) sc.nd rfl (Or.inl rfl) (Or.inr rfl)) pgs_nil)))) (fun _ _ _ _ _ => pts_nil) (fun _ _ _ _ _ => (pe_op op_fdivW (pe_op op_sub (pe_op op_mulW (pe_ix (show IxR _ (rIx K) from ix_seq) (pv 5) pe_int (fun _ _ => rfl)) (pv 7)) (pe_op op_mulW (pe_ix (show IxR _ (rIx K) from ix_seq) (pv 1) pe_int (fun _ _ => rfl)) (pv 8))) (pv 3))))))
        (pss_one (ps_set (i := 3) sc.nd rfl (Or.inr rfl) (pe_ix (show IxR _ (rIx K) from ix_seq) (pv 5) pe_int (fun _ _ => rfl))))))))
      (pss_one (ps_ret (pv 4))))), ?_⟩
  have hws := tws.rns
  have lw := hws.len
  refine ⟨_, rfl, t, rfl, ⟨_, SqT.of ht⟩, fun C hC => ?_⟩
  refine lc_tup (K := K) (a := t) (xs := ws) (fun i H' => Same H H' ∧ ∃ vs : List V, H' C = some (.lst vs) ∧ Rls H' C vs (rows.take i)) ⟨Same.upd_new hC, [], upd_same, .nil⟩ (fun i H' _ ⟨z, _⟩ => SqT.of (z _ _ ht)) ?_ ?_
  · rintro i y Ha hy ⟨ka, vs, hvs, tvs⟩
    obtain ⟨c, r, rfl, hr1, hc⟩ := hws.get hy
    have li : vs.length ≤ 16 := by
      rw [tvs.len, List.length_take]
      omega
    dsimp only [gName]
    have hl : SqL K Ha c (r.map V.int) ∨ SqT K Ha c (r.map V.int) := by
      rcases hc with hc | hc
      · exact .inl (SqL.of (ka _ _ hc))
      · exact .inr (SqT.of (ka _ _ hc))
    refine ⟨rfl, _, rfl, c, _, rfl, hl, fun l hl2 => ?_⟩
    have nl : l ≠ C := fun e => by rw [e, hvs] at hl2; cases hl2
    have k4 : Same Ha (upd Ha l (.lst (r.map V.int))) := Same.upd_new hl2
    refine ⟨vs, k4 _ _ hvs, Nat.lt_of_le_of_lt li (by decide), fun b o e => ?_, vs ++ [.ref l], upd_same, ?_⟩
    · rw [upd_ne (ne_of_none e hC)]
      exact k4 _ _ (ka _ _ e)
    · rw [List.take_add_one, hr1]
      refine Rls.snoc ?_ nl (tvs.keep fun b o h n => ?_)
      · show (upd (upd Ha l _) C _) l = _
        rw [upd_ne nl]
        exact upd_same
      · rw [upd_ne n]
        exact k4 _ _ h
  rintro H1 ⟨s1, vs, hvs, tvs⟩
  rw [lw, List.take_length] at tvs
  refine ⟨Nat.zero_le _, fun Dn hDn => ?_⟩
  have s2 : Same H1 (upd H1 Dn (.lst [])) := Same.upd_new hDn
  have d2 : (upd H1 Dn (.lst [])) Dn = some (.lst []) := upd_same
  have nCD : C ≠ Dn := fun e => by rw [e, hDn] at hvs; cases hvs
  have tv2 := tvs.move s2 hDn
  have hvs2 := s2 _ _ hvs
  generalize upd H1 Dn (.lst []) = H2 at s2 d2 tv2 hvs2
  have s02 := s1.trans s2
  have hDn0 : H Dn = none := s1.free hDn
  refine ⟨(by show (3 : Nat) ≤ sizeLine; decide), fun p hp => ?_⟩
  have s3 : Same H2 (upd H2 p (.tup [.ref C, .int 1, .ref Dn])) := Same.upd_new hp
  have hp3 : (upd H2 p (.tup [.ref C, .int 1, .ref Dn])) p = some (.tup [.ref C, .int 1, .ref Dn]) := upd_same
  generalize upd H2 p (.tup [.ref C, .int 1, .ref Dn]) = H3 at s3 hp3
  refine ⟨p, _, rfl, SqT.of hp3, rfl, _, _, rfl, _, _, rfl, _, _, rfl, rfl, ?_⟩
  dsimp only [gName]
  have s03 := s02.trans s3
  have fin : ∀ {H' : Hp} {fs : List Int}, (∀ b o, H3 b = some o → b ≠ Dn → H' b = some o) → H' Dn = some (.lst (fs.map V.int)) → fs = minGo m rows 1 → Q (.ref Dn) H' := fun k hD e => q _ Dn (fun b o h => k b o (s03 _ _ h) (ne_of_none h hDn0)) (by rw [hD, e])
  refine ⟨MnW H3 t Dn (minGo m rows 1), ⟨m, C, rows, 1, [], none, none, none, none, none, lm, m8, lr, fun r hr x hx' => Nat.lt_of_le_of_lt (hx r hr x hx') (Nat.lt_of_lt_of_le (by decide : 100 < 2 ^ 7) (Nat.pow_le_pow_right (by decide) (bt_7 m8))), by decide, by decide, ⟨nCD, vs, s3 _ _ hvs2, tv2.keep fun b o h _ => s3 _ _ h⟩, s3 _ _ d2, by show 0 + m ≤ 8; omega, rfl, fun b o h _ => h, rfl⟩, ?_⟩
  rintro n σ H4 ⟨R, S, last, fs, o1, o5, o6, o7, o8, lS, n8, sq, bs, l0, l2, hTb, hD, lf, tg, k4, rfl⟩
  refine ⟨_, rfl, (by show (0 : Nat) ≤ sizeLine; decide), fun L hL => ?_⟩
  have s5 : Same H4 (upd H4 L (.lst [])) := Same.upd_new hL
  have hL5 : (upd H4 L (.lst [])) L = some (.lst []) := upd_same
  obtain ⟨nR, rv, hR, trv⟩ := id hTb
  have trv5 := trv.keep (H' := upd H4 L (.lst [])) fun b o h _ => s5 _ _ h
  have hR5 := s5 _ _ hR
  have hD5 := s5 _ _ hD
  have k5 : ∀ b o, H3 b = some o → b ≠ Dn → (upd H4 L (.lst [])) b = some o := fun b o h n => s5 _ _ (k4 _ _ h n)
  generalize upd H4 L (.lst []) = H5 at s5 hL5 trv5 hR5 hD5 k5
  refine ⟨llD S, .list [], .lst (SqL.of hR5) (ll_dp trv5), .lst (SqL.of hL5) .nil, ll_shaped S, rfl, _, rfl, ?_⟩
  unfold llD
  rw [eqv_nil]
  cases S with
  | nil =>
    obtain rfl : 0 = n := lS
    exact iteF (iteF ⟨_, rfl, fin k5 hD5 (by rw [← tg]; exact (List.append_nil fs).symm)⟩)
  | cons top rest =>
  obtain ⟨f', rfl⟩ : ∃ f', n = f' + 1 := ⟨rest.length, lS.symm⟩
  have lr2 : rest.length = f' := Nat.succ.inj lS
  have lt : top.length = f' + 1 := sq top List.mem_cons_self
  obtain ⟨pc, mv, rfl, hpc, npc, tm⟩ : ∃ c mv, rv = V.ref c :: mv ∧ IsL H5 c top ∧ c ≠ Dn ∧ Rls H5 Dn mv rest := by
    cases trv5 with
    | cons a b c => exact ⟨_, _, rfl, a, b, c⟩
  have at0 : atI (V.ref pc :: mv) 0 = some (V.ref pc) := (show atI (V.ref pc :: mv) ((0 : Nat) : Int) = some (V.ref pc) from atI_nat rfl)
  refine iteT ⟨_, rfl, .inl ⟨R, _, 0, .ref pc, rfl, rfl, SqL.of hR5, at0, entL_of (j := 0) hpc (by omega) ⟨_, _, rfl, rfl, _, rfl, ?_⟩⟩⟩
  have em : minGo (f' + 1) (top :: rest) last = if 0 < top.getD 0 0 then top.getD 0 0 :: minGo f' (rest.map fun row => stepL top row last) (top.getD 0 0) else [] := rfl
  rw [em] at tg
  by_cases pp : 0 < top.getD 0 0
  case neg =>
    rw [if_neg pp, List.append_nil] at tg
    rw [decide_eq_false pp]
    exact iteF ⟨_, rfl, fin k5 hD5 tg⟩
  rw [if_pos pp] at tg
  rw [decide_eq_true pp]
  refine iteT ⟨MnW H3 t Dn (minGo m rows 1) f', fun σ' H' h => ⟨f', by omega, h⟩, ?_⟩
  refine ⟨_, rfl, .inl ⟨R, _, 0, .ref pc, rfl, rfl, SqL.of hR5, at0, ?_⟩⟩
  refine ⟨_, rfl, 1, rfl, R, _, rfl, SqL.of hR5, fun C0 hC0 => ?_⟩
  rw [cut_1, List.drop_one, List.tail_cons]
  have s6 : Same H5 (upd H5 C0 (.lst mv)) := Same.upd_new hC0
  have h6 : (upd H5 C0 (.lst mv)) C0 = some (.lst mv) := upd_same
  have nC0 : C0 ≠ Dn := fun e => by rw [e, hD5] at hC0; cases hC0
  have tm6 := tm.keep (H' := upd H5 C0 (.lst mv)) fun b o h _ => s6 _ _ h
  have hpc6 : IsL (upd H5 C0 (.lst mv)) pc top := s6 _ _ hpc
  have hD6 := s6 _ _ hD5
  have k6 : ∀ b o, H3 b = some o → b ≠ Dn → (upd H5 C0 (.lst mv)) b = some o := fun b o h n => s6 _ _ (k5 _ _ h n)
  generalize upd H5 C0 (.lst mv) = H6 at s6 h6 tm6 hpc6 hD6 k6
  refine ⟨(by show (2 : Nat) ≤ sizeLine; decide), fun p2 hp2 => ?_⟩
  have s7 : Same H6 (upd H6 p2 (.tup [.ref pc, .ref C0])) := Same.upd_new hp2
  have g7 : (upd H6 p2 (.tup [.ref pc, .ref C0])) p2 = some (.tup [.ref pc, .ref C0]) := upd_same
  have tm7 := tm6.keep (H' := upd H6 p2 (.tup [.ref pc, .ref C0])) fun b o h _ => s7 _ _ h
  have hpc7 : IsL (upd H6 p2 (.tup [.ref pc, .ref C0])) pc top := s7 _ _ hpc6
  have hD7 := s7 _ _ hD6
  have h7 := s7 _ _ h6
  have k7 : ∀ b o, H3 b = some o → b ≠ Dn → (upd H6 p2 (.tup [.ref pc, .ref C0])) b = some o := fun b o h n => s7 _ _ (k6 _ _ h n)
  generalize upd H6 p2 (.tup [.ref pc, .ref C0]) = H7 at s7 g7 tm7 hpc7 hD7 h7 k7
  refine ⟨p2, _, rfl, SqT.of g7, rfl, _, _, rfl, _, _, rfl, rfl, ?_⟩
  dsimp only [gName]
  refine ⟨_, rfl, .inl ⟨rfl, _, SqL.of hD7⟩, _, rfl, entL_of (j := 0) hpc7 (by omega) ⟨Dn, _, _, rfl, rfl, hD7, (by rw [List.length_map]; exact Nat.lt_of_le_of_lt (by omega : fs.length ≤ 8) (by decide)), ?_⟩⟩
  have k8' : ∀ b o, H7 b = some o → b ≠ Dn → (upd H7 Dn (.lst (fs.map V.int ++ [V.int (top.getD 0 0)]))) b = some o := fun b o h n => by rw [upd_ne n]; exact h
  have hD8 : (upd H7 Dn (.lst (fs.map V.int ++ [V.int (top.getD 0 0)]))) Dn = some (.lst ((fs ++ [top.getD 0 0]).map V.int)) := by rw [upd_same, List.map_append]; rfl
  have tm8 := tm7.keep k8'
  have hpc8 : IsL (upd H7 Dn (.lst (fs.map V.int ++ [V.int (top.getD 0 0)]))) pc top := k8' _ _ hpc7 npc
  have h8 := k8' _ _ h7 nC0
  have k8 : ∀ b o, H3 b = some o → b ≠ Dn → (upd H7 Dn (.lst (fs.map V.int ++ [V.int (top.getD 0 0)]))) b = some o := fun b o h n => k8' _ _ (k7 _ _ h n) n
  generalize upd H7 Dn (.lst (fs.map V.int ++ [V.int (top.getD 0 0)])) = H8 at hD8 tm8 hpc8 h8 k8
  clear k8' hD7 hD6 hD5 tm7 tm6 tm trv5 hR5 s7 s6 s5 g7 h7 h6
  refine ⟨_, rfl, C0, rfl, ⟨_, SqL.of h8⟩, fun C1 hC1 => ?_⟩
  have nDC1 : Dn ≠ C1 := fun e => by rw [e, hC1] at hD8; cases hD8
  have lmv : mv.length = f' := by rw [tm8.len, lr2]
  have btT := bs top List.mem_cons_self
  refine lc_list (K := K) (a := C0) (xs := mv) (fun j H' => Same H8 H' ∧ ∃ vs2 : List V, H' C1 = some (.lst vs2) ∧ vs2.length = j ∧ Rls H' C1 vs2 ((rest.map fun row => stepL top row last).take j) ∧ ∀ v ∈ vs2, v ≠ .ref Dn) ⟨Same.upd_new hC1, [], upd_same, rfl, .nil, fun v hv => (by cases hv)⟩ (fun j H' _ ⟨z, _⟩ => SqL.of (z _ _ h8)) ?_ ?_
  · rintro j x0 Ha hxj ⟨ka, vs2, hv2, lv2, tv2, nd⟩
    obtain ⟨c, r, rfl, hr0, hc, nc⟩ := tm8.get hxj
    have hc8 : IsL H8 c r := hc
    have jl : j < f' := by
      have := (List.getElem?_eq_some_iff.mp hr0).1
      omega
    have mr : r ∈ rest := List.mem_of_getElem? hr0
    have lr3 : r.length = f' + 1 := sq r (List.mem_cons_of_mem _ mr)
    have btR := bs r (List.mem_cons_of_mem _ mr)
    dsimp only [gName]
    refine ⟨rfl, ?_⟩
    refine ⟨_, rfl, 1, rfl, c, _, rfl, SqL.of (ka _ _ hc8), fun A1 hA1 => ?_⟩
    rw [cut_1, drop1]
    have u1 : Same Ha (upd Ha A1 (.lst ((r.drop 1).map V.int))) := Same.upd_new hA1
    have v1 : (upd Ha A1 (.lst ((r.drop 1).map V.int))) A1 = some (.lst ((r.drop 1).map V.int)) := upd_same
    generalize upd Ha A1 (.lst ((r.drop 1).map V.int)) = Hb at u1 v1
    refine ⟨_, rfl, 1, rfl, pc, _, rfl, SqL.of (u1 _ _ (ka _ _ hpc8)), fun A2 hA2 => ?_⟩
    rw [cut_1, drop1]
    have u2 : Same Hb (upd Hb A2 (.lst ((top.drop 1).map V.int))) := Same.upd_new hA2
    have v2 : (upd Hb A2 (.lst ((top.drop 1).map V.int))) A2 = some (.lst ((top.drop 1).map V.int)) := upd_same
    have v1' := u2 _ _ v1
    generalize upd Hb A2 (.lst ((top.drop 1).map V.int)) = Hc at u2 v2 v1'
    have kc := ka.trans (u1.trans u2)
    have tvc := tv2.keep (H' := Hc) fun b o h _ => u2 _ _ (u1 _ _ h)
    have hvc := u2 _ _ (u1 _ _ hv2)
    refine ⟨A1, A2, _, _, rfl, SqL.of v1', SqL.of v2, fun C3 hC3 => ?_⟩
    refine lc_it (walk_zip (K := K) (a := A1) (b := A2) (xs := (r.drop 1).map V.int) (ys := (top.drop 1).map V.int) (n := f') (by rw [List.length_map, List.length_map, List.length_drop, List.length_drop]; omega)) (fun i H' => Same Hc H' ∧ H' C3 = some (.lst (((List.range i).map fun i => (top.getD 0 0 * r.getD (i + 1) 0 - r.getD 0 0 * top.getD (i + 1) 0) / last).map V.int))) ⟨Same.upd_new hC3, upd_same⟩ (fun i H' _ ⟨z, _⟩ => ⟨SqL.of (z _ _ v1'), SqL.of (z _ _ v2)⟩) ?_ ?_
    · rintro i x0 Hd He hi ⟨kd, h3⟩ ⟨T, x, y, rfl, hT, rfl, hx', hy'⟩
      obtain rfl : x = V.int ((r.drop 1).getD i 0) := Option.some.inj (hx'.symm.trans (getD_at (by rw [List.length_drop]; omega)))
      obtain rfl : y = V.int ((top.drop 1).getD i 0) := Option.some.inj (hy'.symm.trans (getD_at (by rw [List.length_drop]; omega)))
      rw [drop1_getD, drop1_getD] at *
      have k4' : Same Hd (upd Hd T (.tup [V.int (r.getD (i + 1) 0), V.int (top.getD (i + 1) 0)])) := Same.upd_new hT
      refine ⟨T, _, rfl, SqT.of upd_same, rfl, ?_⟩
      refine ⟨_, _, rfl, _, _, rfl, rfl, rfl, ?_⟩
      have pcE : IsL (upd Hd T (.tup [V.int (r.getD (i + 1) 0), V.int (top.getD (i + 1) 0)])) pc top := k4' _ _ (kd _ _ (kc _ _ hpc8))
      have cE : IsL (upd Hd T (.tup [V.int (r.getD (i + 1) 0), V.int (top.getD (i + 1) 0)])) c r := k4' _ _ (kd _ _ (kc _ _ hc8))
      refine ⟨_, rfl, entL_of (j := 0) pcE (by omega) ⟨_, rfl, _, _, rfl, rfl, mul_bt (by omega) (getD_lt' btT 0) (getD_lt' btR (i + 1)), ?_⟩⟩
      refine ⟨_, rfl, entL_of (j := 0) cE (by omega) ⟨_, rfl, _, _, rfl, rfl, mul_bt (by omega) (getD_lt' btR 0) (getD_lt' btT (i + 1)), _, _, rfl, rfl, ?_⟩⟩
      refine ⟨_, rfl, _, _, rfl, rfl, wide_div (b := 8000) l0 (Nat.lt_trans l2 (Nat.pow_lt_pow_right (by decide) (by decide))) (by decide) (by decide), ?_⟩
      refine ⟨_, k4' _ _ h3, ?_, fun b o e => ?_, ?_⟩
      · rw [List.length_map, List.length_map, List.length_range]
        exact Nat.lt_of_le_of_lt (by omega : i ≤ 400) (by decide)
      · rw [upd_ne (ne_of_none e hC3)]
        exact k4' _ _ (kd _ _ e)
      · rw [upd_same, List.range_succ, List.map_append, List.map_append]
        rfl
    rintro Hd ⟨kd, h3⟩
    have eS : ((List.range f').map fun i => (top.getD 0 0 * r.getD (i + 1) 0 - r.getD 0 0 * top.getD (i + 1) 0) / last) = stepL top r last := by
      unfold stepL
      rw [lr3, Nat.add_sub_cancel]
    rw [eS] at h3
    have nC31 : C3 ≠ C1 := fun e => by rw [e, hvc] at hC3; cases hC3
    have nC3D : C3 ≠ Dn := fun e => by rw [e, kc _ _ hD8] at hC3; cases hC3
    refine ⟨vs2, kd _ _ hvc, Nat.lt_of_le_of_lt (by omega : vs2.length ≤ 16) (by decide), fun b o e => ?_, vs2 ++ [V.ref C3], upd_same, by rw [List.length_append, lv2]; rfl, ?_, fun v hv => ?_⟩
    · rw [upd_ne (ne_of_none e hC1)]
      exact kd _ _ (kc _ _ e)
    · have e5 : (rest.map fun row => stepL top row last)[j]? = some (stepL top r last) := by rw [List.getElem?_map, hr0]; rfl
      rw [take_snocA e5]
      refine Rls.snoc ?_ nC31 (tvc.keep fun b o h n => ?_)
      · unfold IsL
        rw [upd_ne nC31]
        exact h3
      · rw [upd_ne n]
        exact kd _ _ h
    · rcases List.mem_append.mp hv with hv | hv
      · exact nd v hv
      · rw [List.mem_singleton.mp hv]
        exact fun e => nC3D (V.ref.inj e)
  rintro H9 ⟨s9, vs2, hv2, lv2, tv2, nd⟩
  rw [lmv, List.take_of_length_le (by rw [List.length_map]; omega)] at tv2
  dsimp only [gName]
  refine ⟨_, rfl, entL_of (j := 0) (show IsL H9 pc top from s9 _ _ hpc8) (by omega) ?_⟩
  dsimp only [gName]
  refine ⟨C1, _, _, _, _, _, _, _, _, by rw [List.length_map]; exact lr2, by omega, Sq_.step (n := f' + 1) sq, fun r hr x hx' => ?_, pp, bt_2000 (by omega) (getD_lt' btT 0), ⟨fun e => nDC1 e.symm, vs2, hv2, tv2.other nd⟩, s9 _ _ hD8, by rw [List.length_append]; show fs.length + 1 + f' ≤ 8; omega, by rw [List.append_assoc]; exact tg, fun b o h n => s9 _ _ (k8 _ _ h n), rfl⟩
  obtain ⟨r0, h0, rfl⟩ := List.mem_map.mp hr
  unfold stepL at hx'
  obtain ⟨i, _, rfl⟩ := List.mem_map.mp hx'
  have b0 := bs r0 (List.mem_cons_of_mem _ h0)
  have := nxt_lt (q := last) (getD_lt' btT 0) (getD_lt' b0 (i + 1)) (getD_lt' b0 0) (getD_lt' btT (i + 1))
  rwa [bt_step (by omega)] at this
end
end Ft

namespace Ft
open PySem L2
theorem ints_all {m : Nat} : ∀ ds : List PyData, ds.all (intsD m) = (ds.all (rowD m) && ds.all fun d => (entD d).all id)
  | [] => rfl
  | d :: ds => by
    rw [List.all_cons, List.all_cons, List.all_cons, ints_all ds]
    have e : intsD m d = (rowD m d && (entD d).all id) := by
      cases d with
      | tuple es =>
        show (decide (es.length = m) && es.all isIntD) = (decide (es.length = m) && (es.map isIntD).all id)
        rw [List.all_map]
        rfl
      | int _ => rfl
      | str _ => rfl
      | none => rfl
      | bool _ => rfl
      | list _ => rfl
      | dict _ => rfl
    rw [e]
    cases rowD m d <;> cases (entD d).all id <;> cases ds.all (rowD m) <;> simp
/-- the law's look at a row -/
def badE (rows : List (List Int)) (i j : Nat) : Bool := decide (100 < (ent rows i j).natAbs) || decide (ent rows i j ≠ ent rows j i)
def lawRow (rows : List (List Int)) (m i : Nat) : Bool := decide (ent rows i i % 2 = 0) && ((List.range m).filter fun j => badE rows i j).isEmpty
theorem lawRow_iff {rows : List (List Int)} {m i : Nat} : lawRow rows m i = true ↔ ent rows i i % 2 = 0 ∧ ∀ j, j < m → (ent rows i j).natAbs ≤ 100 ∧ ent rows i j = ent rows j i := by
  unfold lawRow
  rw [Bool.and_eq_true, decide_eq_true_eq, List.isEmpty_iff, List.filter_eq_nil_iff]
  refine and_congr_right fun _ => ⟨fun h j hj => ?_, fun h j hj => ?_⟩
  · have := h j (List.mem_range.mpr hj)
    unfold badE at this
    simp only [Bool.or_eq_true, decide_eq_true_eq, not_or] at this
    exact ⟨by omega, by have := this.2; exact Classical.not_not.mp this⟩
  · have := h j (List.mem_range.mp hj)
    unfold badE
    simp only [Bool.or_eq_true, decide_eq_true_eq, not_or]
    exact ⟨by omega, fun h => h this.2⟩
theorem law_even {rows : List (List Int)} {m : Nat} (lm : rows.length = m) (lr : ∀ r ∈ rows, r.length = m) : (∀ i, i < m → lawRow rows m i = true) ↔ smallEven rows m = true := by
  have ee : ∀ i j, i < m → j < m → ∃ r ∈ rows, ent rows i j ∈ r := fun i j hi hj => by
    have hr : rows.getD i [] ∈ rows := mem_getD (by omega)
    exact ⟨_, hr, getD_memI (by rw [lr _ hr]; exact hj)⟩
  have eo : ∀ r ∈ rows, ∀ x ∈ r, ∃ i j, i < m ∧ j < m ∧ ent rows i j = x := fun r hr x hx => by
    obtain ⟨i, hi, rfl⟩ := List.getElem_of_mem hr
    obtain ⟨j, hj, rfl⟩ := List.getElem_of_mem hx
    refine ⟨i, j, by omega, by have := lr _ hr; omega, ?_⟩
    unfold ent
    rw [List.getD_eq_getElem?_getD, List.getD_eq_getElem?_getD, List.getElem?_eq_getElem hi]
    show (rows[i][j]?).getD 0 = rows[i][j]
    rw [List.getElem?_eq_getElem hj]
    rfl
  unfold smallEven
  rw [Bool.and_eq_true, Bool.and_eq_true]
  constructor
  · intro h
    refine ⟨List.all_eq_true.mpr fun b hb => ?_, List.all_eq_true.mpr fun b hb => ?_, List.all_eq_true.mpr fun b hb => ?_⟩
    · obtain ⟨r, hr, hb⟩ := List.mem_flatMap.mp hb
      obtain ⟨x, hx, rfl⟩ := List.mem_map.mp hb
      obtain ⟨i, j, hi, hj, rfl⟩ := eo r hr x hx
      have := ((lawRow_iff.mp (h i hi)).2 j hj).1
      show (decide (-100 ≤ ent rows i j) && decide (ent rows i j ≤ 100)) = true
      rw [decide_eq_true (by omega), decide_eq_true (by omega)]
      rfl
    · obtain ⟨i, hi, hb⟩ := List.mem_flatMap.mp hb
      obtain ⟨j, hj, rfl⟩ := List.mem_map.mp hb
      have hi := List.mem_range.mp hi
      have hj := List.mem_range.mp hj
      exact decide_eq_true ((lawRow_iff.mp (h i hi)).2 j (by omega)).2
    · obtain ⟨i, hi, rfl⟩ := List.mem_map.mp hb
      exact decide_eq_true (lawRow_iff.mp (h i (List.mem_range.mp hi))).1
  · rintro ⟨h1, h2, h3⟩ i hi
    refine lawRow_iff.mpr ⟨?_, fun j hj => ⟨?_, ?_⟩⟩
    · exact of_decide_eq_true (List.all_eq_true.mp h3 _ (List.mem_map.mpr ⟨i, List.mem_range.mpr hi, rfl⟩))
    · obtain ⟨r, hr, hx⟩ := ee i j hi hj
      exact rng_le h1 r hr _ hx
    · rcases Nat.lt_trichotomy i j with h | h | h
      · exact (of_decide_eq_true (List.all_eq_true.mp h2 _ (List.mem_flatMap.mpr ⟨j, List.mem_range.mpr hj, List.mem_map.mpr ⟨i, List.mem_range.mpr h, rfl⟩⟩))).symm
      · rw [h]
      · exact of_decide_eq_true (List.all_eq_true.mp h2 _ (List.mem_flatMap.mpr ⟨i, List.mem_range.mpr hi, List.mem_map.mpr ⟨j, List.mem_range.mpr h, rfl⟩⟩))
end Ft

/-! enumerate over a tuple -/
namespace Ft
open PySem PySem.Spec PyProof.Rows L2
/-- the tuple at a, each item in a new pair with its place -/
def IteT (K : PySem.W.Frag) (a : Addr) : It where
  go := fun i H => ∃ ys : List V, SqT K H a ys ∧ i < ys.length
  yld := fun i H v H' => ∃ T y, v = .ref T ∧ H T = none ∧ H' = upd H T (.tup [.int (i : Nat), y]) ∧ ∀ ys, SqT K H a ys → ys[i]? = some y
  stop := fun i H => ∃ ys : List V, SqT K H a ys ∧ ys.length = i
theorem other_cls {h : Heap} {a b : Addr} {o : Obj} {us : Array Value} (t : h.IsTuple a us) (e : h.get? b = some o) (c : o.cls ≠ .type "tuple") : a ≠ b := by
  rintro rfl
  obtain ⟨o', e', c', _⟩ := t
  rw [e] at e'
  cases e'
  exact c c'
theorem turn_enumT {P : Program} {w : World} {K : PySem.W.Frag} {elts : List Expr} {kk : Nat} {tpos : Pos} (a e j : Addr) :
    Turn P w K (.Tuple elts kk tpos) (IteT K a) [e, j] e (fun i h => (∃ old, IsEnum h e j ((i : Nat) : Int) old) ∧ h.IsTupleIter j a i ∧ e ≠ j) where
  mem := List.mem_cons_self
  obj := fun i h z b hb => by
    obtain ⟨⟨old, ee⟩, ⟨o, eo, _, od⟩, _⟩ := z
    rcases List.mem_cons.mp hb with rfl | hb
    · exact ⟨_, ee, fun v y => nomatch y⟩
    · obtain rfl := List.mem_singleton.mp hb
      exact ⟨o, eo, fun v y => by rw [od] at y; cases y⟩
  keep := fun i h h' z k => ⟨z.1.imp fun old y => k e List.mem_cons_self _ y, z.2.1.at fun o y => k j (List.mem_cons_of_mem _ List.mem_cons_self) o y, z.2.2⟩
  item := by
    intro X hP hw hK hc i pins s σ H E I hf z g
    subst hP hw hK
    obtain ⟨⟨old, ee⟩, ej, ne⟩ := z
    obtain ⟨ys, sq, lt⟩ := g
    obtain ⟨us, rv, tp, _⟩ := I.tuple sq
    have tp' : s.heap.IsTuple a us.toArray := tp
    have lu : i < us.toArray.size := by have := rv.length; simp; omega
    have ae : a ≠ e := other_cls tp' ee (show Value.type "enumerate" ≠ Value.type "tuple" by decide +kernel)
    have aj : a ≠ j := by obtain ⟨o, eo, oc, _⟩ := id ej; exact other_cls tp' eo (by rw [oc]; decide +kernel)
    have el := Heap.lt_size ee
    have jl : j < s.heap.objs.size := by obtain ⟨o, eo, _⟩ := id ej; exact Heap.lt_size eo
    have hd : X.A.in1.handled = none := I.ok.hd hc
    refine wpAny_pyNext_enum_itemD (Draws.tuple hd j a aj us.toArray) ee ⟨ej, tp'⟩ lu ne (fun y => by
      rcases List.mem_cons.mp y with y | y
      · exact ne y
      · exact ae (List.mem_singleton.mp y).symm) fun u h' tk hu out z' hT _ kp => ?_
    refine ⟨_, rfl, wpAny_letOwnedTupleGo_enum (s := { s with heap := h', toks := tk + 1 }) out fun h2 e2 sb => ?_⟩
    have tT : h2.get? s.heap.objs.size = some { cls := .type "tuple", data := .seq #[.int i tk, u] } := (sb.2 _ (Nat.ne_of_gt el)).trans hT
    have hy : ys[i]? = some ys[i] := List.getElem?_eq_getElem lt
    obtain ⟨u', hu', ru⟩ := rv.get hy
    have uu : us[i]? = some u := by simpa using hu
    obtain rfl : u' = u := Option.some.inj (hu'.symm.trans uu)
    have nw : ObjOk X.prog X.w (upd H s.heap.objs.size (.tup [.int (i : Nat), ys[i]])) h2 s.heap.objs.size (.tup [.int (i : Nat), ys[i]]) :=
      ⟨(by show (2 : Nat) ≤ sizeLine; decide), [.int i tk, u'], .cons ⟨_, rfl⟩ (.cons ru .nil), ⟨_, tT, rfl, _, rfl⟩⟩
    have I2 : Inv X pins σ (upd H s.heap.objs.size (.tup [.int (i : Nat), ys[i]])) { s with heap := h2, toks := tk + 1 } :=
      I.turnedNew (ch := [e, j]) (fun b o nb y => (sb.2 b fun y' => nb (by rw [y']; exact List.mem_cons_self)).trans (kp b o (fun y' => nb (by rw [y']; exact List.mem_cons_self)) (fun y' => nb (by rw [y']; exact List.mem_cons_of_mem _ List.mem_cons_self)) y)) hf (Nat.le_refl _) nw
    refine ⟨.ref s.heap.objs.size, _, I2, rfl, ⟨_, _, rfl, I.hok.fresh (Nat.le_refl _), rfl, fun zs hz => by rw [I.tuple_inj hz sq]; exact hy⟩, ⟨⟨u', ?_⟩, z'.1.at fun o y => (sb.2 j ne.symm).trans y, ne⟩, fun b hb => ?_⟩
    · rw [show ((i + 1 : Nat) : Int) = (i : Int) + 1 by omega]
      exact e2
    · have bl : b < s.heap.objs.size := by
        rcases List.mem_cons.mp hb with rfl | hb'
        · exact el
        · rw [List.mem_singleton.mp hb']; exact jl
      rw [upd_ne (Nat.ne_of_lt bl)]
      exact (hf b hb).1
  done := by
    intro X hP hw hK hc i pins s σ H E I hf z g
    subst hP hw hK
    obtain ⟨⟨old, ee⟩, ej, ne⟩ := z
    obtain ⟨ys, sq, ge⟩ := g
    obtain ⟨us, rv, tp, _⟩ := I.tuple sq
    have lu : us.toArray.size = i := by have := rv.length; simp; omega
    subst lu
    have tp' : s.heap.IsTuple a us.toArray := tp
    have aj : a ≠ j := by obtain ⟨o, eo, oc, _⟩ := id ej; exact other_cls tp' eo (by rw [oc]; decide +kernel)
    have hd : X.A.in1.handled = none := I.ok.hd hc
    obtain ⟨f0, f1, f2, f3, f4, f5⟩ := hf j (List.mem_cons_of_mem _ List.mem_cons_self)
    exact wpAny_pyNext_enum_endD (Draws.tuple hd j a aj us.toArray) ee ⟨ej, tp'⟩ fun h' eb => ⟨rfl, I.turned (t' := s.toks) (fun b o nb y => eb b o nb y) f0 f1 f3 f4 f5⟩
  self := fun A i s Q E z h => wpAny_pyIter_enum z.1.choose_spec h
theorem meets_enum1 {v : Value} {o : Obj} {P1 : Heap → Prop} (B : Begins v o P1) :
    Meets (Builtin.«enumerate.__new__» ⟨[.type "enumerate", v], []⟩) (fun _ R s => P1 s.heap ∧
      R (.ok (.ret (.ref (s.heap.push o).objs.size))) { s with heap := (s.heap.push o).push { cls := .type "enumerate", data := .fields #[.none, .bool false, .ref s.heap.objs.size, rawInt 0, .none, .none] } }) :=
  .of_wp fun pr w A R s z => by
    obtain ⟨hp, g, d, tk, os⟩ := s
    obtain ⟨z1, z2⟩ := z
    have sube := sub_enumerate
    have begin_ : ∀ {A' : Around} {E : Value → Shared → Prop} {Q : Value → Shared → Prop}, Q (.ref hp.objs.size) ⟨hp.push o, g, d, tk, os⟩ → wpAny (model pr w) A' (pyIter v) Q E ⟨hp, g, d, tk, os⟩ :=
      fun y => B.iter pr w _ _ ⟨hp, g, d, tk, os⟩ _ z1 y
    wp_walk using begin_
    refine wpAny_stack_any fun st => wpAny_pure ?_
    split
    · rename_i c _ _ _ _ _
      cases (c == Value.type "enumerate") <;> (wp_walk using begin_; exact ⟨_, rfl, z2⟩)
    · wp_walk using begin_; exact ⟨_, rfl, z2⟩
section
variable {pr : Program} {w : World} {A : Around} {E : Value → Shared → Prop} {s : Shared}
theorem enum1_begins {v : Value} {o : Obj} {P1 : Heap → Prop} {Q : Value → Shared → Prop} (B : Begins v o P1) (z : P1 s.heap)
    (q : ∀ h', IsEnum h' (s.heap.objs.size + 1) s.heap.objs.size 0 .none → h'.get? s.heap.objs.size = some o → (∀ b o', s.heap.get? b = some o' → h'.get? b = some o') → Q (.ref (s.heap.objs.size + 1)) { s with heap := h' }) :
    wpAny (model pr w) A (call (.type "enumerate") [v]) Q E s := by
  have sz : (s.heap.push o).objs.size = s.heap.objs.size + 1 := Heap.size_push ..
  have ie := Heap.get?_push_size (s.heap.push o) (o := { cls := .type "enumerate", data := .fields #[.none, .bool false, .ref s.heap.objs.size, rawInt 0, .none, .none] }) rfl
  rw [sz] at ie
  refine callType_new F.called_enumerate (by decide) (F.typeCall_enumerate_1 _) (F.newCall_enumerate_1 _) (fun ob => F.args_object_init_2 ob _) F.entry_enumerate_new (meets_enum1 B) ⟨z, ?_⟩
  rw [sz]
  exact ⟨⟨_, ie, rfl⟩, q _ ie (Heap.get?_push_of_some _ (Heap.get?_push_size _ B.free)) fun b o' y => Heap.get?_push_of_some _ (Heap.get?_push_of_some _ y)⟩
end
def iEnumT (K : PySem.W.Frag) (ta : TA) : TI := fun σ H R => ta σ H fun vs H1 => ∃ a ys, vs = [.ref a] ∧ SqT K H1 a ys ∧ R (IteT K a) H1
/-- enumerate(t), t a tuple -/
theorem pi_enumT {X : Cx} {e : Expr} {ta : TA} {p pos tpos : Pos} {elts : List Expr} {kk : Nat} (hg : Gl X "enumerate") (hm : X.mg "enumerate" = none) (ha : PA X [e] ta) (hs : starEach [e] X.env = [(false, eval e X.env)] := by rfl) :
    PI X (.Tuple elts kk tpos) (.Call (.Name "enumerate" p) [e] [] pos) (iEnumT X.K ta) := by
  refine ⟨fun pins s σ H R I z => Call_ (ld_blt I hg hm PyProof.Rows.boot_enumerate (PyProof.Rows.callWith_type1 (thn (ha.run pos pins s σ H _ I z) fun us s1 ⟨vs, H1, I1, r1, q1⟩ => ?_) hs rfl))⟩
  obtain ⟨a, ys, rfl, sq, q⟩ := q1
  obtain ⟨u, rfl, ru⟩ := vals1 r1
  obtain rfl : u = Value.ref a := ru
  obtain ⟨its, rv, tp, _⟩ := I1.tuple sq
  refine enum1_begins (begins_tuple a its.toArray) (show s1.heap.IsTuple a its.toArray from tp) fun h' ie ij kp => wpAny_pyIter_enum ie ?_
  have I2 : Inv X pins σ H1 { s1 with heap := h' } := I1.kept (t' := s1.toks) kp
  refine ⟨s1.heap.objs.size + 1, [s1.heap.objs.size + 1, s1.heap.objs.size], _, _, H1, rfl, I2, turn_enumT a (s1.heap.objs.size + 1) s1.heap.objs.size, ⟨⟨.none, ie⟩, ⟨_, ij, rfl, rfl⟩, Nat.succ_ne_self _⟩, fun b hb => ?_, q⟩
  have le : s1.heap.objs.size ≤ b := by
    rcases List.mem_cons.mp hb with rfl | hb'
    · exact Nat.le_succ _
    · rw [List.mem_singleton.mp hb']; exact Nat.le_refl _
  exact I1.fpOk le (I1.hok.fresh le)
theorem walk_enumT {K : PySem.W.Frag} {a : Addr} {xs : List V} : Walk (IteT K a) xs.length (fun H => SqT K H a xs) (YPair (fun i => some (.int (i : Nat))) (fun i => xs[i]?)) :=
  ⟨fun _ _ lt q => ⟨xs, q, lt⟩, fun _ q => ⟨xs, q, rfl⟩, fun i _ _ _ _ q y => by
    obtain ⟨T, x, e1, e2, e3, e4⟩ := y
    exact ⟨T, .int (i : Nat), x, e1, e2, e3, rfl, e4 xs q⟩⟩
end Ft

set_option exponentiation.threshold 9000
set_option maxHeartbeats 4000000
namespace Ft
open PySem L2
theorem abs_ifN (x : Int) : (if x < 0 then -x else x) = (x.natAbs : Int) := by split <;> omega
section
variable {P : Program} {w : World} {K : PySem.W.Frag} {mg : Str → Option Value} {base : Heap}
theorem ok_lisForm (D : Df K mg "_law_is_form" s__law_is_form ["_law_thing"]) (B : Bi mg) (c__law_are_integers : Cal P w K mg base 2 "_law_are_integers" sp_tupQ) (c__law_minors : Cal P w K mg base 1 "_law_minors" sp_minors) : Cal P w K mg base 3 "_law_is_form" sp_formQ := by
  obtain ⟨f, fd, F, m, b⟩ := D.ex
  have sc := sc__law_is_form
  refine ⟨f, fd, _, F.ok sc (fun _ _ _ _ ⟨_, _, _, e, _⟩ => by rw [e]; rfl) (fun cdv A outer s H vs Q E hr h => ?_), m, F.kp, b⟩
  obtain ⟨v, D, N, rfl, hd, q⟩ := h
  have h64 : (A.deeper (PyProof.Rows.envOfC "_law_is_form" (defScope s__law_is_form) s.heap.objs.size f cdv)).units + 64 < cLine := by have := hr.un; omega
  refine ⟨_, (pss_cons (ps_if (PW.pt (pw_or (pt_not (pt_val (pe_callB (id := "isinstance") (r := rIsi K) call_isi (by rfl) B.isinstance (by decide +kernel) (pa_cons (pv 0) (pa_cons (pe_ty (n := "tuple") (by rfl) B.tuple (by decide +kernel)) pa_nil))))) (pw_or1 (pt_cmpR (show OpR _ (compareOp .NotIn) (rIn K true) from op_notIn_seq) (pe_callB (id := "len") (r := rLeO K) call_len_seq (by rfl) B.len_ (by decide +kernel) (pa_cons (pv 0) pa_nil)) (pe_tup (pa_cons pe_int (pa_cons pe_int (pa_cons pe_int (pa_cons pe_int pa_nil))))) (by rfl)))))
      (pss_one (ps_ret pe_bl))
      pss_nil)
      (pss_cons (ps_set (i := 1) sc.nd rfl (Or.inr rfl) (pe_callB (id := "len") (r := rLeO K) call_len_seq (by rfl) B.len_ (by decide +kernel) (pa_cons (pv 0) pa_nil)))
      (pss_cons (ps_if (pt_cmpR (op_neD h64) (pe_lc (own := [("_law_row", 2)]) (g := gName 2)  (by rfl) sc.nd (pi_tup (pv 0)) (blkOk_by (own := [("_law_row", 2)]) (N := N__law_is_form) (sc := defScope s__law_is_form) (by decide +kernel)) (fun _ _ _ _ _ => (pg_name (i := 2) sc.nd rfl (Or.inl rfl))) (fun _ _ _ _ _ => (pts_one (pt_not (pt_val (pe_c c__law_are_integers hr (by decide) (by rfl) (pa_cons (pv 2) (pa_cons (pv 1) pa_nil))))))) (fun _ _ _ _ _ => pe_int)) (pe_lst pa_nil) (nomark _))
      (pss_one (ps_ret pe_bl))
      pss_nil)
      (pss_cons (ps_for PassesOwn.never rfl (pi_enumT (by rfl) B.enumerate (pa_cons (pv 0) pa_nil)) (pg_tup rfl (pgs_cons (pg_name (i := 3) sc.nd rfl (Or.inr rfl)) (pgs_cons (pg_name (i := 2) sc.nd rfl (Or.inl rfl)) pgs_nil)))
      (pss_one (ps_if (PW.pt (pw_or (pt_cmpR op_ne (pe_op op_mod (pe_callTy call_int1 (by rfl) B.int_ (by decide +kernel) (pa_cons (pe_ix (show IxR _ (rIx K) from ix_seq) (pv 2) (pv 3) (fun _ _ => rfl)) pa_nil)) pe_int) pe_int (nomark _)) (pw_or1 (pt_cmpR (op_neD h64) (pe_lc (own := [("_law_j", 4), ("_law_x", 5)]) (g := gTup K 2 (gCons (gName 4) (gCons (gName 5) gNil)))  (by rfl) sc.nd (pi_enumT (by rfl) B.enumerate (pa_cons (pv 2) pa_nil)) (blkOk_by (own := [("_law_j", 4), ("_law_x", 5)]) (N := N__law_is_form) (sc := defScope s__law_is_form) (by decide +kernel)) (fun _ _ _ _ _ => (pg_tup rfl (pgs_cons (pg_name (i := 4) sc.nd rfl (Or.inl rfl) (Or.inr rfl)) (pgs_cons (pg_name (i := 5) sc.nd rfl (Or.inl rfl) (Or.inr rfl)) pgs_nil)))) (fun _ _ _ _ _ => (pts_one (PW.pt (pw_or (pt_cmpR op_gt (pe_callB call_abs (by rfl) B.abs (by decide +kernel) (pa_cons (pv 5) pa_nil)) pe_int (nomark _)) (pw_or1 (pt_cmpR op_ne (pv 5) (pe_ix (show IxR _ (rIx K) from ix_seq) (pe_ix (show IxR _ (rIx K) from ix_seq) (pv 0) (pv 4) (fun _ _ => rfl)) (pv 3) (fun _ _ => rfl)) (nomark _))))))) (fun _ _ _ _ _ => pe_int)) (pe_lst pa_nil) (nomark _)))))
        (pss_one (ps_ret pe_bl))
        pss_nil)))
      (pss_one (ps_ret (pe_cmpR op_eq (pe_callB (id := "len") (r := rLeO K) call_len_seq (by rfl) B.len_ (by decide +kernel) (pa_cons (pe_c c__law_minors hr (by decide) (by rfl) (pa_cons (pv 0) pa_nil)) pa_nil)) (pv 1) (nomark _)))))))), ?_⟩
  refine ⟨_, rfl, _, _, _, _, isTupD D, rfl, .ty _, hd.ty, kit_tupD D, _, rfl, ?_⟩
  cases hT : isTupD D with
  | false =>
    have e : formD D = false := by cases D <;> first | rfl | cases hT
    rw [e] at q
    exact iteT (iteT (q _ (Same.refl _)))
  | true =>
  obtain ⟨ds, rfl⟩ := tup_of hT
  obtain ⟨t, ws, rfl, nt, rt, hx⟩ := id hd.tup_inv
  have ht : H t = some (.tup ws) := by cases rt; assumption
  have lw := hx.length
  have eq0 : formD (.tuple ds) = (inSz ds.length && (tabD ds.length (.tuple ds) && (smallEven (rowsV ds) ds.length && decide ((minGo ds.length (rowsV ds) 1).length = ds.length)))) := rfl
  rw [eq0] at q
  refine iteF ⟨_, rfl, t, _, rfl, .inr (SqT.of ht), (by show (4 : Nat) ≤ sizeLine; decide), fun t4 ht4 => ?_⟩
  have s1 := Same.upd_new (o := .tup [V.int 2, V.int 4, V.int 6, V.int 8]) ht4
  have e1 : (upd H t4 (.tup [V.int 2, V.int 4, V.int 6, V.int 8])) t4 = some (.tup [V.int 2, V.int 4, V.int 6, V.int 8]) := upd_same
  generalize upd H t4 (.tup [V.int 2, V.int 4, V.int 6, V.int 8]) = H1 at s1 e1
  refine ⟨t4, _, rfl, .inr (SqT.of e1), rfl, rfl, _, rfl, ?_⟩
  show if (if true = true then !inV (V.int (ws.length : Int)) [.int 2, .int 4, .int 6, .int 8] else inV (V.int (ws.length : Int)) [.int 2, .int 4, .int 6, .int 8]) = true then _ else _
  rw [if_pos (rfl : true = true), lw, inSz_eq]
  cases hz1 : inSz ds.length with
  | false =>
    rw [hz1, Bool.false_and] at q
    exact iteT (q _ s1)
  | true =>
  rw [hz1, Bool.true_and] at q
  obtain ⟨m2, m8⟩ := inSz_le hz1
  refine iteF ?_
  dsimp only [tNext]
  have ht1 := s1 _ _ ht
  have hx1 := hx.same s1
  refine ⟨_, rfl, t, _, rfl, .inr (SqT.of ht1), ?_⟩
  rw [lw]
  dsimp only [gName]
  refine ⟨_, rfl, t, rfl, ⟨_, SqT.of ht1⟩, fun D1 hD1 => ?_⟩
  refine lc_tup (K := K) (a := t) (xs := ws) (fun i H' => Same H1 H' ∧ H' D1 = some (.lst (((ds.take i).filter fun d => !intsD ds.length d).map fun _ => V.int 1))) ⟨Same.upd_new hD1, upd_same⟩ (fun i H' _ ⟨z, _⟩ => SqT.of (z _ _ ht1)) ?_ ?_
  · rintro i x H2 hi ⟨s2, h2⟩
    obtain ⟨d0, hd0, dx⟩ := dq_of hx1 hi
    have il : i < 9 := by have := (List.getElem?_eq_some_iff.mp hi).1; omega
    dsimp only [gName]
    refine ⟨rfl, ?_⟩
    refine ⟨_, rfl, _, rfl, x, d0, N, ds.length, rfl, dx.same s2, by omega, fun H3 s3 => ⟨_, rfl, ?_⟩⟩
    have et : (ds.take (i + 1)).filter (fun d => !intsD ds.length d) = (ds.take i).filter (fun d => !intsD ds.length d) ++ (if (!intsD ds.length d0) = true then [d0] else []) := by
      rw [take_snocA hd0, List.filter_append]
      congr 1
      show List.filter _ [d0] = _
      rw [List.filter_cons]
      cases intsD ds.length d0 <;> rfl
    cases hI : intsD ds.length d0 with
    | true =>
      rw [hI] at et
      refine iteF ⟨s2.trans s3, ?_⟩
      rw [et]
      show _ = some (HO.lst (List.map _ (_ ++ [])))
      rw [List.append_nil]
      exact s3 _ _ h2
    | false =>
      rw [hI] at et
      refine iteT ⟨_, s3 _ _ h2, ?_, fun b o e => ?_, ?_⟩
      · rw [List.length_map]
        refine Nat.lt_of_le_of_lt (Nat.le_trans (List.length_filter_le _ _) (by rw [List.length_take]; omega : _ ≤ 400)) (by decide)
      · rw [upd_ne (ne_of_none e hD1)]
        exact s3 _ _ (s2 _ _ e)
      · rw [upd_same, et]
        show _ = some (HO.lst (List.map _ (_ ++ [d0])))
        rw [List.map_append]
        rfl
  rintro H2 ⟨s2, h2⟩
  rw [lw, List.take_length] at h2
  refine ⟨(by show (0 : Nat) ≤ sizeLine; decide), fun E1 hE1 => ?_⟩
  have s3 : Same H2 (upd H2 E1 (.lst [])) := Same.upd_new hE1
  refine ⟨_, .list [], .lst (SqL.of (s3 _ _ h2)) (ones_dp _), .lst (SqL.of upd_same) .nil, ones_shaped _, rfl, _, rfl, ?_⟩
  rw [ones_nil, no_odd, ints_all]
  have s03 := s1.trans (s2.trans s3)
  have et2 : tabD ds.length (.tuple ds) = (ds.all (rowD ds.length) && ds.all fun d => (entD d).all id) := by
    show (decide (ds.length = ds.length) && _) = _
    rw [decide_eq_true rfl, Bool.true_and]
  rw [← et2]
  generalize upd H2 E1 (.lst []) = H3 at s3 s03
  cases htb : tabD ds.length (.tuple ds) with
  | false =>
    rw [htb, Bool.false_and] at q
    exact iteT (q _ s03)
  | true =>
  rw [htb, Bool.true_and] at q
  refine iteF ?_
  dsimp only [tNext]
  obtain ⟨lm, lr⟩ := tab_rows htb
  obtain ⟨t', et', hTb⟩ := tab_T hd htb
  cases et'
  have hT3 := hTb.same s03
  obtain ⟨ws3, ht3, tws⟩ := id hT3
  have ew : ws3 = ws := by
    have := s03 _ _ ht
    rw [this] at ht3
    cases ht3
    rfl
  subst ew
  generalize hm : ds.length = m at m2 m8 lm lr q htb
  generalize hrw : rowsV ds = rows at lm lr hTb hT3 tws q
  have lws : ws3.length = m := by rw [tws.len, lm]
  have bad : ∀ i, i < m → lawRow rows m i = false → ∀ H', Same H3 H' → Q (.bl false) H' := fun i hi hb H' s => by
    have e : smallEven rows m = false := by
      cases h : smallEven rows m with
      | false => rfl
      | true =>
        have := (law_even lm lr).mpr h i hi
        rw [hb] at this
        cases this
    rw [e, Bool.false_and] at q
    exact q _ (s03.trans s)
  refine ⟨_, rfl, t, _, rfl, SqT.of ht3, for_it (walk_enumT (K := K) (a := t) (xs := ws3)) (fun i σ H' => Same H3 H' ∧ (∀ i', i' < i → lawRow rows m i' = true) ∧ ∃ o2 o3 o4 o5 : Option V, σ = [some (.ref t), some (.int (m : Int)), o2, o3, o4, o5]) ⟨Same.refl H3, fun i' h => absurd h (Nat.not_lt_zero i'), none, none, none, none, rfl⟩ (fun i σ H' _ ⟨z, _⟩ => SqT.of (z _ _ ht3)) ?_ ?_⟩
  · rintro i x0 σ Ha Hb hi ⟨ka, good, o2, o3, o4, o5, rfl⟩ ⟨T, x, y, rfl, hT1, rfl, hx', hy⟩
    obtain rfl : x = V.int ((i : Nat) : Int) := (Option.some.inj hx').symm
    have im : i < m := by omega
    obtain ⟨c, r, rfl, hr1, hc⟩ := tws.get hy
    have er : rows.getD i [] = r := by rw [List.getD_eq_getElem?_getD, hr1]; rfl
    have lr1 : r.length = m := lr r (List.mem_of_getElem? hr1)
    have k1 : Same Ha (upd Ha T (.tup [V.int ((i : Nat) : Int), V.ref c])) := Same.upd_new hT1
    refine ⟨T, _, rfl, SqT.of upd_same, rfl, _, _, rfl, _, _, rfl, rfl, ?_⟩
    have s5 := ka.trans k1
    generalize upd Ha T (.tup [V.int ((i : Nat) : Int), V.ref c]) = H5 at s5
    dsimp only [gName]
    have hc5 := s5 _ _ hc
    have eii : r.getD i 0 = ent rows i i := by unfold ent; rw [er]
    refine ⟨_, rfl, _, rfl, ent_of hc5 (by omega) (.inl ⟨_, rfl, _, _, rfl, rfl, (by show (0 : Int) < 2; decide), rfl, _, rfl, ifNI (fun ne => ?_) fun ev => ?_⟩)⟩
    · refine iteT (bad i im ?_ _ s5)
      unfold lawRow
      rw [eii] at ne
      rw [decide_eq_false ne, Bool.false_and]
    · rw [eii] at ev
      refine ⟨_, rfl, c, _, rfl, SqT.of hc5, fun C hC => ?_⟩
      refine lc_it (walk_enumT (K := K) (a := c) (xs := r.map V.int)) (fun j H' => Same H5 H' ∧ H' C = some (.lst (((List.range j).filter fun j => badE rows i j).map fun _ => V.int 1))) ⟨Same.upd_new hC, upd_same⟩ (fun j H' _ ⟨z, _⟩ => SqT.of (z _ _ hc5)) ?_ ?_
      · rintro j x1 Hc Hd hj ⟨kc, h4⟩ ⟨T2, x, y, rfl, hT2, rfl, hx2, hy2⟩
        obtain rfl : x = V.int ((j : Nat) : Int) := (Option.some.inj hx2).symm
        have jm : j < m := by
          rw [List.length_map] at hj
          omega
        obtain ⟨z, rfl, hz⟩ := int_at hy2
        have ez : ent rows i j = z := by
          unfold ent
          rw [er, List.getD_eq_getElem?_getD, hz]
          rfl
        have k2 : Same Hc (upd Hc T2 (.tup [V.int ((j : Nat) : Int), V.int z])) := Same.upd_new hT2
        refine ⟨T2, _, rfl, SqT.of upd_same, rfl, ?_⟩
        refine ⟨_, _, rfl, _, _, rfl, rfl, rfl, ?_⟩
        have h5 := k2 _ _ h4
        have s6 := kc.trans k2
        generalize upd Hc T2 (.tup [V.int ((j : Nat) : Int), V.int z]) = H6 at h5 s6
        have et : (List.range (j + 1)).filter (fun j => badE rows i j) = (List.range j).filter (fun j => badE rows i j) ++ (if badE rows i j = true then [j] else []) := by
          rw [List.range_succ, List.filter_append]
          congr 1
          show List.filter _ [j] = _
          rw [List.filter_cons]
          cases badE rows i j <;> rfl
        have yes : badE rows i j = true → ∃ acc, H6 C = some (.lst acc) ∧ acc.length < sizeLine ∧ Same H5 (upd H6 C (.lst (acc ++ [V.int 1]))) ∧ (upd H6 C (.lst (acc ++ [V.int 1]))) C = some (.lst (((List.range (j + 1)).filter fun j => badE rows i j).map fun _ => V.int 1)) := fun hb => by
          rw [if_pos hb] at et
          refine ⟨_, h5, ?_, fun b o e => ?_, ?_⟩
          · rw [List.length_map]
            refine Nat.lt_of_le_of_lt (Nat.le_trans (List.length_filter_le _ _) (by rw [List.length_range]; omega : _ ≤ 400)) (by decide)
          · rw [upd_ne (ne_of_none e hC)]
            exact s6 _ _ e
          · rw [upd_same, et, List.map_append]
            rfl
        have nope : badE rows i j = false → Same H5 H6 ∧ H6 C = some (.lst (((List.range (j + 1)).filter fun j => badE rows i j).map fun _ => V.int 1)) := fun hb => by
          rw [if_neg (by rw [hb]; decide), List.append_nil] at et
          exact ⟨s6, by rw [et]; exact h5⟩
        refine ⟨_, rfl, _, rfl, _, _, rfl, rfl, _, rfl, ?_⟩
        rw [abs_ifN]
        by_cases h100 : 100 < z.natAbs
        · rw [decide_eq_true (show (100 : Int) < (z.natAbs : Int) by omega)]
          refine iteT (iteT (yes ?_))
          unfold badE
          rw [ez, decide_eq_true h100, Bool.true_or]
        · rw [decide_eq_false (show ¬ (100 : Int) < (z.natAbs : Int) by omega)]
          refine iteF ⟨_, rfl, _, rfl, _, rfl, row_at (hT3.same (s5.trans s6)) lm jm fun c2 hc2 => ⟨_, rfl, ent_of hc2 (by rw [lr _ (mem_getD (by omega))]; exact im) ⟨rfl, _, rfl, ?_⟩⟩⟩
          have e2 : (!decide (V.int z = V.int ((rows.getD j []).getD i 0))) = badE rows i j := by
            unfold badE
            rw [ez, decide_eq_false h100, Bool.false_or]
            show (!decide (V.int z = V.int (ent rows j i))) = _
            by_cases h : z = ent rows j i
            · rw [decide_eq_true (congrArg V.int h), decide_eq_false (fun n => n h)]; rfl
            · rw [decide_eq_false (fun n => h (V.int.inj n)), decide_eq_true h]; rfl
          show if (!decide (V.int z = V.int ((rows.getD j []).getD i 0))) = true then _ else _
          rw [e2]
          cases hb : badE rows i j with
          | true => exact iteT (yes hb)
          | false => exact iteF (nope hb)
      rintro H6 ⟨s6, h6⟩
      rw [List.length_map, lr1] at h6
      refine ⟨(by show (0 : Nat) ≤ sizeLine; decide), fun E2 hE2 => ?_⟩
      have s7 : Same H6 (upd H6 E2 (.lst [])) := Same.upd_new hE2
      refine ⟨_, .list [], .lst (SqL.of (s7 _ _ h6)) (ones_dp _), .lst (SqL.of upd_same) .nil, ones_shaped _, rfl, _, rfl, ?_⟩
      rw [ones_nil]
      have s37 := s5.trans (s6.trans s7)
      generalize upd H6 E2 (.lst []) = H7 at s7 s37
      have el : lawRow rows m i = ((List.range m).filter fun j => badE rows i j).isEmpty := by
        unfold lawRow
        rw [decide_eq_true ev, Bool.true_and]
      rw [← el]
      cases hl : lawRow rows m i with
      | false => exact iteT (bad i im hl _ s37)
      | true =>
        refine iteF ⟨s37, fun i' h => ?_, _, _, _, _, rfl⟩
        rcases Nat.lt_or_ge i' i with h2 | h2
        · exact good i' h2
        · have : i' = i := by omega
          rw [this]
          exact hl
  rintro σ H4 ⟨s4, good, o2, o3, o4, o5, rfl⟩
  rw [lws] at good
  have hev := (law_even lm lr).mp good
  rw [hev, Bool.true_and] at q
  have hev' : ((rngB rows).all id && ((symB rows m).all id && (evnB rows m).all id)) = true := hev
  refine ⟨_, rfl, t, rows, m, rfl, hT3.same s4, lm, lr, m8, rng_le (Bool.and_eq_true_iff.mp hev').1, fun H5 p s5 hp => ⟨p, _, rfl, .inl (SqL.of hp), _, rfl, rfl, ?_⟩⟩
  rw [List.length_map, decI]
  exact q _ ((s03.trans s4).trans s5)
end
end Ft

set_option exponentiation.threshold 9000
set_option maxHeartbeats 4000000
namespace Ft
open PySem L2 RZ
theorem walk_zipT {K : PySem.W.Frag} {a b : Addr} {xs ys : List V} {n : Nat} (hn : n = min xs.length ys.length) : Walk (ItzT K a b) n (fun H => SqT K H a xs ∧ SqT K H b ys) (YPair (fun i => xs[i]?) (fun i => ys[i]?)) := by
  subst hn
  refine ⟨fun i _ hi q => ?_, fun _ q => ⟨xs, ys, q.1, q.2, by omega⟩, fun i H v H' _ q y => ?_⟩
  · have h1 : i < xs.length := by omega
    have h2 : i < ys.length := by omega
    exact ⟨xs, ys, xs[i], ys[i], q.1, q.2, by simp [h1], by simp [h2]⟩
  · obtain ⟨T, x, z, h1, h2, h3, h4, h5⟩ := y
    exact ⟨T, x, z, h1, h2, h3, h4 xs q.1, h5 ys q.2⟩
def sp_lvalue : Sp := fun vs H Q _ => ∃ (t p : Addr) (rows : List (List Int)) (xs : List Int) (m : Nat), vs = [.ref t, .ref p] ∧ TabT H t rows ∧ rows.length = m ∧ (∀ r ∈ rows, r.length = m) ∧ m ≤ 8 ∧ (∀ r ∈ rows, ∀ x ∈ r, x.natAbs ≤ 100) ∧ H p = some (.tup (xs.map V.int)) ∧ xs.length = m ∧ (∀ x ∈ xs, x.natAbs < 2 ^ 1900) ∧ ∀ H', Same H H' → Q (.int (valV m rows xs)) H'
theorem sm_abs {c : Nat} (f : Nat → Int) : ∀ n, (∀ i, i < n → (f i).natAbs ≤ c) → (sm n f).natAbs ≤ n * c
  | 0, _ => by show (0 : Int).natAbs ≤ _; simp
  | n + 1, h => by
    have h1 := sm_abs f n fun i hi => h i (by omega)
    have h2 := h n (by omega)
    show (sm n f + f n).natAbs ≤ (n + 1) * c
    rw [Nat.add_mul]
    omega
theorem val_eq (m : Nat) (rows : List (List Int)) (xs : List Int) : (sm m fun i => xs.getD i 0 * sm m fun j => ent rows i j * xs.getD j 0) = qf m (tb rows) fun i => xs.getD i 0 := by
  unfold qf
  refine sm_congr fun i _ => ?_
  rw [← sm_mul]
  exact sm_congr fun j _ => Int.mul_left_comm _ _ _
section
variable {P : Program} {w : World} {K : PySem.W.Frag} {mg : Str → Option Value} {base : Heap}
theorem ok_lvalue (D : Df K mg "_law_value" s__law_value ["_law_form", "_law_x"]) (B : Bi mg) : Cal P w K mg base 1 "_law_value" sp_lvalue := by
  obtain ⟨f, fd, F, m, b⟩ := D.ex
  have sc := sc__law_value
  refine ⟨f, fd, _, F.ok sc (fun _ _ _ _ ⟨_, _, _, _, _, e, _⟩ => by rw [e]; rfl) (fun cdv A outer s H vs Q E hr h => ?_), m, F.kp, b⟩
  obtain ⟨t, p, rows, xs, m, rfl, hT, lm, lr, m8, hx, hp, lx, bx, q⟩ := h
  obtain ⟨ws, ht, tws⟩ := id hT
  have lws : ws.length = m := by rw [tws.len, lm]
  refine ⟨_, (pss_one (ps_ret (pe_op op_fdivW (pe_callB (id := "sum") (r := rSum K) (cr_sum rfl) (by rfl) B.sum (by decide +kernel) (pa_cons (pe_lc (own := [("_law_y", 4), ("_law_row", 5)]) (g := gTup K 2 (gCons (gName 4) (gCons (gName 5) gNil))) (tt := tYes) (by rfl) sc.nd (pi_zipA (by rfl) B.zip (pa_cons (pv 1) (pa_cons (pv 0) pa_nil))) (blkOk_by (own := [("_law_y", 4), ("_law_row", 5)]) (N := N__law_value) (sc := defScope s__law_value) (by decide +kernel)) (fun _ _ _ _ _ => (pg_tup rfl (pgs_cons (pg_name (i := 4) sc.nd rfl (Or.inl rfl) (Or.inr rfl)) (pgs_cons (pg_name (i := 5) sc.nd rfl (Or.inl rfl) (Or.inr rfl)) pgs_nil)))) (fun _ _ _ _ _ => pts_nil) (fun _ _ _ _ _ => (pe_op op_mulW (pv 4) (pe_callB (id := "sum") (r := rSum K) (cr_sum rfl) (by rfl) B.sum (by decide +kernel) (pa_cons (pe_lc (own := [("_law_entry", 2), ("_law_z", 3)]) (g := gTup K 2 (gCons (gName 2) (gCons (gName 3) gNil))) (tt := tYes) (by rfl) sc.nd (show PI _ _ _ (iZipA K (tCons (tVar 5) (tCons (tVar 1) tNil))) from pi_zipA (by rfl) B.zip (pa_cons (pv 5) (pa_cons (pv 1) pa_nil))) (blkOk_by (own := [("_law_entry", 2), ("_law_z", 3)]) (N := N__law_value) (sc := { kind := ScopeKind.function, names := [(".0", NameKind.local), ("_law_y", NameKind.local), ("_law_row", NameKind.local), ("sum", NameKind.globalImplicit), ("zip", NameKind.globalImplicit), ("_law_x", NameKind.cell)], isGenerator := false, isCoroutine := false }) (by decide +kernel)) (fun _ _ _ _ _ => (pg_tup rfl (pgs_cons (pg_name (i := 2) sc.nd rfl (Or.inl rfl) (Or.inr rfl)) (pgs_cons (pg_name (i := 3) sc.nd rfl (Or.inl rfl) (Or.inr rfl)) pgs_nil)))) (fun _ _ _ _ _ => pts_nil) (fun _ _ _ _ _ => (pe_op op_mulW (pv 2) (pv 3)))) pa_nil))))) pa_nil)) pe_int))), ?_⟩
  have big : (2 : Nat) ^ 1900 * 100 < 2 ^ 2000 := by decide
  have ex : ∀ j, (xs.getD j 0).natAbs < 2 ^ 1900 := fun j => getD_lt' bx j
  have ee : ∀ i j, i < m → j < m → (ent rows i j).natAbs ≤ 100 := fun i j hi hj => by
    have hr : rows.getD i [] ∈ rows := mem_getD (by omega)
    exact hx _ hr _ (getD_memI (by rw [lr _ hr]; exact hj))
  refine ⟨_, rfl, _, rfl, p, t, _, _, rfl, .inr ⟨SqT.of hp, SqT.of ht, fun C hC => ?_⟩⟩
  refine lc_it (walk_zipT (K := K) (a := p) (b := t) (xs := xs.map V.int) (ys := ws) (n := m) (by rw [List.length_map, lx, lws, Nat.min_self])) (fun i H' => Same H H' ∧ H' C = some (.lst (((List.range i).map fun i => xs.getD i 0 * sm m fun j => ent rows i j * xs.getD j 0).map V.int))) ⟨Same.upd_new hC, upd_same⟩ (fun i H' _ ⟨z, _⟩ => ⟨SqT.of (z _ _ hp), SqT.of (z _ _ ht)⟩) ?_ ?_
  · rintro i x0 Ha Hb hi ⟨ka, h3⟩ ⟨T, x, y, rfl, hT1, rfl, hx1, hy1⟩
    obtain rfl : x = V.int (xs.getD i 0) := Option.some.inj (hx1.symm.trans (getD_at (by omega)))
    obtain ⟨c, r, rfl, hr1, hc⟩ := tws.get hy1
    have er : rows.getD i [] = r := by rw [List.getD_eq_getElem?_getD, hr1]; rfl
    have lr1 : r.length = m := lr r (List.mem_of_getElem? hr1)
    have k4 : Same Ha (upd Ha T (.tup [V.int (xs.getD i 0), V.ref c])) := Same.upd_new hT1
    refine ⟨T, _, rfl, SqT.of upd_same, rfl, ?_⟩
    refine ⟨_, _, rfl, _, _, rfl, rfl, rfl, ?_⟩
    have s5 := ka.trans k4
    have h5 := k4 _ _ h3
    generalize upd Ha T (.tup [V.int (xs.getD i 0), V.ref c]) = H5 at s5 h5
    refine ⟨_, rfl, _, rfl, _, rfl, c, p, _, _, rfl, .inr ⟨SqT.of (s5 _ _ hc), SqT.of (s5 _ _ hp), fun C3 hC3 => ?_⟩⟩
    refine lc_it (walk_zipT (K := K) (a := c) (b := p) (xs := r.map V.int) (ys := xs.map V.int) (n := m) (by rw [List.length_map, List.length_map, lx, lr1, Nat.min_self])) (fun j H' => Same H5 H' ∧ H' C3 = some (.lst (((List.range j).map fun j => ent rows i j * xs.getD j 0).map V.int))) ⟨Same.upd_new hC3, upd_same⟩ (fun j H' _ ⟨z, _⟩ => ⟨SqT.of (z _ _ (s5 _ _ hc)), SqT.of (z _ _ (s5 _ _ hp))⟩) ?_ ?_
    · rintro j x1 Hc Hd hj ⟨kc, h6⟩ ⟨T2, x, y, rfl, hT2, rfl, hx2, hy2⟩
      obtain rfl : x = V.int (r.getD j 0) := Option.some.inj (hx2.symm.trans (getD_at (by omega)))
      obtain rfl : y = V.int (xs.getD j 0) := Option.some.inj (hy2.symm.trans (getD_at (by omega)))
      have k7 : Same Hc (upd Hc T2 (.tup [V.int (r.getD j 0), V.int (xs.getD j 0)])) := Same.upd_new hT2
      refine ⟨T2, _, rfl, SqT.of upd_same, rfl, ?_⟩
      refine ⟨_, _, rfl, _, _, rfl, rfl, rfl, ?_⟩
      have eij : r.getD j 0 = ent rows i j := by unfold ent; rw [er]
      refine ⟨_, rfl, _, rfl, _, _, rfl, rfl, ?_, ?_⟩
      · rw [eij]
        exact mul8 (Nat.lt_of_le_of_lt (ee i j hi hj) (by decide)) (up19 (ex j))
      refine ⟨_, k7 _ _ h6, ?_, fun b o e => ?_, ?_⟩
      · rw [List.length_map, List.length_map, List.length_range]
        exact Nat.lt_of_le_of_lt (by omega : j ≤ 400) (by decide)
      · rw [upd_ne (ne_of_none e hC3)]
        exact k7 _ _ (kc _ _ e)
      · rw [upd_same, List.range_succ, List.map_append, List.map_append, eij]
        rfl
    rintro H6 ⟨s6, h6⟩
    refine ⟨C3, _, rfl, SqL.of h6, ?_⟩
    rw [range_sum]
    have b1 : (sm m fun j => ent rows i j * xs.getD j 0).natAbs ≤ m * (100 * 2 ^ 1900) := sm_abs _ m fun j hj => by
      rw [Int.natAbs_mul]
      exact Nat.mul_le_mul (ee i j hi hj) (Nat.le_of_lt (ex j))
    have b2 : (sm m fun j => ent rows i j * xs.getD j 0).natAbs < 2 ^ 8000 := by
      refine Nat.lt_of_le_of_lt (Nat.le_trans b1 (Nat.mul_le_mul_right _ m8)) (by decide)
    refine ⟨_, _, rfl, rfl, mul8 (up19 (ex i)) b2, ?_⟩
    have s56 := s6
    refine ⟨_, s56 _ _ h5, ?_, fun b o e => ?_, ?_⟩
    · rw [List.length_map, List.length_map, List.length_range]
      exact Nat.lt_of_le_of_lt (by omega : i ≤ 400) (by decide)
    · rw [upd_ne (ne_of_none e hC)]
      exact s56 _ _ (s5 _ _ e)
    · rw [upd_same, List.range_succ, List.map_append, List.map_append]
      rfl
  rintro H2 ⟨s2, h2⟩
  refine ⟨C, _, rfl, SqL.of h2, _, _, rfl, rfl, ⟨by decide, by decide⟩, ?_⟩
  rw [range_sum, val_eq]
  exact q _ s2
end
end Ft

namespace Ft
open PySem L2
theorem tb_out {rows : List (List Int)} {m i j : Nat} (lm : rows.length = m) (lr : ∀ r ∈ rows, r.length = m) (h : m ≤ i ∨ m ≤ j) : tb rows i j = 0 := by
  unfold tb
  rcases Nat.lt_or_ge i rows.length with hi | hi
  · have hj : m ≤ j := by omega
    have := lr _ (mem_getD hi)
    rw [List.getD_eq_getElem?_getD, List.getElem?_eq_none (by omega)]
    rfl
  · have e : rows.getD i [] = [] := by rw [List.getD_eq_getElem?_getD, List.getElem?_eq_none hi]; rfl
    rw [e]
    rfl
/-- a form tells 0 of nothing but 0, and never less -/
theorem form_valV {m : Nat} {rows : List (List Int)} (fm : FmT m rows) (hev : smallEven rows m = true) {xs : List Int} (lx : xs.length = m) : 0 ≤ valV m rows xs ∧ (valV m rows xs = 0 ↔ ∀ x ∈ xs, x = 0) := by
  have lw := (law_even fm.lm fm.lr).mpr hev
  have sy : ∀ i j, tb rows i j = tb rows j i := fun i j => by
    rcases Nat.lt_or_ge i m with hi | hi
    · rcases Nat.lt_or_ge j m with hj | hj
      · exact ((lawRow_iff.mp (lw i hi)).2 j hj).2
      · rw [tb_out fm.lm fm.lr (.inr hj), tb_out fm.lm fm.lr (.inl hj)]
    · rw [tb_out fm.lm fm.lr (.inl hi), tb_out fm.lm fm.lr (.inr hi)]
  have ev : ∀ i, tb rows i i % 2 = 0 := fun i => by
    rcases Nat.lt_or_ge i m with hi | hi
    · exact (lawRow_iff.mp (lw i hi)).1
    · rw [tb_out fm.lm fm.lr (.inl hi)]; rfl
  have ap : allpos (tb rows) m = true := by
    have := (min_allpos (rows := rows) (fun r hr => by rw [fm.lm]; exact fm.lr r hr)).mp (by rw [fm.lm]; exact fm.mn)
    rwa [fm.lm] at this
  obtain ⟨h1, h2⟩ := form_val sy ev ap fun i => xs.getD i 0
  refine ⟨h1, h2.trans ⟨fun h x hx => ?_, fun h i hi => h _ (getD_memI (by omega))⟩⟩
  obtain ⟨i, hi, rfl⟩ := List.getElem_of_mem hx
  have := h i (by omega)
  rwa [List.getD_eq_getElem?_getD, List.getElem?_eq_getElem hi] at this
end Ft

namespace Ft
open PySem L2
/-- two keywords, in the other order -/
def swapV : List V → List V → List V := fun us zs => match us, zs with
  | [], [a, b] => [b, a]
  | _, _ => []
def swapU : List Value → List Value → List Value := fun us zs => match us, zs with
  | [], [a, b] => [b, a]
  | _, _ => []
theorem swap_rel : ∀ {vs : List V} {us : List Value} {zs : List V} {ws : List Value}, Vals vs us → Vals zs ws → Vals (swapV vs zs) (swapU us ws)
  | _, _, _, _, .nil, .nil => .nil
  | _, _, _, _, .nil, .cons _ .nil => .nil
  | _, _, _, _, .nil, .cons a (.cons b .nil) => .cons b (.cons a .nil)
  | _, _, _, _, .nil, .cons _ (.cons _ (.cons _ _)) => .nil
  | _, _, _, _, .cons _ _, _ => .nil
end Ft

set_option exponentiation.threshold 9000
set_option maxHeartbeats 1000000
namespace Ft
open PySem L2
def rTuO (K : PySem.W.Frag) : List V → Hp → VK → Prop := fun xs H Q => ∃ p ys, xs = [.ref p] ∧ ((SqL K H p ys ∧ ∀ l, H l = none → Q (.ref l) (upd H l (.tup ys))) ∨ (SqT K H p ys ∧ Q (.ref p) H))
theorem passN {P : Program} {w : World} {X : Cx} : Passes (L2.CX P w) X E0 := fun _ _ _ _ _ _ _ ⟨_, _, _, _, _, _, _, _, _, _, _, _, h⟩ => h.elim
theorem eqv_zero : ∀ {xs : List Int} {m : Nat}, xs.length = m → PyData.eqv (.tuple (xs.map PyData.int)) (.tuple ((List.replicate m (0 : Int)).map PyData.int)) = xs.all fun x => decide (x = 0) := fun {xs m} h => by
  subst h
  show PyData.eqvAll _ _ = _
  induction xs with
  | nil => rfl
  | cons x xs ih =>
    rw [List.length_cons, List.replicate_succ, List.map_cons, List.map_cons, List.all_cons]
    show ((x == (0 : Int)) && PyData.eqvAll _ _) = _
    rw [ih]
    congr 1
theorem shaped_tup (xs : List Int) : SeqAt.shaped (.tuple (xs.map PyData.int)) = true := by
  have h := shaped_ints xs
  unfold SeqAt.shaped at h ⊢
  rw [Bool.and_eq_true] at h ⊢
  refine ⟨h.1, decide_eq_true ?_⟩
  have e := dep_ints xs
  simp only [PyData.depth, e]
  omega
theorem rep_flat (m : Nat) : (List.replicate m [V.int 0]).flatten = (List.replicate m (0 : Int)).map V.int := by
  induction m with
  | zero => rfl
  | succ m ih => rw [List.replicate_succ, List.flatten_cons, ih, List.replicate_succ]; rfl
theorem val_abs {m : Nat} {rows : List (List Int)} {xs : List Int} (fm : FmT m rows) (bx : ∀ x ∈ xs, x.natAbs < 2 ^ 200) : (valV m rows xs).natAbs < 2 ^ 1900 := by
  unfold valV
  refine Nat.lt_of_le_of_lt (Int.natAbs_ediv_le_natAbs _ _) ?_
  have ex : ∀ j, (xs.getD j 0).natAbs ≤ 2 ^ 200 := fun j => Nat.le_of_lt (getD_lt' bx j)
  have e1 : ∀ i j, i < m → j < m → (tb rows i j).natAbs ≤ 100 := fun i j hi hj => by
    have lm := fm.lm
    have hr : rows.getD i [] ∈ rows := mem_getD (by omega)
    exact fm.hx _ hr _ (getD_memI (by rw [fm.lr _ hr]; exact hj))
  have b : (qf m (tb rows) fun i => xs.getD i 0).natAbs ≤ m * (m * (100 * (2 ^ 200 * 2 ^ 200))) := sm_abs _ m fun i hi => sm_abs _ m fun j hj => by
    rw [Int.natAbs_mul, Int.natAbs_mul]
    exact Nat.mul_le_mul (e1 i j hi hj) (Nat.mul_le_mul (ex i) (ex j))
  have m8 := fm.m8
  refine Nat.lt_of_le_of_lt b (Nat.lt_of_le_of_lt (Nat.mul_le_mul m8 (Nat.mul_le_mul_right _ m8)) (by decide))
theorem rep_intK {z : Int} (h : z.natAbs < 2 ^ 1900) : RepQ (.int z) := ((rs_int (k := 2) (m := 0) h).q).rep (by decide) (by decide)
theorem val_neg (m : Nat) (rows : List (List Int)) (xs : List Int) : valV m rows (xs.map fun x => -x) = valV m rows xs := by
  have e : ∀ i, (xs.map fun x => -x).getD i 0 = -xs.getD i 0 := fun i => by
    rw [List.getD_eq_getElem?_getD, List.getElem?_map, List.getD_eq_getElem?_getD]
    cases xs[i]? <;> rfl
  unfold valV qf
  have : (sm m fun i => sm m fun j => tb rows i j * ((xs.map fun x => -x).getD i 0 * (xs.map fun x => -x).getD j 0)) = sm m fun i => sm m fun j => tb rows i j * (xs.getD i 0 * xs.getD j 0) := sm_congr fun i _ => sm_congr fun j _ => by rw [e, e, Int.neg_mul_neg]
  rw [this]
theorem intV_int (xs : List Int) : (xs.map PyData.int).map intV = xs := by
  rw [List.map_map]
  conv => rhs; rw [← List.map_id xs]
  exact List.map_congr_left fun x _ => rfl
theorem ints_in (m : Nat) {xs : List Int} (h : xs.length = m) : intsD m (.tuple (xs.map PyData.int)) = true := by
  show (decide ((xs.map PyData.int).length = m) && (xs.map PyData.int).all isIntD) = true
  rw [List.length_map, decide_eq_true h, Bool.true_and, List.all_map]
  exact List.all_eq_true.mpr fun x _ => rfl
theorem dq_intsA {H : Hp} {N : Addr → Prop} : ∀ ts : List Int, DqAll H N (ts.map V.int) (ts.map PyData.int)
  | [] => .nil
  | _ :: l => .cons (.int _) (dq_intsA l)
def sp_vtold : Sp := fun vs H Q _ => ∃ v u ds es, vs = [v, u] ∧ Dq H All v (.tuple ds) ∧ Dq H All u (.tuple es) ∧ formD (.tuple ds) = true ∧ intsD ds.length (.tuple es) = true ∧ (∀ x ∈ es.map intV, x.natAbs < 2 ^ 200) ∧ ∀ H', Same H H' → Q (.bl true) H'
section
variable {P : Program} {w : World} {K : PySem.W.Frag} {mg : Str → Option Value} {base : Heap}
theorem fn_vtold {f : Addr} {fd : FuncData} {C0 C1 : Addr} (F : Fun K "_law_is_value_told" "_law_is_value_told" s__law_is_value_told f fd) (B : Bi mg) (c__law_value : Cal P w K mg base 1 "_law_value" sp_lvalue) (x_value_at : CalL P w K mg base 6 "value_at" ["form", "x"] ["x", "form"] swapU swapV (sp_valQ C0 C1)) : FnG P w K mg base 8 f fd ["_law_form", "_law_x"] sp_vtold := by
  have sc := sc__law_is_value_told
  obtain ⟨fV, fdV, FV, hmV, kpV, bV, kV⟩ := x_value_at.ex
  refine fun_g F sc (fun _ _ _ _ ⟨_, _, _, _, e, _⟩ => by rw [e]; rfl) (fun cdv A outer s H vs Q E hgd hr h => ?_)
  obtain ⟨v, u, ds, es, rfl, hd, hu, hf, hi, bx, q⟩ := h
  have h64 : (A.deeper (PyProof.Rows.envOfC "_law_is_value_told" (defScope s__law_is_value_told) s.heap.objs.size f cdv)).units + 64 < cLine := by have := hr.un; omega
  refine ⟨_, (pss_cons (ps_set (i := 2) sc.nd rfl (Or.inl rfl) (pe_c c__law_value hr (by decide) (by rfl) (pa_cons (pv 0) (pa_cons (pv 1) pa_nil))))
      (pss_cons (ps_if (PW.pt (pw_or (pt_cmpR op_lt (pv 2) pe_int (nomark _)) (pw_or1 (pt_cmpR op_ne (pe_cmpR op_eq (pv 2) pe_int (nomark _)) (pe_cmpR (op_eqD h64) (pv 1) (pe_op op_repT (pe_tup (pa_cons pe_int pa_nil)) (pe_callB (id := "len") (r := rLeO K) call_len_seq (by rfl) B.len_ (by decide +kernel) (pa_cons (pv 0) pa_nil))) (nomark _)) (nomark _)))))
      (pss_one (ps_ret pe_bl))
      pss_nil)
      (pss_one (ps_ret (pe_and (pe_cmpR op_eq (pe_callB (call_reprQ hgd hr) (by rfl) B.repr (by decide +kernel) (pa_cons (pe_call (E := E0) FV (hr.mono (by decide)) (by rfl) hmV kpV bV .nil passN (pa_cons (pv 0) (pa_cons (pv 1) pa_nil))) pa_nil)) (pe_callB (call_reprQ hgd hr) (by rfl) B.repr (by decide +kernel) (pa_cons (pv 2) pa_nil)) (nomark _)) (pe_one (pe_cmpR op_eq (pe_callB (call_reprQ hgd hr) (by rfl) B.repr (by decide +kernel) (pa_cons (pe_kx (E := E0) FV (hr.mono (by decide)) (by rfl) hmV kpV kV passN (pk_cons (pe_callTy (show CallR _ (.type "tuple") (rTuO K) from call_tuple_of) (by rfl) B.tuple (by decide +kernel) (pa_cons (pe_lc (own := [("_law_y", 3)]) (g := gName 3) (tt := tYes) (by rfl) sc.nd (pi_tup (pv 1)) (blkOk_by (own := [("_law_y", 3)]) (N := N__law_is_value_told) (sc := defScope s__law_is_value_told) (by decide +kernel)) (fun _ _ _ _ _ => (pg_name (i := 3) sc.nd rfl (Or.inl rfl))) (fun _ _ _ _ _ => pts_nil) (fun _ _ _ _ _ => (pe_un un_neg (pv 3)))) pa_nil)) (pk_cons (pv 0) pk_nil))) pa_nil)) (pe_callB (call_reprQ hgd hr) (by rfl) B.repr (by decide +kernel) (pa_cons (pv 2) pa_nil)) (nomark _)))))))), ?_⟩
  obtain ⟨ds', e', fm, ht1, hev⟩ := fmT_of hf
  cases e'
  obtain ⟨t, rfl, hT⟩ := tab_T hd ht1
  obtain ⟨p, us, rfl, np, rp, hx⟩ := hu.tup_inv
  have hp : H p = some (.tup us) := by cases rp; assumption
  have hi' : (decide (es.length = ds.length) && es.all isIntD) = true := hi
  obtain ⟨hl, hal⟩ := Bool.and_eq_true_iff.mp hi'
  have hl := of_decide_eq_true hl
  have eus := ints_dq hx (by rw [List.all_map]; exact hal)
  obtain ⟨ws, ht, tws⟩ := id hT
  have lws : ws.length = ds.length := by rw [tws.len, fm.lm]
  have lx : (es.map intV).length = ds.length := by rw [List.length_map]; exact hl
  have dv : ∀ {H' : Hp}, Same H H' → Dq H' All (.ref t) (.tuple ds) := fun s => hd.same s
  have du : ∀ {H' : Hp}, Same H H' → Dq H' All (.ref p) (.tuple es) := fun s => hu.same s
  have sX : smallI (.tuple es) := fun es' z e hz => by
    cases e
    have := bx (intV (.int z)) (List.mem_map_of_mem hz)
    exact Nat.lt_trans this (by decide)
  generalize hxs : es.map intV = xs at eus lx bx
  subst eus
  obtain ⟨v0, v1⟩ := form_valV fm hev lx
  have vb := val_abs fm bx
  have m2 := fm.m2
  have m8 := fm.m8
  refine ⟨_, rfl, _, rfl, t, p, rowsV ds, xs, ds.length, rfl, hT, fm.lm, fm.lr, fm.m8, fm.hx, hp, lx, fun x hx => Nat.lt_trans (bx x hx) (by decide), fun H1 s1 => ?_⟩
  dsimp only [gName]
  refine ⟨_, rfl, _, _, rfl, rfl, _, rfl, ?_⟩
  rw [decide_eq_false (show ¬ valV ds.length (rowsV ds) xs < 0 by omega)]
  refine iteF ?_
  refine ⟨_, rfl, rfl, ?_⟩
  refine ⟨_, rfl, (by show (1 : Nat) ≤ sizeLine; decide), fun z hz => ?_⟩
  have s2 : Same H1 (upd H1 z (.tup [V.int 0])) := Same.upd_new hz
  have g2 : (upd H1 z (.tup [V.int 0])) z = some (.tup [V.int 0]) := upd_same
  generalize upd H1 z (.tup [V.int 0]) = H2 at s2 g2
  refine ⟨_, rfl, t, ws, rfl, .inr (SqT.of (s2 _ _ (s1 _ _ ht))), z, _, [V.int 0], rfl, rfl, SqT.of g2, (by simp), by omega, by omega, (by show (1 : Nat) ≤ 1000; decide), fun z2 hz2 => ?_⟩
  rw [lws, Int.toNat_natCast, rep_flat]
  have s3 : Same H2 (upd H2 z2 (.tup ((List.replicate ds.length (0 : Int)).map V.int))) := Same.upd_new hz2
  have s03 := s1.trans (s2.trans s3)
  refine ⟨_, _, .tup (SqT.of (s03 _ _ hp)) (dp_ints xs), .tup (SqT.of upd_same) (dp_ints _), shaped_tup _, shaped_tup _, ?_⟩
  rw [eqv_zero lx]
  generalize upd H2 z2 (.tup ((List.replicate ds.length (0 : Int)).map V.int)) = H3 at s3 s03
  have eb : decide (V.int (valV ds.length (rowsV ds) xs) = V.int 0) = xs.all fun x => decide (x = 0) := by
    cases hb : xs.all fun x => decide (x = 0) with
    | true => exact decide_eq_true (congrArg V.int (v1.mpr fun x hx => of_decide_eq_true (List.all_eq_true.mp hb x hx)))
    | false =>
      refine decide_eq_false fun h => ?_
      have a := v1.mp (V.int.inj h)
      rw [List.all_eq_true.mpr fun x hx => decide_eq_true (a x hx)] at hb
      cases hb
  rw [eb]
  refine ⟨rfl, _, rfl, ?_⟩
  rw [show (!decide (V.bl (xs.all fun x => decide (x = 0)) = V.bl (xs.all fun x => decide (x = 0)))) = false by rw [decide_eq_true rfl]; rfl]
  refine iteF ?_
  have rv := rep_intK vb
  have sw : ∀ {a : Str}, decide (V.str a = V.str a) = true := decide_eq_true rfl
  refine ⟨_, rfl, _, rfl, .ref t, .ref p, .tuple ds, .tuple es, All, All, rfl, dv s03, du s03, sX, (fun z => by rw [hf] at z; cases z), (fun _ z => by rw [show intsD (lenD (.tuple ds)) (.tuple es) = true from hi] at z; cases z), fun ds' es' e1 e2 _ _ H4 s4 => ?_⟩
  cases e1
  cases e2
  rw [hxs]
  refine ⟨_, .int (valV ds.length (rowsV ds) xs), All, rfl, .int _, rv, _, rfl, _, .int (valV ds.length (rowsV ds) xs), All, rfl, .int _, rv, rfl, ?_⟩
  rw [sw]
  refine ⟨_, rfl, iteT ?_⟩
  have s04 := s03.trans s4
  have hp4 := s04 _ _ hp
  refine ⟨_, rfl, p, rfl, ⟨_, SqT.of hp4⟩, fun C hC => ?_⟩
  refine lc_tup (K := K) (a := p) (xs := xs.map V.int) (fun i H' => Same H4 H' ∧ H' C = some (.lst (((xs.take i).map fun x => -x).map V.int))) ⟨Same.upd_new hC, upd_same⟩ (fun i H' _ ⟨z, _⟩ => SqT.of (z _ _ hp4)) ?_ ?_
  · rintro i y H5 hy ⟨s5, h5⟩
    obtain ⟨z, rfl, hz⟩ := int_at hy
    have il : i < 9 := by have := (List.getElem?_eq_some_iff.mp hz).1; omega
    dsimp only [gName]
    refine ⟨rfl, _, rfl, _, rfl, _, h5, ?_, fun b o e => ?_, ?_⟩
    · rw [List.length_map, List.length_map, List.length_take]
      exact Nat.lt_of_le_of_lt (by omega : _ ≤ 400) (by decide)
    · rw [upd_ne (ne_of_none e hC)]
      exact s5 _ _ e
    · rw [upd_same, take_snocA hz, List.map_append, List.map_append]
      rfl
  rintro H5 ⟨s5, h5⟩
  rw [List.length_map, List.take_length] at h5
  refine ⟨C, _, rfl, .inl ⟨SqL.of h5, fun n hn => ?_⟩⟩
  have s6 : Same H5 (upd H5 n (.tup ((xs.map fun x => -x).map V.int))) := Same.upd_new hn
  have h6 : (upd H5 n (.tup ((xs.map fun x => -x).map V.int))) n = some (.tup ((xs.map fun x => -x).map V.int)) := upd_same
  generalize upd H5 n (.tup ((xs.map fun x => -x).map V.int)) = H6 at s6 h6
  have s06 := s04.trans (s5.trans s6)
  have ln : (xs.map fun x => -x).length = ds.length := by rw [List.length_map]; exact lx
  have iN := ints_in ds.length ln
  refine ⟨_, rfl, .ref t, .ref n, .tuple ds, .tuple ((xs.map fun x => -x).map PyData.int), All, All, rfl, dv s06, .tup trivial (.inl h6) (dq_intsA _), fun es' z e hz => ?_, (fun z => by rw [hf] at z; cases z), (fun _ z => by rw [show intsD (lenD (.tuple ds)) (.tuple ((xs.map fun x => -x).map PyData.int)) = true from iN] at z; cases z), fun ds' es' e1 e2 _ _ H7 s7 => ?_⟩
  · cases e
    obtain ⟨y, hy, e⟩ := List.mem_map.mp hz
    cases e
    obtain ⟨x, hx, rfl⟩ := List.mem_map.mp hy
    rw [Int.natAbs_neg]
    exact Nat.lt_trans (bx x hx) (by decide)
  cases e1
  cases e2
  rw [intV_int, val_neg]
  refine ⟨_, .int (valV ds.length (rowsV ds) xs), All, rfl, .int _, rv, _, rfl, _, .int (valV ds.length (rowsV ds) xs), All, rfl, .int _, rv, rfl, ?_⟩
  rw [sw]
  exact q _ (s06.trans s7)
end
end Ft

set_option exponentiation.threshold 9000
set_option maxHeartbeats 1000000
namespace Ft
open PySem L2
/-! ### drawn forms: only their shape and their size -/
theorem DeckAt.offd {H : Hp} {d l p : Addr} {xs : List V} (D : DeckAt H d l) (h : H p = some (.tup xs)) : p ≠ d := by
  obtain ⟨mx, dr, cs, hd, hl, _⟩ := D
  exact L2.ne_of h hd (by intro z; cases z)
theorem DeckAt.offl {H : Hp} {d l p : Addr} {xs : List V} (D : DeckAt H d l) (h : H p = some (.tup xs)) : p ≠ l := by
  obtain ⟨mx, dr, cs, hd, hl, _⟩ := D
  exact L2.ne_of h hl (by intro z; cases z)
theorem Tts.but {H H' : Hp} {d l : Addr} (D : DeckAt H d l) (b : But d l H H') : ∀ {vs : List V} {rs : List (List Int)}, Tts H vs rs → Tts H' vs rs
  | _, _, .nil => .nil
  | _, _, .cons h t => .cons (b _ _ h (D.offd h) (D.offl h)) (Tts.but D b t)
theorem TabT.but {H H' : Hp} {d l t : Addr} {rows : List (List Int)} (h : TabT H t rows) (D : DeckAt H d l) (b : But d l H H') : TabT H' t rows := by
  obtain ⟨ws, a, c⟩ := h
  exact ⟨ws, b _ _ a (D.offd a) (D.offl a), c.but D b⟩
/-- m rows of m ints, none greater than c -/
structure TbB (m c : Nat) (rows : List (List Int)) : Prop where
  lm : rows.length = m
  lr : ∀ r ∈ rows, r.length = m
  bd : ∀ r ∈ rows, ∀ x ∈ r, x.natAbs ≤ c
theorem two_q {a b most : Int} (a3 : 1 ≤ a) (a4 : a ≤ 4) (b1 : -a ≤ b) (b2 : b ≤ a) (m1 : 100 ≤ most) (m2 : most ≤ 190) : 0 ≤ b * b ∧ b * b ≤ 16 ∧ 6 ≤ (most + b * b) / (4 * a) ∧ (most + b * b) / (4 * a) ≤ 52 := by
  have h1 : 0 ≤ b * b := by
    rcases Int.le_total 0 b with h | h
    · exact Int.mul_nonneg h h
    · exact Int.mul_nonneg_of_nonpos_of_nonpos h h
  have h2 : b * b ≤ 16 := by
    have : b.natAbs ≤ 4 := by omega
    have h3 := Nat.mul_le_mul this this
    rw [← Int.natAbs_mul] at h3
    omega
  refine ⟨h1, h2, ?_, ?_⟩
  · obtain rfl | rfl | rfl | rfl : a = 1 ∨ a = 2 ∨ a = 3 ∨ a = 4 := by omega
    all_goals omega
  · obtain rfl | rfl | rfl | rfl : a = 1 ∨ a = 2 ∨ a = 3 ∨ a = 4 := by omega
    all_goals omega
theorem cm_small {i j : Int} (h : i.natAbs ≤ 1000) (k : j.natAbs ≤ 1000) : CMulW i j := by
  have a := Nat.log2_le_self i.natAbs
  have b := Nat.log2_le_self j.natAbs
  show i.natAbs.log2 + j.natAbs.log2 < 1000000
  omega
theorem cd_small {i j : Int} (h : 0 < j) (k : j.natAbs ≤ 1000) : CDivW i j := by
  have b := Nat.log2_le_self j.natAbs
  refine ⟨h, ?_⟩
  omega
def sp_two : Sp := fun vs H Q _ => ∃ (d l : Addr) (most : Int), vs = [.ref d, .int most] ∧ DeckAt H d l ∧ 100 ≤ most ∧ most ≤ 190 ∧ ∀ H' t rows, DeckAt H' d l → But d l H H' → TabT H' t rows → TbB 2 400 rows → Q (.ref t) H'
theorem two_sz {x y : V} : [x, y].length ≤ sizeLine := (by decide : 2 ≤ sizeLine)
theorem five_pos : (0 : Int) < 5 := by decide
def twoT : TS := tRet (tIf (tTest (tOp rEq (tCall sp_draw [] E0 (tCons (tVar 0) (tCons (tC (V.int 2)) tNil))) (tC (V.int 0)))) (tTup (tCons (tTup (tCons (tOp (rI CMulW fun i j => V.int (i * j)) (tC (V.int 2)) (tVar 2)) (tCons (tVar 3) tNil))) (tCons (tTup (tCons (tVar 3) (tCons (tOp (rI CMulW fun i j => V.int (i * j)) (tC (V.int 2)) (tVar 4)) tNil))) tNil))) (tTup (tCons (tTup (tCons (tOp (rI CMulW fun i j => V.int (i * j)) (tC (V.int 2)) (tVar 4)) (tCons (tVar 3) tNil))) (tCons (tTup (tCons (tVar 3) (tCons (tOp (rI CMulW fun i j => V.int (i * j)) (tC (V.int 2)) (tVar 2)) tNil))) tNil))))
theorem tab_two {H : Hp} {d l : Addr} {x y z u : Int} {Q : VK} (D : DeckAt H d l) (h1 : x.natAbs ≤ 400) (h2 : y.natAbs ≤ 400) (h3 : z.natAbs ≤ 400) (h4 : u.natAbs ≤ 400) (q : ∀ H' t rows, DeckAt H' d l → But d l H H' → TabT H' t rows → TbB 2 400 rows → Q (.ref t) H') (p1 : Addr) (n1 : H p1 = none) (p2 : Addr) (n2 : upd H p1 (.tup [.int x, .int y]) p2 = none) (p3 : Addr) (n3 : upd (upd H p1 (.tup [.int x, .int y])) p2 (.tup [.int z, .int u]) p3 = none) : Q (.ref p3) (upd (upd (upd H p1 (.tup [.int x, .int y])) p2 (.tup [.int z, .int u])) p3 (.tup [.ref p1, .ref p2])) := by
  have s1 : Same H (upd H p1 (.tup [.int x, .int y])) := Same.upd_new n1
  have s2 := Same.upd_new (o := .tup [.int z, .int u]) n2
  have s3 := Same.upd_new (o := .tup [.ref p1, .ref p2]) n3
  refine q _ _ [[x, y], [z, u]] (((D.same s1).same s2).same s3) (But.of ((s1.trans s2).trans s3)) ⟨_, upd_same, .cons (s3 _ _ (s2 _ _ upd_same)) (.cons (s3 _ _ upd_same) .nil)⟩ ⟨rfl, ?_, ?_⟩
  · intro r hr
    simp only [List.mem_cons, List.not_mem_nil, or_false] at hr
    rcases hr with rfl | rfl <;> rfl
  · intro r hr w hw
    simp only [List.mem_cons, List.not_mem_nil, or_false] at hr
    rcases hr with rfl | rfl <;> simp only [List.mem_cons, List.not_mem_nil, or_false] at hw <;> rcases hw with rfl | rfl <;> assumption
theorem two_tail {σ : St} {H : Hp} {d l : Addr} {a b c : Int} {Q : VK} {nx : St → Hp → Prop} (D : DeckAt H d l) (h0 : σ[0]? = some (some (V.ref d))) (h2 : σ[2]? = some (some (V.int a))) (h3 : σ[3]? = some (some (V.int b))) (h4 : σ[4]? = some (some (V.int c))) (x1 : a.natAbs ≤ 60) (x2 : b.natAbs ≤ 60) (x3 : c.natAbs ≤ 60) (q : ∀ H' t rows, DeckAt H' d l → But d l H H' → TabT H' t rows → TbB 2 400 rows → Q (.ref t) H') : twoT { nx := nx, rt := Q } σ H := by
  refine ⟨_, h0, d, l, 2, rfl, D, by decide, by decide, fun H1 r D1 b1 r1 r2 => ⟨rfl, ?_⟩⟩
  refine ⟨_, rfl, ?_⟩
  have q1 : ∀ H' t rows, DeckAt H' d l → But d l H1 H' → TabT H' t rows → TbB 2 400 rows → Q (.ref t) H' := fun H' t rows D' b' T B => q H' t rows D' (b1.trans b') T B
  cases h : decide (V.int r = V.int 0) with
  | true =>
    refine ⟨_, h2, _, _, rfl, rfl, cm_small (by omega) (by omega), _, h3, two_sz, fun p1 n1 => ⟨_, h3, _, h4, _, _, rfl, rfl, cm_small (by omega) (by omega), two_sz, fun p2 n2 => ⟨two_sz, fun p3 n3 => ?_⟩⟩⟩
    exact tab_two D1 (by omega) (by omega) (by omega) (by omega) q1 p1 n1 p2 n2 p3 n3
  | false =>
    refine ⟨_, h4, _, _, rfl, rfl, cm_small (by omega) (by omega), _, h3, two_sz, fun p1 n1 => ⟨_, h3, _, h2, _, _, rfl, rfl, cm_small (by omega) (by omega), two_sz, fun p2 n2 => ⟨two_sz, fun p3 n3 => ?_⟩⟩⟩
    exact tab_two D1 (by omega) (by omega) (by omega) (by omega) q1 p1 n1 p2 n2 p3 n3
section
variable {P : Program} {w : World} {K : PySem.W.Frag} {mg : Str → Option Value} {base : Heap}
theorem ok_two (D : Df K mg "_law_two" s__law_two ["_law_deck_here", "_law_most"]) (B : Bi mg) (c__law_draw : Cal P w K mg base 1 "_law_draw" sp_draw) : Cal P w K mg base 2 "_law_two" sp_two := by
  obtain ⟨f, fd, F, m, b⟩ := D.ex
  have sc := sc__law_two
  refine ⟨f, fd, _, F.ok sc (fun _ _ _ _ ⟨_, _, _, e, _⟩ => by rw [e]; rfl) (fun cdv A outer s H vs Q E hr h => ?_), m, F.kp, b⟩
  obtain ⟨d, l, most, rfl, D0, m1, m2, q⟩ := h
  refine ⟨_, (pss_cons (ps_set (i := 2) sc.nd rfl (Or.inl rfl) (pe_op op_add pe_int (pe_c c__law_draw hr (by decide) (by rfl) (pa_cons (pv 0) (pa_cons pe_int pa_nil)))))
      (pss_cons (ps_set (i := 3) sc.nd rfl (Or.inl rfl) (pe_op op_sub (pe_c c__law_draw hr (by decide) (by rfl) (pa_cons (pv 0) (pa_cons (pe_op op_add (pe_op op_mulW pe_int (pv 2)) pe_int) pa_nil))) (pv 2)))
      (pss_cons (ps_set (i := 4) sc.nd rfl (Or.inl rfl) (pe_op op_add (pv 2) (pe_c c__law_draw hr (by decide) (by rfl) (pa_cons (pv 0) (pa_cons (pe_op op_add (pe_op op_sub (pe_op op_fdivW (pe_op op_add (pv 1) (pe_op op_mulW (pv 3) (pv 3))) (pe_op op_mulW pe_int (pv 2))) (pv 2)) pe_int) pa_nil)))))
      (pss_cons (ps_if (pt_cmpR op_eq (pe_c c__law_draw hr (by decide) (by rfl) (pa_cons (pv 0) (pa_cons pe_int pa_nil))) pe_int (nomark _))
      (pss_one (ps_set (i := 4) sc.nd rfl (Or.inl rfl) (pe_op op_add (pv 2) (pe_op op_mod (pe_callTy call_int1 (by rfl) B.int_ (by decide +kernel) (pa_cons (pe_op op_sub (pv 4) (pv 2)) pa_nil)) pe_int))))
      pss_nil)
      (pss_one (ps_ret (pe_ifExp (pt_cmpR op_eq (pe_c c__law_draw hr (by decide) (by rfl) (pa_cons (pv 0) (pa_cons pe_int pa_nil))) pe_int (nomark _)) (pe_tup (pa_cons (pe_tup (pa_cons (pe_op op_mulW pe_int (pv 2)) (pa_cons (pv 3) pa_nil))) (pa_cons (pe_tup (pa_cons (pv 3) (pa_cons (pe_op op_mulW pe_int (pv 4)) pa_nil))) pa_nil))) (pe_tup (pa_cons (pe_tup (pa_cons (pe_op op_mulW pe_int (pv 4)) (pa_cons (pv 3) pa_nil))) (pa_cons (pe_tup (pa_cons (pv 3) (pa_cons (pe_op op_mulW pe_int (pv 2)) pa_nil))) pa_nil)))))))))), ?_⟩
  refine ⟨_, rfl, d, l, 4, rfl, D0, by decide, by decide, fun H1 a0 D1 b1 a1 a2 => ⟨_, _, rfl, rfl, ?_⟩⟩
  obtain ⟨a, ha, a3, a4⟩ : ∃ a : Int, 1 + a0 = a ∧ 1 ≤ a ∧ a ≤ 4 := ⟨_, rfl, by omega, by omega⟩
  dsimp only [gName]
  rw [ha]
  refine ⟨_, rfl, _, rfl, _, _, rfl, rfl, cm_small (by omega) (by omega), _, _, rfl, rfl, d, l, _, rfl, D1, by omega, by omega, fun H2 b0 D2 b2 c1 c2 => ⟨_, rfl, _, _, rfl, rfl, ?_⟩⟩
  obtain ⟨b, hb, b3, b4⟩ : ∃ b : Int, b0 - a = b ∧ -a ≤ b ∧ b ≤ a := ⟨_, rfl, by omega, by omega⟩
  dsimp only [gName]
  rw [hb]
  obtain ⟨p1, p2, q1, q2⟩ := two_q a3 a4 b3 b4 m1 m2
  have bs : (b * b).natAbs ≤ 1000 := by omega
  refine ⟨_, rfl, _, rfl, _, rfl, _, rfl, _, rfl, _, _, rfl, rfl, cm_small (by omega) (by omega), _, _, rfl, rfl, _, rfl, _, _, rfl, rfl, cm_small (by omega) (by omega), _, _, rfl, rfl, cd_small (by omega) (by omega), _, rfl, _, _, rfl, rfl, _, _, rfl, rfl, d, l, _, rfl, D2, by omega, by omega, fun H3 c0 D3 b5 d1 d2 => ⟨_, _, rfl, rfl, ?_⟩⟩
  obtain ⟨c, hc, c3, c4⟩ : ∃ c : Int, a + c0 = c ∧ a ≤ c ∧ c ≤ 60 := ⟨_, rfl, by omega, by omega⟩
  dsimp only [gName]
  rw [hc]
  clear hc hb ha d1 d2 p1 p2 q1 q2
  refine ⟨_, rfl, d, l, 2, rfl, D3, by decide, by decide, fun H4 r D4 b6 r1 r2 => ⟨rfl, ?_⟩⟩
  refine ⟨_, rfl, ?_⟩
  cases h : decide (V.int r = V.int 0) with
  | false => exact two_tail D4 rfl rfl rfl rfl (by omega) (by omega) (by omega) fun H' t rows D' b' T B => q H' t rows D' ((((b1.trans b2).trans b5).trans b6).trans b') T B
  | true =>
    refine ⟨_, rfl, _, rfl, _, rfl, _, _, rfl, rfl, .inl ⟨_, rfl, _, _, rfl, rfl, five_pos, _, _, rfl, rfl, ?_⟩⟩
    exact two_tail D4 rfl rfl rfl rfl (by omega) (by omega) (by omega) fun H' t rows D' b' T B => q H' t rows D' ((((b1.trans b2).trans b5).trans b6).trans b') T B
end
end Ft

set_option exponentiation.threshold 9000
set_option maxHeartbeats 1000000
namespace Ft
open PySem L2
theorem one_sz {x : V} : [x].length ≤ sizeLine := (by decide : 1 ≤ sizeLine)
theorem rep_zero (k : Nat) : (List.replicate k [V.int 0]).flatten = (List.replicate k (0 : Int)).map V.int := by
  induction k with
  | zero => rfl
  | succ k ih => rw [List.replicate_succ, List.flatten_cons, ih, List.replicate_succ]; rfl
theorem Tts.snoc {H : Hp} {c : Addr} {r : List Int} : ∀ {vs : List V} {rs : List (List Int)}, Tts H vs rs → H c = some (.tup (r.map V.int)) → Tts H (vs ++ [.ref c]) (rs ++ [r])
  | _, _, .nil, h => .cons h .nil
  | _, _, .cons a t, h => .cons a (Tts.snoc t h)
theorem Tts.app {H : Hp} {vs' : List V} {rs' : List (List Int)} (h : Tts H vs' rs') : ∀ {vs : List V} {rs : List (List Int)}, Tts H vs rs → Tts H (vs ++ vs') (rs ++ rs')
  | _, _, .nil => h
  | _, _, .cons a t => .cons a (Tts.app h t)
theorem Tts.app' {H : Hp} {vs vs' : List V} {rs rs' : List (List Int)} (a : Tts H vs rs) (h : Tts H vs' rs') : Tts H (vs ++ vs') (rs ++ rs') := Tts.app h a
/-- the list that a comprehension fills is none of the rows -/
theorem Tts.put {H : Hp} {D : Addr} {o : HO} {xs : List V} (hD : H D = some (.lst xs)) : ∀ {vs : List V} {rs : List (List Int)}, Tts H vs rs → Tts (upd H D o) vs rs
  | _, _, .nil => .nil
  | _, _, .cons a t => .cons (by rw [upd_ne (L2.ne_of a hD (by intro z; cases z))]; exact a) (Tts.put hD t)
theorem one_th : [V.int 0].length ≤ 1000 := by decide
theorem take_snocM {r : List Int} {f : List Int → List Int} {rs : List (List Int)} {i : Nat} (h : rs[i]? = some r) : (rs.take (i + 1)).map f = (rs.take i).map f ++ [f r] := by
  rw [List.take_add_one, h, List.map_append]
  rfl
def sp_beside : Sp := fun vs H Q _ => ∃ (t u : Addr) (r1 r2 : List (List Int)) (m n c : Nat), vs = [.ref t, .ref u] ∧ TabT H t r1 ∧ TabT H u r2 ∧ TbB m c r1 ∧ TbB n c r2 ∧ 2 ≤ m ∧ 2 ≤ n ∧ m ≤ 8 ∧ n ≤ 8 ∧ ∀ H' t' rows, Same H H' → TabT H' t' rows → TbB (m + n) c rows → Q (.ref t') H'
section
variable {P : Program} {w : World} {K : PySem.W.Frag} {mg : Str → Option Value} {base : Heap}
theorem ok_beside (D : Df K mg "_law_beside" s__law_beside ["_law_one", "_law_other_here"]) (B : Bi mg) : Cal P w K mg base 1 "_law_beside" sp_beside := by
  obtain ⟨f, fd, F, m, b⟩ := D.ex
  have sc := sc__law_beside
  refine ⟨f, fd, _, F.ok sc (fun _ _ _ _ ⟨_, _, _, _, _, _, _, e, _⟩ => by rw [e]; rfl) (fun cdv A outer s H vs Q E hr h => ?_), m, F.kp, b⟩
  obtain ⟨t, u, r1, r2, m, n, c, rfl, h1, h2, B1, B2, m2, n2, m8, n8, q⟩ := h
  obtain ⟨w1, ht, tw1⟩ := id h1
  obtain ⟨w2, hu, tw2⟩ := id h2
  have l1 : w1.length = m := by rw [tw1.len, B1.lm]
  have l2 : w2.length = n := by rw [tw2.len, B2.lm]
  refine ⟨_, (pss_cons (ps_asg (pe_tup (pa_cons (pe_callB call_len_seq (by rfl) B.len_ (by decide +kernel) (pa_cons (pv 0) pa_nil)) (pa_cons (pe_callB call_len_seq (by rfl) B.len_ (by decide +kernel) (pa_cons (pv 1) pa_nil)) pa_nil))) (pg_tup rfl (pgs_cons (pg_name (i := 2) sc.nd rfl (Or.inr rfl)) (pgs_cons (pg_name (i := 3) sc.nd rfl (Or.inr rfl)) pgs_nil))))
      (pss_one (ps_ret (pe_callTy call_tuple_of (by rfl) B.tuple (by decide +kernel) (pa_cons (pe_op op_cat (pe_lc (own := [("_law_row", 4)]) (g := gName 4) (tt := tYes) (by rfl) sc.nd (pi_tup (pv 0)) (blkOk_by (own := [("_law_row", 4)]) (N := N__law_beside) (sc := defScope s__law_beside) (by decide +kernel)) (fun _ _ _ _ _ => (pg_name (i := 4) sc.nd rfl (Or.inl rfl))) (fun _ _ _ _ _ => pts_nil) (fun _ _ _ _ _ => (pe_op (r := rCatA K) op_catA (pv 4) (pe_op (r := rRepT K) op_repT (pe_tup (pa_cons pe_int pa_nil)) (pv 3))))) (pe_lc (own := [("_law_row", 4)]) (g := gName 4) (tt := tYes) (by rfl) sc.nd (pi_tup (pv 1)) (blkOk_by (own := [("_law_row", 4)]) (N := N__law_beside) (sc := defScope s__law_beside) (by decide +kernel)) (fun _ _ _ _ _ => (pg_name (i := 4) sc.nd rfl (Or.inl rfl))) (fun _ _ _ _ _ => pts_nil) (fun _ _ _ _ _ => (pe_op (r := rCatA K) op_catA (pe_op (r := rRepT K) op_repT (pe_tup (pa_cons pe_int pa_nil)) (pv 2)) (pv 4))))) pa_nil))))), ?_⟩
  refine ⟨_, rfl, t, _, rfl, .inr (SqT.of ht), _, rfl, u, _, rfl, .inr (SqT.of hu), two_sz, fun p hp => ?_⟩
  refine ⟨p, _, rfl, SqT.of upd_same, rfl, ?_⟩
  have s1 : Same H (upd H p (.tup [.int (w1.length : Int), .int (w2.length : Int)])) := Same.upd_new hp
  refine ⟨_, _, rfl, _, _, rfl, rfl, ?_⟩
  have ht1 := s1 _ _ ht
  have hu1 := s1 _ _ hu
  generalize upd H p (.tup [.int (w1.length : Int), .int (w2.length : Int)]) = Ha at s1 ht1 hu1
  refine ⟨_, rfl, t, rfl, ⟨_, SqT.of ht1⟩, fun C hC => ?_⟩
  refine lc_it (walk_tup (K := K) (a := t) (xs := w1)) (fun i H' => Same Ha H' ∧ ∃ us, H' C = some (.lst us) ∧ us.length = i ∧ Tts H' us ((r1.take i).map fun r => r ++ List.replicate n 0)) ⟨Same.upd_new hC, [], upd_same, rfl, .nil⟩ (fun i H' _ ⟨z, _⟩ => SqT.of (z _ _ ht1)) ?_ ?_
  · rintro i x Hb Hc hi ⟨kb, us, h3, lu, tu⟩ ⟨rfl, hx0⟩
    obtain ⟨c1, r, rfl, hr1, hc1⟩ := tw1.get hx0
    have lr := B1.lr r (List.mem_of_getElem? hr1)
    dsimp only [gName]
    refine ⟨rfl, _, rfl, one_sz, fun p1 n1 => ?_⟩
    have k1 : Same Hc (upd Hc p1 (.tup [V.int 0])) := Same.upd_new n1
    refine ⟨_, rfl, p1, _, _, rfl, rfl, SqT.of upd_same, (by intro z; cases z), by omega, by omega, one_th, fun p2 n2 => ?_⟩
    have k2 := Same.upd_new (o := .tup (List.replicate (Int.toNat (w2.length : Int)) [V.int 0]).flatten) n2
    have e2 : (List.replicate (Int.toNat (w2.length : Int)) [V.int 0]).flatten = (List.replicate n (0 : Int)).map V.int := by rw [Int.toNat_natCast, l2, rep_zero]
    refine ⟨c1, p2, _, _, rfl, rfl, SqT.of (k2 _ _ (k1 _ _ (kb _ _ (s1 _ _ hc1)))), SqT.of upd_same, ?_, fun e => ?_, fun _ e => ?_, fun _ _ p3 n3 => ?_⟩
    · rw [e2, List.length_map, List.length_map, List.length_replicate, lr]
      exact Nat.le_trans (by omega : _ ≤ 400) (by decide)
    · have := congrArg List.length e
      rw [List.length_map, lr] at this
      exact absurd this (by simp; omega)
    · have := congrArg List.length e
      rw [e2, List.length_map, List.length_replicate] at this
      exact absurd this (by simp; omega)
    have k3 := Same.upd_new (o := .tup (r.map V.int ++ (List.replicate (Int.toNat (w2.length : Int)) [V.int 0]).flatten)) n3
    have k4 := (k1.trans k2).trans k3
    refine ⟨us, k4 _ _ h3, ?_, fun b o e => ?_, _, upd_same, by rw [List.length_append, lu]; rfl, ?_⟩
    · rw [lu]
      exact Nat.lt_of_le_of_lt (by omega : i ≤ 400) (by decide)
    · rw [upd_ne (ne_of_none e hC)]
      exact k4 _ _ (kb _ _ e)
    · rw [take_snocM hr1]
      refine Tts.put (k4 _ _ h3) ((tu.same k4).snoc ?_)
      rw [upd_same, e2, List.map_append]
  rintro Hd ⟨kd, us1, g1, lu1, tu1⟩
  rw [List.take_of_length_le (by have := B1.lm; omega)] at tu1
  have hu2 := kd _ _ hu1
  refine ⟨_, rfl, u, rfl, ⟨_, SqT.of hu2⟩, fun C2 hC2 => ?_⟩
  refine lc_it (walk_tup (K := K) (a := u) (xs := w2)) (fun i H' => Same Hd H' ∧ ∃ us, H' C2 = some (.lst us) ∧ us.length = i ∧ Tts H' us ((r2.take i).map fun r => List.replicate m 0 ++ r)) ⟨Same.upd_new hC2, [], upd_same, rfl, .nil⟩ (fun i H' _ ⟨z, _⟩ => SqT.of (z _ _ hu2)) ?_ ?_
  · rintro i x Hb Hc hi ⟨kb, us, h3, lu, tu⟩ ⟨rfl, hx0⟩
    obtain ⟨c1, r, rfl, hr1, hc1⟩ := tw2.get hx0
    have lr := B2.lr r (List.mem_of_getElem? hr1)
    dsimp only [gName]
    refine ⟨rfl, one_sz, fun p1 n1 => ?_⟩
    have k1 : Same Hc (upd Hc p1 (.tup [V.int 0])) := Same.upd_new n1
    refine ⟨_, rfl, p1, _, _, rfl, rfl, SqT.of upd_same, (by intro z; cases z), by omega, by omega, one_th, fun p2 n2 => ?_⟩
    have k2 := Same.upd_new (o := .tup (List.replicate (Int.toNat (w1.length : Int)) [V.int 0]).flatten) n2
    have e2 : (List.replicate (Int.toNat (w1.length : Int)) [V.int 0]).flatten = (List.replicate m (0 : Int)).map V.int := by rw [Int.toNat_natCast, l1, rep_zero]
    refine ⟨_, rfl, p2, c1, _, _, rfl, rfl, SqT.of upd_same, SqT.of (k2 _ _ (k1 _ _ (kb _ _ (kd _ _ (s1 _ _ hc1))))), ?_, fun e => ?_, fun _ e => ?_, fun _ _ p3 n3 => ?_⟩
    · rw [e2, List.length_map, List.length_map, List.length_replicate, lr]
      exact Nat.le_trans (by omega : _ ≤ 400) (by decide)
    · have := congrArg List.length e
      rw [e2, List.length_map, List.length_replicate] at this
      exact absurd this (by simp; omega)
    · have := congrArg List.length e
      rw [List.length_map, lr] at this
      exact absurd this (by simp; omega)
    have k3 := Same.upd_new (o := .tup ((List.replicate (Int.toNat (w1.length : Int)) [V.int 0]).flatten ++ r.map V.int)) n3
    have k4 := (k1.trans k2).trans k3
    refine ⟨us, k4 _ _ h3, ?_, fun b o e => ?_, _, upd_same, by rw [List.length_append, lu]; rfl, ?_⟩
    · rw [lu]
      exact Nat.lt_of_le_of_lt (by omega : i ≤ 400) (by decide)
    · rw [upd_ne (ne_of_none e hC2)]
      exact k4 _ _ (kb _ _ e)
    · rw [take_snocM hr1]
      refine Tts.put (k4 _ _ h3) ((tu.same k4).snoc ?_)
      rw [upd_same, e2, List.map_append]
  rintro He ⟨ke, us2, g2, lu2, tu2⟩
  rw [List.take_of_length_le (by have := B2.lm; omega)] at tu2
  refine ⟨C, C2, us1, us2, rfl, rfl, ke _ _ g1, g2, ?_, fun p6 n6 => ⟨p6, _, rfl, .inl ⟨SqL.of upd_same, fun p7 n7 => ?_⟩⟩⟩
  · rw [lu1, lu2]
    exact Nat.le_trans (by omega : _ ≤ 400) (by decide)
  have k6 := Same.upd_new (o := .lst (us1 ++ us2)) n6
  have k7 := Same.upd_new (o := .tup (us1 ++ us2)) n7
  refine q _ _ _ ((((s1.trans kd).trans ke).trans k6).trans k7) ⟨_, upd_same, (((tu1.same ke).same k6).same k7).app' ((tu2.same k6).same k7)⟩ ⟨?_, fun r hr => ?_, fun r hr x hx => ?_⟩
  · rw [List.length_append, List.length_map, List.length_map, B1.lm, B2.lm]
  · rcases List.mem_append.mp hr with h | h <;> obtain ⟨r0, h0, rfl⟩ := List.mem_map.mp h
    · rw [List.length_append, List.length_replicate, B1.lr r0 h0]
    · rw [List.length_append, List.length_replicate, B2.lr r0 h0]
  · rcases List.mem_append.mp hr with h | h <;> obtain ⟨r0, h0, rfl⟩ := List.mem_map.mp h <;> rcases List.mem_append.mp hx with h | h
    · exact B1.bd r0 h0 x h
    · rw [List.eq_of_mem_replicate h]
      exact Nat.zero_le _
    · rw [List.eq_of_mem_replicate h]
      exact Nat.zero_le _
    · exact B2.bd r0 h0 x h
end
end Ft

set_option exponentiation.threshold 9000
set_option maxHeartbeats 1000000
namespace Ft
open PySem L2
theorem erase_map {f : Int → V} : ∀ (xs : List Int) (k : Nat), (xs.map f).eraseIdx k = (xs.eraseIdx k).map f
  | [], _ => rfl
  | _ :: _, 0 => rfl
  | x :: xs, k + 1 => congrArg (f x :: ·) (erase_map xs k)
theorem seq_nat {k n : Nat} (h : k < n) : seqIndex? (k : Int) n = some k := by
  unfold seqIndex?
  have a : ¬ ((k : Int) < 0) := by omega
  have b : (0 : Int) ≤ k := by omega
  have c : (k : Int) < n := by omega
  simp [a, b, c, h]
theorem DeckAt.put {H : Hp} {d l p : Addr} {o : HO} (D : DeckAt H d l) (a : p ≠ d) (b : p ≠ l) : DeckAt (upd H p o) d l := by
  obtain ⟨mx, dr, cs, h1, h2, h3⟩ := D
  exact ⟨mx, dr, cs, by rw [upd_ne a.symm]; exact h1, by rw [upd_ne b.symm]; exact h2, h3⟩
/-- n places, each below n -/
def sp_order : Sp := fun vs H Q _ => ∃ (d l : Addr) (n : Nat), vs = [.ref d, .int n] ∧ DeckAt H d l ∧ 1 ≤ n ∧ n ≤ 8 ∧ ∀ (H' : Hp) (p : Addr) (xs : List Int), DeckAt H' d l → But d l H H' → H' p = some (.tup (xs.map V.int)) → xs.length = n → (∀ x ∈ xs, 0 ≤ x ∧ x < n) → Q (.ref p) H'
section
variable {P : Program} {w : World} {K : PySem.W.Frag} {mg : Str → Option Value} {base : Heap}
theorem ok_order (D : Df K mg "_law_order" s__law_order ["_law_deck_here", "_law_n"]) (B : Bi mg) (c__law_draw : Cal P w K mg base 1 "_law_draw" sp_draw) : Cal P w K mg base 2 "_law_order" sp_order := by
  obtain ⟨f, fd, F, m, b⟩ := D.ex
  have sc := sc__law_order
  refine ⟨f, fd, _, F.ok sc (fun _ _ _ _ ⟨_, _, _, e, _⟩ => by rw [e]; rfl) (fun cdv A outer s H vs Q E hr h => ?_), m, F.kp, b⟩
  obtain ⟨d, l, n, rfl, D0, n1, n8, q⟩ := h
  refine ⟨_, (pss_cons (ps_par (i := 2) (j := 3) (by rfl) sc.nd rfl rfl (by decide) rfl rfl (pa_cons (pe_listRg (by rfl) (by rfl) B.list (prg_1 (by rfl) B.range (pv 1))) (pa_cons (pe_lst pa_nil) pa_nil)) (by rfl))
      (pss_cons (ps_for PassesOwn.never rfl (pi_range1 rfl B.range (pa_cons (pv 1) pa_nil)) (pg_name (i := 4) sc.nd rfl (Or.inl rfl))
      (pss_one (ps_expr (pe_bm PySem.F.plainAttrs_list PySem.F.slot_list_append PySem.F.type_list_append mt_append (pv 3) (pa_cons (pe_bm PySem.F.plainAttrs_list PySem.F.slot_list_pop PySem.F.type_list_pop mt_popAt (pv 2) (pa_cons (pe_c c__law_draw hr (by decide) (by rfl) (pa_cons (pv 0) (pa_cons (pe_callB call_len_seq (by rfl) B.len_ (by decide +kernel) (pa_cons (pv 2) pa_nil)) pa_nil))) pa_nil)) pa_nil)))))
      (pss_one (ps_ret (pe_callTy call_tuple_of (by rfl) B.tuple (by decide +kernel) (pa_cons (pv 3) pa_nil)))))), ?_⟩
  refine ⟨_, rfl, _, rfl, RgOk.of_le (by decide) (by omega) (by decide) (by omega), fun L hL => ⟨Nat.zero_le _, fun C hC => ⟨_, _, rfl, ?_⟩⟩⟩
  have nLC : L ≠ C := fun e => by rw [e, upd_same] at hC; cases hC
  have nC : H C = none := by rwa [upd_ne (fun e => nLC e.symm)] at hC
  obtain ⟨nd, nl⟩ := D0.new hL
  obtain ⟨cd, cl⟩ := D0.new nC
  refine ⟨_, rfl, n, rfl, by omega, by omega, for_it (walk_range (lo := 0) (n := Int.toNat (n : Int))) (fun i σ H' => DeckAt H' d l ∧ But d l H H' ∧ (∃ ls fs : List Int, H' L = some (.lst (ls.map V.int)) ∧ H' C = some (.lst (fs.map V.int)) ∧ ls.length + i = n ∧ fs.length = i ∧ (∀ x ∈ ls, 0 ≤ x ∧ x < n) ∧ ∀ x ∈ fs, 0 ≤ x ∧ x < n) ∧ ∃ o : Option V, σ = [some (.ref d), some (.int n), some (.ref L), some (.ref C), o]) ?_ (fun _ _ _ _ _ => trivial) ?_ ?_⟩
  · refine ⟨(D0.put nd nl).put cd cl, But.of ((Same.upd_new hL).trans (Same.upd_new hC)), ⟨(List.range n).map fun i : Nat => (i : Int), [], ?_, upd_same, ?_, rfl, ?_, fun x h => absurd h (by simp)⟩, _, rfl⟩
    · rw [upd_ne nLC, upd_same]
      unfold rgV
      rw [List.map_map, show ((n : Int) - 0).toNat = n by omega]
      refine congrArg (fun xs => some (HO.lst xs)) (List.map_congr_left fun i _ => ?_)
      show V.int (0 + (i : Int)) = V.int i
      rw [Int.zero_add]
    · rw [List.length_map, List.length_range, Nat.add_zero]
    · intro x hx
      obtain ⟨i, hi, rfl⟩ := List.mem_map.mp hx
      have := List.mem_range.mp hi
      omega
  · rintro i x σ Ha Hb hi ⟨Da, ba, ⟨ls, fs, h1, h2, l1, l2, r1, r2⟩, o, rfl⟩ y0
    obtain ⟨rfl, rfl⟩ := y0
    have len : 0 < ls.length := by omega
    refine ⟨_, rfl, .inl ⟨rfl, _, SqL.of h2⟩, _, rfl, .inl ⟨rfl, _, SqL.of h1⟩, _, rfl, _, rfl, L, _, rfl, .inl (SqL.of h1), d, l, _, rfl, Da, ?_, ?_, fun Hc k Dc bc k1 k2 => ?_⟩
    · rw [List.length_map]; omega
    · rw [List.length_map]; omega
    rw [List.length_map] at k2
    have g1 := bc _ _ h1 nd nl
    have g2 := bc _ _ h2 cd cl
    obtain ⟨k', rfl⟩ : ∃ k' : Nat, k = (k' : Int) := ⟨k.toNat, by omega⟩
    have kl : k' < ls.length := by omega
    refine ⟨L, _, k', k', V.int ls[k'], rfl, rfl, g1, by omega, by omega, ?_, ?_, ?_⟩
    · rw [List.length_map]
      exact seq_nat kl
    · rw [List.getElem?_map, List.getElem?_eq_getElem kl]; rfl
    refine ⟨C, _, _, rfl, rfl, (by rw [upd_ne (fun e => nLC e.symm)]; exact g2), ?_, ?_⟩
    · rw [List.length_map, l2]
      exact Nat.lt_of_le_of_lt (by omega : i ≤ 400) (by decide)
    have hlp : ∀ x ∈ ls.eraseIdx k', 0 ≤ x ∧ x < n := fun x hx => r1 x (List.mem_of_mem_eraseIdx hx)
    refine ⟨?_, ?_, ⟨ls.eraseIdx k', fs ++ [ls[k']], ?_, ?_, ?_, ?_, hlp, ?_⟩, _, rfl⟩
    · exact (Dc.put nd nl).put cd cl
    · intro b o e hb1 hb2
      rw [upd_ne (ne_of_none e nC), upd_ne (ne_of_none e hL)]
      exact bc _ _ (ba _ _ e hb1 hb2) hb1 hb2
    · rw [upd_ne nLC, upd_same, erase_map]
    · rw [upd_same, List.map_append]; rfl
    · rw [List.length_eraseIdx_of_lt kl]; omega
    · rw [List.length_append, l2]; rfl
    · intro x hx
      rcases List.mem_append.mp hx with h | h
      · exact r2 x h
      · rw [List.mem_singleton.mp h]
        exact r1 _ (List.getElem_mem kl)
  · rintro σ Ha ⟨Da, ba, ⟨ls, fs, h1, h2, l1, l2, r1, r2⟩, o, rfl⟩
    refine ⟨_, rfl, C, _, rfl, .inl ⟨SqL.of h2, fun p hp => q _ p fs (Da.same (Same.upd_new hp)) (ba.trans (But.of (Same.upd_new hp))) upd_same (by omega) r2⟩⟩
end
end Ft

set_option exponentiation.threshold 9000
set_option maxHeartbeats 1000000
namespace Ft
open PySem L2 RZ
/-- tuple(x) of a list or a tuple, written down -/
def rTupQ (K : PySem.W.Frag) : List V → Hp → VK → Prop := fun xs H Q => ∃ p ys, xs = [V.ref p] ∧ ((SqL K H p ys ∧ ∀ (l : Addr), H l = none → Q (V.ref l) (upd H l (HO.tup ys))) ∨ SqT K H p ys ∧ Q (V.ref p) H)
/-- a list of m ints, none greater than b, that is none of d, l, C -/
def LsB (d l C : Addr) (m b : Nat) (H : Hp) (v : V) : Prop := ∃ (c : Addr) (r : List Int), v = .ref c ∧ H c = some (.lst (r.map V.int)) ∧ c ≠ d ∧ c ≠ l ∧ c ≠ C ∧ r.length = m ∧ ∀ x ∈ r, x.natAbs ≤ b
theorem LsB.but {d l C : Addr} {m b : Nat} {H H' : Hp} {v : V} (h : LsB d l C m b H v) (k : But d l H H') : LsB d l C m b H' v := by
  obtain ⟨c, r, e, h1, h2, h3, h⟩ := h
  exact ⟨c, r, e, k _ _ h1 h2 h3, h2, h3, h⟩
theorem LsB.put {d l C : Addr} {m b : Nat} {H : Hp} {v : V} {o : HO} (h : LsB d l C m b H v) : LsB d l C m b (upd H C o) v := by
  obtain ⟨c, r, e, h1, h2, h3, h4, h⟩ := h
  exact ⟨c, r, e, by rw [upd_ne h4]; exact h1, h2, h3, h4, h⟩
theorem LsB.up {d l C : Addr} {m b b' : Nat} {H : Hp} {v : V} (h : LsB d l C m b H v) (k : b ≤ b') : LsB d l C m b' H v := by
  obtain ⟨c, r, e, h1, h2, h3, h4, h5, h6⟩ := h
  exact ⟨c, r, e, h1, h2, h3, h4, h5, fun x hx => Nat.le_trans (h6 x hx) k⟩
def TpB (C : Addr) (m b : Nat) (H : Hp) (v : V) : Prop := ∃ (c : Addr) (r : List Int), v = .ref c ∧ H c = some (.tup (r.map V.int)) ∧ c ≠ C ∧ r.length = m ∧ ∀ x ∈ r, x.natAbs ≤ b
theorem TpB.same {C : Addr} {m b : Nat} {H H' : Hp} {v : V} (h : TpB C m b H v) (k : Same H H') : TpB C m b H' v := by
  obtain ⟨c, r, e, h1, h⟩ := h
  exact ⟨c, r, e, k _ _ h1, h⟩
theorem TpB.put {C : Addr} {m b : Nat} {H : Hp} {v : V} {o : HO} (h : TpB C m b H v) : TpB C m b (upd H C o) v := by
  obtain ⟨c, r, e, h1, h4, h⟩ := h
  exact ⟨c, r, e, by rw [upd_ne h4]; exact h1, h4, h⟩
theorem tts_of {C : Addr} {m b : Nat} {H : Hp} : ∀ {vs : List V}, (∀ v ∈ vs, TpB C m b H v) → ∃ rs, Tts H vs rs ∧ ∀ r ∈ rs, r.length = m ∧ ∀ x ∈ r, x.natAbs ≤ b
  | [], _ => ⟨[], .nil, fun _ h => absurd h (by simp)⟩
  | v :: vs, h => by
    obtain ⟨c, r, rfl, h1, _, h2, h3⟩ := h v List.mem_cons_self
    obtain ⟨rs, t, k⟩ := tts_of fun u hu => h u (List.mem_cons_of_mem _ hu)
    refine ⟨r :: rs, .cons h1 t, fun r' hr => ?_⟩
    rcases List.mem_cons.mp hr with rfl | hr
    · exact ⟨h2, h3⟩
    · exact k r' hr
/-- m rows of m ints, none greater than 2 ^ many -/
def sp_uni : Sp := fun vs H Q _ => ∃ (d l : Addr) (m many : Nat), vs = [.ref d, .int m, .int many] ∧ DeckAt H d l ∧ 1 ≤ m ∧ m ≤ 8 ∧ many ≤ 3 ∧ ∀ (H' : Hp) (t : Addr) (rows : List (List Int)), DeckAt H' d l → But d l H H' → TabT H' t rows → TbB m (2 ^ many) rows → Q (.ref t) H'
section
variable {P : Program} {w : World} {K : PySem.W.Frag} {mg : Str → Option Value} {base : Heap}
theorem ok_uni (D : Df K mg "_law_unimodular" s__law_unimodular ["_law_deck_here", "_law_m", "_law_many"]) (B : Bi mg) (c__law_draw : Cal P w K mg base 1 "_law_draw" sp_draw) (c__law_order : Cal P w K mg base 2 "_law_order" sp_order) : Cal P w K mg base 3 "_law_unimodular" sp_uni := by
  obtain ⟨f, fd, F, m, b⟩ := D.ex
  have sc := sc__law_unimodular
  refine ⟨f, fd, _, F.ok sc (fun _ _ _ _ ⟨_, _, _, _, e, _⟩ => by rw [e]; rfl) (fun cdv A outer s H vs Q E hr h => ?_), m, F.kp, b⟩
  obtain ⟨d, l, m, many, rfl, D0, m1, m8, k3, q⟩ := h
  refine ⟨_, (pss_cons (ps_set (i := 3) sc.nd rfl (Or.inr rfl) (pe_c c__law_order hr (by decide) (by rfl) (pa_cons (pv 0) (pa_cons (pv 1) pa_nil))))
      (pss_cons (ps_setLc (i := 6) (own := [("_law_i", 5)]) (g := gName 5) (tt := tYes) (by rfl) sc.nd rfl rfl (sw_true rfl rfl rfl (by decide +kernel)) (pi_range1 rfl B.range (pa_cons (pv 1) pa_nil)) (blkOk_by (own := [("_law_i", 5)]) (N := N__law_unimodular) (sc := defScope s__law_unimodular) (by decide +kernel)) (fun _ _ _ _ _ => (pg_name (i := 5) sc.nd rfl (Or.inr rfl))) (fun _ _ _ _ _ => pts_nil) (fun _ _ _ _ _ => (pe_lc (own := [("_law_j", 4)]) (g := gName 4) (tt := tYes) (by rfl) sc.nd (pi_range1 rfl B.range (pa_cons (pv 1) pa_nil)) (blkOk_by (own := [("_law_j", 4)]) (N := N__law_unimodular) (sc := { kind := ScopeKind.function, names := [(".0", NameKind.local), ("_law_i", NameKind.cell), ("range", NameKind.globalImplicit), ("_law_deck_here", NameKind.cell), ("_law_m", NameKind.cell), ("_law_order_here", NameKind.cell)], isGenerator := false, isCoroutine := false }) (by decide +kernel)) (fun _ _ _ _ _ => (pg_name (i := 4) sc.nd rfl (Or.inl rfl))) (fun _ _ _ _ _ => pts_nil) (fun _ _ _ _ _ => (pe_op op_mulW (pe_op op_sub pe_int (pe_op op_mulW pe_int (pe_c c__law_draw hr (by decide) (by rfl) (pa_cons (pv 0) (pa_cons pe_int pa_nil))))) (pe_callTy call_int1 (by rfl) B.int_ (by decide +kernel) (pa_cons (pe_cmpR op_eq (pv 4) (pe_ix (show IxR _ (rIx K) from ix_seq) (pv 3) (pv 5) (fun _ _ => rfl)) (nomark _)) pa_nil)))))))
      (pss_cons (ps_for PassesOwn.never rfl (pi_range1 rfl B.range (pa_cons (pv 2) pa_nil)) (pg_name (i := 7) sc.nd rfl (Or.inl rfl))
      (pss_cons (ps_asg (pe_tup (pa_cons (pe_c c__law_draw hr (by decide) (by rfl) (pa_cons (pv 0) (pa_cons (pv 1) pa_nil))) (pa_cons (pe_c c__law_draw hr (by decide) (by rfl) (pa_cons (pv 0) (pa_cons (pv 1) pa_nil))) (pa_cons (pe_op op_sub pe_int (pe_op op_mulW pe_int (pe_c c__law_draw hr (by decide) (by rfl) (pa_cons (pv 0) (pa_cons pe_int pa_nil))))) pa_nil)))) (pg_tup rfl (pgs_cons (pg_name (i := 5) sc.nd rfl (Or.inl rfl)) (pgs_cons (pg_name (i := 4) sc.nd rfl (Or.inl rfl)) (pgs_cons (pg_name (i := 8) sc.nd rfl (Or.inr rfl)) pgs_nil)))))
        (pss_one (ps_if (pt_cmpR op_ne (pv 5) (pv 4) (nomark _))
        (pss_one (ps_asg (pe_lc (own := [("_law_x", 9), ("_law_y", 10)]) (g := gTup K 2 (gCons (gName 9) (gCons (gName 10) gNil))) (tt := tYes) (by rfl) sc.nd (pi_zipA (by rfl) B.zip (pa_cons (pe_ix (show IxR _ (rIx K) from ix_seq) (pv 6) (pv 5) (fun _ _ => rfl)) (pa_cons (pe_ix (show IxR _ (rIx K) from ix_seq) (pv 6) (pv 4) (fun _ _ => rfl)) pa_nil))) (blkOk_by (own := [("_law_x", 9), ("_law_y", 10)]) (N := N__law_unimodular) (sc := defScope s__law_unimodular) (by decide +kernel)) (fun _ _ _ _ _ => (pg_tup rfl (pgs_cons (pg_name (i := 9) sc.nd rfl (Or.inl rfl) (Or.inr rfl)) (pgs_cons (pg_name (i := 10) sc.nd rfl (Or.inl rfl) (Or.inr rfl)) pgs_nil)))) (fun _ _ _ _ _ => pts_nil) (fun _ _ _ _ _ => (pe_op op_add (pv 9) (pe_op op_mulW (pv 8) (pv 10))))) (pg_sub (pv 6) (pv 5) set_list)))
        pss_nil))))
      (pss_one (ps_ret (pe_callTy call_tuple_of (by rfl) B.tuple (by decide +kernel) (pa_cons (pe_lc (own := [("_law_row", 11)]) (g := gName 11) (tt := tYes) (by rfl) sc.nd (pi_list (pv 6)) (blkOk_by (own := [("_law_row", 11)]) (N := N__law_unimodular) (sc := defScope s__law_unimodular) (by decide +kernel)) (fun _ _ _ _ _ => (pg_name (i := 11) sc.nd rfl (Or.inl rfl))) (fun _ _ _ _ _ => pts_nil) (fun _ _ _ _ _ => (pe_callTy (T := "tuple") (r := rTupQ K) call_tuple_of (by rfl) B.tuple (by decide +kernel) (pa_cons (pv 11) pa_nil)))) pa_nil))))))), ?_⟩
  refine ⟨_, rfl, _, rfl, d, l, m, rfl, D0, m1, m8, fun H1 po os D1 b1 hpo lo bo => ?_⟩
  dsimp only [gName]
  refine ⟨_, rfl, m, rfl, by omega, by omega, fun C hC => ?_⟩
  obtain ⟨Cd, Cl⟩ := D1.new hC
  refine lc_it (walk_range (lo := 0) (n := Int.toNat (m : Int))) (fun i H' => DeckAt H' d l ∧ But d l H1 H' ∧ ∃ vs, H' C = some (.lst vs) ∧ vs.length = i ∧ ∀ v ∈ vs, LsB d l C m 1 H' v) ⟨D1.put Cd Cl, But.of (Same.upd_new hC), [], upd_same, rfl, fun v h => absurd h (by simp)⟩ (fun _ _ _ _ => trivial) ?_ ?_
  · rintro i x Ha Hb hi ⟨Da, ba, vs, h3, lv, av⟩ y0
    obtain ⟨rfl, rfl⟩ := y0
    dsimp only [gName]
    have im : i < m := by omega
    refine ⟨rfl, _, rfl, m, rfl, by omega, by omega, fun C2 hC2 => ?_⟩
    obtain ⟨C2d, C2l⟩ := Da.new hC2
    refine lc_it (walk_range (lo := 0) (n := Int.toNat (m : Int))) (fun j H' => DeckAt H' d l ∧ But d l Hb H' ∧ ∃ ys : List Int, H' C2 = some (.lst (ys.map V.int)) ∧ ys.length = j ∧ ∀ y ∈ ys, y.natAbs ≤ 1) ⟨Da.put C2d C2l, But.of (Same.upd_new hC2), [], upd_same, rfl, fun v h => absurd h (by simp)⟩ (fun _ _ _ _ => trivial) ?_ ?_
    · rintro j x Hc Hd hj ⟨Dc, bc, ys, h4, ly, ay⟩ y1
      obtain ⟨rfl, rfl⟩ := y1
      dsimp only [gName]
      refine ⟨rfl, _, rfl, d, l, 2, rfl, Dc, by decide, by decide, fun He r De be r1 r2 => ?_⟩
      refine ⟨_, _, rfl, rfl, cm_small (by decide) (by omega), _, _, rfl, rfl, ?_⟩
      have e4 := be _ _ h4 C2d C2l
      have epo := be _ _ (bc _ _ (ba _ _ hpo (D1.offd hpo) (D1.offl hpo)) (D1.offd hpo) (D1.offl hpo)) (D1.offd hpo) (D1.offl hpo)
      have jm : j < m := by omega
      have fin : ∀ z : Int, z.natAbs ≤ 1 → rI CMulW (fun i j => V.int (i * j)) (V.int (1 - 2 * r)) (V.int z) He fun y H4 => ∃ acc, H4 C2 = some (HO.lst acc) ∧ acc.length < sizeLine ∧ DeckAt (upd H4 C2 (HO.lst (acc ++ [y]))) d l ∧ But d l Hb (upd H4 C2 (HO.lst (acc ++ [y]))) ∧ ∃ ys : List Int, upd H4 C2 (HO.lst (acc ++ [y])) C2 = some (HO.lst (List.map V.int ys)) ∧ ys.length = j + 1 ∧ ∀ y ∈ ys, y.natAbs ≤ 1 := by
        intro z hz
        refine ⟨_, _, rfl, rfl, cm_small (by omega) (by omega), _, e4, ?_, De.put C2d C2l, fun b o e hb1 hb2 => ?_, ys ++ [(1 - 2 * r) * z], ?_, ?_, fun y hy => ?_⟩
        · rw [List.length_map, ly]
          exact Nat.lt_of_le_of_lt (by omega : j ≤ 400) (by decide)
        · rw [upd_ne (ne_of_none e hC2)]
          exact be _ _ (bc _ _ e hb1 hb2) hb1 hb2
        · rw [upd_same, List.map_append]; rfl
        · rw [List.length_append, ly]; rfl
        · rcases List.mem_append.mp hy with h | h
          · exact ay y h
          · rw [List.mem_singleton.mp h, Int.natAbs_mul]
            have : (1 - 2 * r).natAbs ≤ 1 := by omega
            exact Nat.le_trans (Nat.mul_le_mul this hz) (by decide)
      refine ⟨_, rfl, _, rfl, _, rfl, .inr (.inl ⟨po, _, _, _, rfl, rfl, SqT.of epo, (by rw [Int.zero_add]; exact atI_nat (getD_at (by omega))), ?_⟩)⟩
      refine ⟨rfl, .inr ⟨_, rfl, fin _ ?_⟩⟩
      split <;> decide
    rintro Hc ⟨Dc, bc, ys, h4, ly, ay⟩
    have e3 := bc _ _ h3 Cd Cl
    have nC : C2 ≠ C := (ne_of_none h3 hC2).symm
    refine ⟨_, e3, ?_, Dc.put Cd Cl, fun b o e hb1 hb2 => ?_, vs ++ [V.ref C2], upd_same, by rw [List.length_append, lv]; rfl, fun v hv => ?_⟩
    · rw [lv]
      exact Nat.lt_of_le_of_lt (by omega : i ≤ 400) (by decide)
    · rw [upd_ne (ne_of_none e hC)]
      exact bc _ _ (ba _ _ e hb1 hb2) hb1 hb2
    · rcases List.mem_append.mp hv with h | h
      · exact ((av v h).but bc).put
      · rw [List.mem_singleton.mp h]
        exact ⟨C2, ys, rfl, (by rw [upd_ne nC]; exact h4), C2d, C2l, nC, by omega, ay⟩
  rintro H2 ⟨D2, b2, vs, h2, lv, av⟩
  dsimp only [gName]
  have bb : ∀ i, i < many → (2 : Nat) ^ (i + 1) = 2 ^ i + 2 ^ i := fun i _ => by rw [Nat.pow_succ]; omega
  refine tSeq_join (fun (σ : St) H' => DeckAt H' d l ∧ But d l H1 H' ∧ (∃ vs, H' C = some (.lst vs) ∧ vs.length = m ∧ ∀ v ∈ vs, LsB d l C m (2 ^ many) H' v) ∧ ∃ o4 o5 o7 o8 o9 o10 o11 : Option V, σ = [some (.ref d), some (.int m), some (.int many), some (.ref po), o4, o5, some (.ref C), o7, o8, o9, o10, o11]) ?_ ?_
  · intro N hN
    refine ⟨_, rfl, many, rfl, by omega, by omega, for_it (walk_range (lo := 0) (n := Int.toNat (many : Int))) (fun i (σ : St) H' => DeckAt H' d l ∧ But d l H1 H' ∧ (∃ vs, H' C = some (.lst vs) ∧ vs.length = m ∧ ∀ v ∈ vs, LsB d l C m (2 ^ i) H' v) ∧ ∃ o4 o5 o7 o8 o9 o10 o11 : Option V, σ = [some (.ref d), some (.int m), some (.int many), some (.ref po), o4, o5, some (.ref C), o7, o8, o9, o10, o11]) ?_ (fun _ _ _ _ _ => trivial) ?_ ?_⟩
    · refine ⟨D2, b2, ⟨vs, h2, by omega, av⟩, _, _, _, _, _, _, _, rfl⟩
    · rintro i x σ Ha Hb hi ⟨Da, ba, ⟨us, h3, lu, au⟩, o4, o5, o7, o8, o9, o10, o11, rfl⟩ y0
      obtain ⟨rfl, rfl⟩ := y0
      refine ⟨_, rfl, _, rfl, d, l, m, rfl, Da, by omega, by omega, fun Hc a Dc bc a1 a2 => ?_⟩
      refine ⟨_, rfl, _, rfl, d, l, m, rfl, Dc, by omega, by omega, fun He b De be r1 r2 => ?_⟩
      refine ⟨_, rfl, d, l, 2, rfl, De, by decide, by decide, fun Hf r Df bf s1 s2 => ?_⟩
      refine ⟨_, _, rfl, rfl, cm_small (by decide) (by omega), _, _, rfl, rfl, (by show (3 : Nat) ≤ sizeLine; decide), fun T hT => ⟨T, _, rfl, SqT.of upd_same, rfl, ?_⟩⟩
      dsimp only [gName]
      have ks := Same.upd_new (o := .tup [V.int a, V.int b, V.int (1 - 2 * r)]) hT
      have Dg := Df.same ks
      have bg : But d l Hb (upd Hf T (.tup [V.int a, V.int b, V.int (1 - 2 * r)])) := ((bc.trans be).trans bf).trans (But.of ks)
      generalize upd Hf T (.tup [V.int a, V.int b, V.int (1 - 2 * r)]) = Hg at Dg bg
      have g3 := bg _ _ h3 Cd Cl
      have pw : (2 : Nat) ^ (i + 1) = 2 ^ i + 2 ^ i := by rw [Nat.pow_succ]; omega
      obtain ⟨a', rfl⟩ : ∃ k : Nat, a = (k : Int) := ⟨a.toNat, by omega⟩
      obtain ⟨b', rfl⟩ : ∃ k : Nat, b = (k : Int) := ⟨b.toNat, by omega⟩
      refine ⟨_, _, rfl, _, _, rfl, _, _, rfl, rfl, ?_⟩
      refine ⟨_, rfl, _, rfl, rfl, _, rfl, ifNI (fun e => ?_) fun ne => ?_⟩
      · obtain ⟨va, hva⟩ : ∃ v, us[a']? = some v := ⟨_, List.getElem?_eq_getElem (by omega)⟩
        obtain ⟨vb, hvb⟩ : ∃ v, us[b']? = some v := ⟨_, List.getElem?_eq_getElem (by omega)⟩
        obtain ⟨ca, ra, rfl, hca, ad, al, aC, la, xa⟩ := (au va (List.mem_of_getElem? hva)).but bg
        obtain ⟨cb, rb, rfl, hcb, bd, bl, bC, lb, xb⟩ := (au vb (List.mem_of_getElem? hvb)).but bg
        refine ⟨_, rfl, _, rfl, .inl ⟨C, us, _, _, rfl, rfl, SqL.of g3, atI_nat hva, ?_⟩⟩
        refine ⟨_, rfl, _, rfl, .inl ⟨C, us, _, _, rfl, rfl, SqL.of g3, atI_nat hvb, ?_⟩⟩
        refine ⟨ca, cb, _, _, rfl, .inl ⟨SqL.of hca, SqL.of hcb, fun C5 hC5 => ?_⟩⟩
        obtain ⟨C5d, C5l⟩ := Dg.new hC5
        refine lc_it (walk_zip (K := K) (a := ca) (b := cb) (xs := ra.map V.int) (ys := rb.map V.int) (n := m) (by rw [List.length_map, List.length_map, la, lb, Nat.min_self])) (fun j H' => Same Hg H' ∧ ∃ ys : List Int, H' C5 = some (.lst (ys.map V.int)) ∧ ys.length = j ∧ ∀ y ∈ ys, y.natAbs ≤ 2 ^ (i + 1)) ⟨Same.upd_new hC5, [], upd_same, rfl, fun v h => absurd h (by simp)⟩ (fun j H' _ ⟨z, _⟩ => ⟨SqL.of (z _ _ hca), SqL.of (z _ _ hcb)⟩) ?_ ?_
        · rintro j x1 Hc1 Hd1 hj ⟨kc, ys, h6, l6, a6⟩ ⟨T2, x, y, rfl, hT2, rfl, hx2, hy2⟩
          obtain rfl : x = V.int (ra.getD j 0) := Option.some.inj (hx2.symm.trans (getD_at (by omega)))
          obtain rfl : y = V.int (rb.getD j 0) := Option.some.inj (hy2.symm.trans (getD_at (by omega)))
          have k7 : Same Hc1 (upd Hc1 T2 (.tup [V.int (ra.getD j 0), V.int (rb.getD j 0)])) := Same.upd_new hT2
          refine ⟨T2, _, rfl, SqT.of upd_same, rfl, ?_⟩
          refine ⟨_, _, rfl, _, _, rfl, rfl, rfl, ?_⟩
          have q1 : (ra.getD j 0).natAbs ≤ 2 ^ i := xa _ (getD_memI (by omega))
          have q2 : (rb.getD j 0).natAbs ≤ 2 ^ i := xb _ (getD_memI (by omega))
          have q3 : (2 : Nat) ^ i ≤ 2 ^ 3 := Nat.pow_le_pow_right (by decide) (by omega)
          have q4 : ((1 - 2 * r) * rb.getD j 0).natAbs ≤ 2 ^ i := by
            rw [Int.natAbs_mul]
            have : (1 - 2 * r).natAbs ≤ 1 := by omega
            exact Nat.le_trans (Nat.mul_le_mul this q2) (by omega)
          refine ⟨_, rfl, _, rfl, _, rfl, _, _, rfl, rfl, cm_small (by omega) (by omega), _, _, rfl, rfl, ?_⟩
          refine ⟨_, k7 _ _ h6, ?_, fun b o e => ?_, ys ++ [ra.getD j 0 + (1 - 2 * r) * rb.getD j 0], ?_, ?_, fun y hy => ?_⟩
          · rw [List.length_map, l6]
            exact Nat.lt_of_le_of_lt (by omega : j ≤ 400) (by decide)
          · rw [upd_ne (ne_of_none e hC5)]
            exact k7 _ _ (kc _ _ e)
          · rw [upd_same, List.map_append]; rfl
          · rw [List.length_append, l6]; rfl
          · rcases List.mem_append.mp hy with h | h
            · exact a6 y h
            · rw [List.mem_singleton.mp h, pw]
              omega
        rintro Hh ⟨kh, ys, h6, l6, a6⟩
        have g3h := kh _ _ g3
        have nC5 : C5 ≠ C := (ne_of_none g3 hC5).symm
        refine ⟨_, rfl, _, rfl, C, us, _, a', rfl, rfl, g3h, ?_, ?_⟩
        · unfold ixN
          rw [if_pos (by omega), if_pos (by omega), Int.toNat_natCast]
        refine ⟨(Dg.same kh).put Cd Cl, fun b o e hb1 hb2 => ?_, ⟨us.set a' (.ref C5), upd_same, by rw [List.length_set]; exact lu, fun v hv => ?_⟩, _, _, _, _, _, _, _, rfl⟩
        · rw [upd_ne (ne_of_none e hC)]
          exact kh _ _ (bg _ _ (ba _ _ e hb1 hb2) hb1 hb2)
        · rcases List.mem_or_eq_of_mem_set hv with h | h
          · exact ((((au v h).but bg).but (But.of kh)).put).up (Nat.pow_le_pow_right (by decide) (Nat.le_succ i))
          · rw [h]
            exact ⟨C5, ys, rfl, (by rw [upd_ne nC5]; exact h6), C5d, C5l, nC5, l6, a6⟩
      · refine ⟨Dg, ba.trans bg, ⟨us, g3, lu, fun v hv => ((au v hv).but bg).up (Nat.pow_le_pow_right (by decide) (Nat.le_succ i))⟩, _, _, _, _, _, _, _, rfl⟩
    · rintro σ Hb ⟨Db, bb, ⟨us, h3, lu, au⟩, r⟩
      exact hN _ _ ⟨Db, bb, ⟨us, h3, lu, by rwa [Int.toNat_natCast] at au⟩, r⟩
  rintro σ H3 ⟨D3, b3, ⟨us, h3, lu, au⟩, o4, o5, o7, o8, o9, o10, o11, rfl⟩
  refine ⟨_, rfl, C, rfl, ⟨_, SqL.of h3⟩, fun C4 hC4 => ?_⟩
  refine lc_it (walk_list (K := K) (a := C) (xs := us)) (fun i H' => Same H3 H' ∧ ∃ vs : List V, H' C4 = some (.lst vs) ∧ vs.length = i ∧ ∀ v ∈ vs, TpB C4 m (2 ^ many) H' v) ⟨Same.upd_new hC4, [], upd_same, rfl, fun v h => absurd h (by simp)⟩ (fun i H' _ ⟨z, _⟩ => SqL.of (z _ _ h3)) ?_ ?_
  · rintro i x Ha Hb hi ⟨ka, vs, h6, l6, a6⟩ ⟨rfl, hx0⟩
    obtain ⟨c, r, rfl, hc, cd, cl, cC, lr, xr⟩ := au x (List.mem_of_getElem? hx0)
    dsimp only [gName]
    refine ⟨rfl, _, rfl, c, _, rfl, .inl ⟨SqL.of (ka _ _ hc), fun p hp => ?_⟩⟩
    have kp := Same.upd_new (o := .tup (r.map V.int)) hp
    have np : p ≠ C4 := (ne_of_none h6 hp).symm
    refine ⟨vs, kp _ _ h6, ?_, fun b o e => ?_, vs ++ [.ref p], upd_same, by rw [List.length_append, l6]; rfl, fun v hv => ?_⟩
    · rw [l6]
      have := (List.getElem?_eq_some_iff.mp hx0).1
      exact Nat.lt_of_le_of_lt (by omega : i ≤ 400) (by decide)
    · rw [upd_ne (ne_of_none e hC4)]
      exact kp _ _ (ka _ _ e)
    · rcases List.mem_append.mp hv with h | h
      · exact ((a6 v h).same kp).put
      · rw [List.mem_singleton.mp h]
        exact ⟨p, r, rfl, (by rw [upd_ne np]; exact upd_same), np, lr, xr⟩
  rintro H4 ⟨s4, vs, h4, l4, a4⟩
  obtain ⟨rows, tr, br⟩ := tts_of a4
  refine ⟨C4, _, rfl, .inl ⟨SqL.of h4, fun p hp => ?_⟩⟩
  have k4 := Same.upd_new (o := .tup vs) hp
  refine q _ _ rows ((D3.same s4).same k4) ((b1.trans b3).trans (But.of (s4.trans k4))) ⟨_, upd_same, tr.same k4⟩ ⟨?_, fun r hr => (br r hr).1, fun r hr => (br r hr).2⟩
  rw [← tr.len, l4, lu]
end
end Ft

/-! zip of a tuple and a list -/
namespace Ft
open PySem PySem.Spec PyProof.Rows L2
def ItzM (K : PySem.W.Frag) (a b : Addr) : It where
  go := fun i H => ∃ xs ys : List V, SqT K H a xs ∧ SqL K H b ys ∧ i < xs.length ∧ i < ys.length
  yld := fun i H v H' => ∃ T x y, v = .ref T ∧ H T = none ∧ H' = upd H T (.tup [x, y]) ∧ (∀ xs, SqT K H a xs → xs[i]? = some x) ∧ ∀ ys, SqL K H b ys → ys[i]? = some y
  stop := fun i H => ∃ xs ys : List V, SqT K H a xs ∧ SqL K H b ys ∧ i = min xs.length ys.length
theorem other_clsL {h : Heap} {a b : Addr} {o : Obj} {us : Array Value} (t : h.IsList a us) (e : h.get? b = some o) (c : o.cls ≠ .type "list") : a ≠ b := by
  rintro rfl
  obtain ⟨o', e', c', _⟩ := t
  rw [e] at e'
  cases e'
  exact c c'
theorem in5 {z TI TO i1 i2 c : Addr} (h : c ∈ [z, TI, TO, i1, i2]) : c = z ∨ c = TI ∨ c = TO ∨ c = i1 ∨ c = i2 := by simpa using h
theorem turn_zipM {P : Program} {w : World} {K : PySem.W.Frag} {elts : List Expr} {kk : Nat} {tpos : Pos} {a b z TI TO i1 i2 : Addr} (S : ZipSep2 z TI TO i1 i2 [i1, a] [i2, b]) (n12 : i1 ≠ i2) :
    Turn P w K (.Tuple elts kk tpos) (ItzM K a b) [z, TI, TO, i1, i2] z (fun i h => IsZip h z TI TO .none ∧ IsTupOf2 h TI (.ref i1) (.ref i2) ∧ (∃ x y, IsTupOf2 h TO x y) ∧ h.IsTupleIter i1 a i ∧ h.IsListIter i2 b i) where
  mem := List.mem_cons_self
  obj := fun i h st c hc => by
    obtain ⟨ez, eI, ⟨x, y, eO⟩, ⟨o1, e1, _, d1⟩, ⟨o2, e2, _, d2⟩⟩ := st
    rcases in5 hc with rfl | rfl | rfl | rfl | rfl
    · exact ⟨_, ez, fun v q => nomatch q⟩
    · exact ⟨_, eI, fun v q => nomatch q⟩
    · exact ⟨_, eO, fun v q => nomatch q⟩
    · exact ⟨o1, e1, fun v q => by rw [d1] at q; cases q⟩
    · exact ⟨o2, e2, fun v q => by rw [d2] at q; cases q⟩
  keep := fun i h h' st k => by
    obtain ⟨ez, eI, ⟨x, y, eO⟩, j1, j2⟩ := st
    exact ⟨k z (by simp) _ ez, k TI (by simp) _ eI, ⟨x, y, k TO (by simp) _ eO⟩, j1.at fun o q => k i1 (by simp) o q, j2.at fun o q => k i2 (by simp) o q⟩
  item := by
    intro X hP hw hK hc i pins s σ H E I hf st g
    subst hP hw hK
    obtain ⟨ez, eI, ⟨x0, y0, eO⟩, j1, j2⟩ := st
    obtain ⟨xs, ys, qx, qy, l1, l2⟩ := g
    obtain ⟨us, rv, tp, _⟩ := I.tuple qx
    obtain ⟨us2, rv2, tp2, _⟩ := I.list qy
    have tp' : s.heap.IsTuple a us.toArray := tp
    have tl' : s.heap.IsList b us2.toArray := tp2.isList
    have n1 : a ≠ i1 := by obtain ⟨o, eo, oc, _⟩ := id j1; exact other_cls tp' eo (by rw [oc]; decide +kernel)
    have n2 : b ≠ i2 := by obtain ⟨o, eo, oc, _⟩ := id j2; exact other_clsL tl' eo (by rw [oc]; decide +kernel)
    have hd : X.A.in1.handled = none := I.ok.hd hc
    have zl := Heap.lt_size ez
    refine wpAny_pyNext_zipD2_item S (Draws.tuple hd i1 a n1 us.toArray) (Draws.list hd i2 b n2 us2.toArray) ez eI eO ⟨j1, tp'⟩ ⟨j2, tl'⟩ (by have := rv.length; simp; omega) (by have := rv2.length; simp; omega) fun u1 u2 h' tk hu1 hu2 ez' eO' z1 z2 hT _ kp => ?_
    refine ⟨_, rfl, wpAny_letOwnedTupleGo_zip (s := { s with heap := h', toks := tk }) ez' fun h2 ez2 sb => ?_⟩
    have tT : h2.get? s.heap.objs.size = some { cls := .type "tuple", data := .seq #[u1, u2] } := (sb.2 _ (Nat.ne_of_gt zl)).trans hT
    have hx : xs[i]? = some xs[i] := List.getElem?_eq_getElem l1
    have hy : ys[i]? = some ys[i] := List.getElem?_eq_getElem l2
    obtain ⟨w1, hw1, r1⟩ := rv.get hx
    obtain ⟨w2, hw2, r2⟩ := rv2.get hy
    obtain rfl : w1 = u1 := Option.some.inj (hw1.symm.trans (by simpa using hu1))
    obtain rfl : w2 = u2 := Option.some.inj (hw2.symm.trans (by simpa using hu2))
    have nw : ObjOk X.prog X.w (upd H s.heap.objs.size (.tup [xs[i], ys[i]])) h2 s.heap.objs.size (.tup [xs[i], ys[i]]) :=
      ⟨(by show (2 : Nat) ≤ sizeLine; decide), [w1, w2], .cons r1 (.cons r2 .nil), ⟨_, tT, rfl, _, rfl⟩⟩
    have I2 : Inv X pins σ (upd H s.heap.objs.size (.tup [xs[i], ys[i]])) { s with heap := h2, toks := tk } :=
      I.turnedNew (ch := [z, TI, TO, i1, i2]) (fun c o nc y => (sb.2 c fun e => nc (by simp [e])).trans (kp c o (fun e => nc (by simp [e])) (fun e => nc (by simp [e])) (fun e => nc (by simp [e])) (fun e => nc (by simp [e])) y)) hf (Nat.le_refl _) nw
    have eI2 : IsTupOf2 h2 TI (.ref i1) (.ref i2) := (sb.2 _ S.TIz).trans (kp _ _ S.TIz S.TITO S.TIi1 S.TIi2 eI)
    refine ⟨.ref s.heap.objs.size, _, I2, rfl, ⟨_, _, _, rfl, I.hok.fresh (Nat.le_refl _), rfl, fun zs hz => by rw [I.tuple_inj hz qx]; exact hx, fun zs hz => by rw [I.list_inj hz qy]; exact hy⟩,
      ⟨ez2, eI2, ⟨_, _, (sb.2 _ S.TOz).trans eO'⟩, z1.1.at fun o y => (sb.2 _ S.zi1.symm).trans y, z2.1.at fun o y => (sb.2 _ S.zi2.symm).trans y⟩, fun c hcm => ?_⟩
    have lt : c < s.heap.objs.size := by
      rcases in5 hcm with rfl | rfl | rfl | rfl | rfl
      · exact zl
      · exact Heap.lt_size eI
      · exact Heap.lt_size eO
      · obtain ⟨_, e1, _⟩ := j1; exact Heap.lt_size e1
      · obtain ⟨_, e2, _⟩ := j2; exact Heap.lt_size e2
    rw [upd_ne (Nat.ne_of_lt lt)]
    exact (hf c hcm).1
  done := by
    intro X hP hw hK hc i pins s σ H E I hf st g
    subst hP hw hK
    obtain ⟨ez, eI, ⟨x0, y0, eO⟩, j1, j2⟩ := st
    obtain ⟨xs, ys, qx, qy, l⟩ := g
    obtain ⟨us, rv, tp, _⟩ := I.tuple qx
    obtain ⟨us2, rv2, tp2, _⟩ := I.list qy
    have tp' : s.heap.IsTuple a us.toArray := tp
    have tl' : s.heap.IsList b us2.toArray := tp2.isList
    have n1 : a ≠ i1 := by obtain ⟨o, eo, oc, _⟩ := id j1; exact other_cls tp' eo (by rw [oc]; decide +kernel)
    have n2 : b ≠ i2 := by obtain ⟨o, eo, oc, _⟩ := id j2; exact other_clsL tl' eo (by rw [oc]; decide +kernel)
    have hd : X.A.in1.handled = none := I.ok.hd hc
    have r1 := rv.length
    have r2 := rv2.length
    exact wpAny_pyNext_zipD2_end S (Draws.tuple hd i1 a n1 us.toArray) (Draws.list hd i2 b n2 us2.toArray) ez eI eO ⟨j1, tp'⟩ ⟨j2, tl'⟩ (by simp; omega) (by simp; omega) (by simp; omega) fun h' tk kp => ⟨rfl,
      I.turnedL (t' := tk) (ch := [z, TI, TO, i1, i2]) (fun c o nc y => kp c o (fun e => nc (by simp [e])) (fun e => nc (by simp [e])) (fun e => nc (by simp [e])) (fun e => nc (by simp [e])) y) hf⟩
  self := fun A i s Q E st h => wpAny_pyIter_zip st.1 h
def iZipM (K : PySem.W.Frag) (ta : TA) : TI := fun σ H R => ta σ H fun vs H1 => ∃ a b xs ys, vs = [.ref a, .ref b] ∧ SqT K H1 a xs ∧ SqL K H1 b ys ∧ R (ItzM K a b) H1
/-- zip(t, l), t a tuple, l a list -/
theorem pi_zipM {X : Cx} {e e2 : Expr} {ta : TA} {p pos tpos : Pos} {elts : List Expr} {kk : Nat} (hg : Gl X "zip") (hm : X.mg "zip" = none) (ha : PA X [e, e2] ta)
    (hs : starEach [e, e2] X.env = (false, eval e X.env) :: starEach [e2] X.env := by rfl) (hpl : (backTo pos (starEach [e2] X.env)).any (·.1) = false := by rfl) :
    PI X (.Tuple elts kk tpos) (.Call (.Name "zip" p) [e, e2] [] pos) (iZipM X.K ta) := by
  refine ⟨fun pins s σ H R I z => Call_ (ld_blt I hg hm PyProof.Rows.boot_zip (PyProof.Rows.callWith_type1 (thn (ha.run pos pins s σ H _ I z) fun us s1 ⟨vs, H1, I1, r1, q1⟩ => ?_) hs hpl))⟩
  obtain ⟨a, b, xs, ys, rfl, qx, qy, q⟩ := q1
  obtain ⟨u, u', rfl, ru, ru'⟩ := vals2 r1
  obtain rfl : u = Value.ref a := ru
  obtain rfl : u' = Value.ref b := ru'
  obtain ⟨its, rv, tp, _⟩ := I1.tuple qx
  obtain ⟨its2, rv2, tp2, _⟩ := I1.list qy
  have al : a < s1.heap.objs.size := by obtain ⟨o, eo, _⟩ := id tp; exact Heap.lt_size eo
  refine zip_begins2 (begins_tuple a its.toArray) (begins_list b its2.toArray) (show s1.heap.IsTuple a its.toArray from tp) tp2.isList fun h' ez eI eO j1 j2 _ kp => wpAny_pyIter_zip ez ?_
  have I2 : Inv X pins σ H1 { s1 with heap := h' } := I1.kept (t' := s1.toks) kp
  refine ⟨s1.heap.objs.size + 4, [s1.heap.objs.size + 4, s1.heap.objs.size + 2, s1.heap.objs.size + 3, s1.heap.objs.size, s1.heap.objs.size + 1], _, _, H1, rfl, I2,
    turn_zipM (zip_sep2 (N := s1.heap.objs.size) (fp1 := [a]) (fp2 := [b]) (fun c y => by rw [List.mem_singleton.mp y]; exact al) (fun c y => by rw [List.mem_singleton.mp y]; exact tp2.lt)) (Nat.ne_of_lt (Nat.lt_succ_self _)), ⟨ez, eI, ⟨_, _, eO⟩, ⟨_, j1, rfl, rfl⟩, ⟨_, j2, rfl, rfl⟩⟩, fun c hcm => ?_, q⟩
  have le : s1.heap.objs.size ≤ c := by
    rcases in5 hcm with rfl | rfl | rfl | rfl | rfl
    · exact Nat.le_add_right _ _
    · exact Nat.le_add_right _ _
    · exact Nat.le_add_right _ _
    · exact Nat.le_refl _
    · exact Nat.le_add_right _ _
  exact I1.fpOk le (I1.hok.fresh le)
theorem walk_zipM {K : PySem.W.Frag} {a b : Addr} {xs ys : List V} {n : Nat} (hn : n = min xs.length ys.length) : Walk (ItzM K a b) n (fun H => SqT K H a xs ∧ SqL K H b ys) (YPair (fun i => xs[i]?) (fun i => ys[i]?)) :=
  ⟨fun _ _ lt q => ⟨xs, ys, q.1, q.2, by omega, by omega⟩, fun _ q => ⟨xs, ys, q.1, q.2, hn⟩, fun i _ _ _ _ q y => by
    obtain ⟨T, x, u, e1, e2, e3, e4, e5⟩ := y
    exact ⟨T, x, u, e1, e2, e3, e4 xs q.1, e5 ys q.2⟩⟩
end Ft

/-! zip of a list and a tuple -/
namespace Ft
open PySem PySem.Spec PyProof.Rows L2
def ItzN (K : PySem.W.Frag) (a b : Addr) : It where
  go := fun i H => ∃ xs ys : List V, SqL K H a xs ∧ SqT K H b ys ∧ i < xs.length ∧ i < ys.length
  yld := fun i H v H' => ∃ T x y, v = .ref T ∧ H T = none ∧ H' = upd H T (.tup [x, y]) ∧ (∀ xs, SqL K H a xs → xs[i]? = some x) ∧ ∀ ys, SqT K H b ys → ys[i]? = some y
  stop := fun i H => ∃ xs ys : List V, SqL K H a xs ∧ SqT K H b ys ∧ i = min xs.length ys.length
theorem turn_zipN {P : Program} {w : World} {K : PySem.W.Frag} {elts : List Expr} {kk : Nat} {tpos : Pos} {a b z TI TO i1 i2 : Addr} (S : ZipSep2 z TI TO i1 i2 [i1, a] [i2, b]) (n12 : i1 ≠ i2) :
    Turn P w K (.Tuple elts kk tpos) (ItzN K a b) [z, TI, TO, i1, i2] z (fun i h => IsZip h z TI TO .none ∧ IsTupOf2 h TI (.ref i1) (.ref i2) ∧ (∃ x y, IsTupOf2 h TO x y) ∧ h.IsListIter i1 a i ∧ h.IsTupleIter i2 b i) where
  mem := List.mem_cons_self
  obj := fun i h st c hc => by
    obtain ⟨ez, eI, ⟨x, y, eO⟩, ⟨o1, e1, _, d1⟩, ⟨o2, e2, _, d2⟩⟩ := st
    rcases in5 hc with rfl | rfl | rfl | rfl | rfl
    · exact ⟨_, ez, fun v q => nomatch q⟩
    · exact ⟨_, eI, fun v q => nomatch q⟩
    · exact ⟨_, eO, fun v q => nomatch q⟩
    · exact ⟨o1, e1, fun v q => by rw [d1] at q; cases q⟩
    · exact ⟨o2, e2, fun v q => by rw [d2] at q; cases q⟩
  keep := fun i h h' st k => by
    obtain ⟨ez, eI, ⟨x, y, eO⟩, j1, j2⟩ := st
    exact ⟨k z (by simp) _ ez, k TI (by simp) _ eI, ⟨x, y, k TO (by simp) _ eO⟩, j1.at fun o q => k i1 (by simp) o q, j2.at fun o q => k i2 (by simp) o q⟩
  item := by
    intro X hP hw hK hc i pins s σ H E I hf st g
    subst hP hw hK
    obtain ⟨ez, eI, ⟨x0, y0, eO⟩, j1, j2⟩ := st
    obtain ⟨xs, ys, qx, qy, l1, l2⟩ := g
    obtain ⟨us, rv, tp, _⟩ := I.list qx
    obtain ⟨us2, rv2, tp2, _⟩ := I.tuple qy
    have tp' : s.heap.IsList a us.toArray := tp.isList
    have tl' : s.heap.IsTuple b us2.toArray := tp2
    have n1 : a ≠ i1 := by obtain ⟨o, eo, oc, _⟩ := id j1; exact other_clsL tp' eo (by rw [oc]; decide +kernel)
    have n2 : b ≠ i2 := by obtain ⟨o, eo, oc, _⟩ := id j2; exact other_cls tl' eo (by rw [oc]; decide +kernel)
    have hd : X.A.in1.handled = none := I.ok.hd hc
    have zl := Heap.lt_size ez
    refine wpAny_pyNext_zipD2_item S (Draws.list hd i1 a n1 us.toArray) (Draws.tuple hd i2 b n2 us2.toArray) ez eI eO ⟨j1, tp'⟩ ⟨j2, tl'⟩ (by have := rv.length; simp; omega) (by have := rv2.length; simp; omega) fun u1 u2 h' tk hu1 hu2 ez' eO' z1 z2 hT _ kp => ?_
    refine ⟨_, rfl, wpAny_letOwnedTupleGo_zip (s := { s with heap := h', toks := tk }) ez' fun h2 ez2 sb => ?_⟩
    have tT : h2.get? s.heap.objs.size = some { cls := .type "tuple", data := .seq #[u1, u2] } := (sb.2 _ (Nat.ne_of_gt zl)).trans hT
    have hx : xs[i]? = some xs[i] := List.getElem?_eq_getElem l1
    have hy : ys[i]? = some ys[i] := List.getElem?_eq_getElem l2
    obtain ⟨w1, hw1, r1⟩ := rv.get hx
    obtain ⟨w2, hw2, r2⟩ := rv2.get hy
    obtain rfl : w1 = u1 := Option.some.inj (hw1.symm.trans (by simpa using hu1))
    obtain rfl : w2 = u2 := Option.some.inj (hw2.symm.trans (by simpa using hu2))
    have nw : ObjOk X.prog X.w (upd H s.heap.objs.size (.tup [xs[i], ys[i]])) h2 s.heap.objs.size (.tup [xs[i], ys[i]]) :=
      ⟨(by show (2 : Nat) ≤ sizeLine; decide), [w1, w2], .cons r1 (.cons r2 .nil), ⟨_, tT, rfl, _, rfl⟩⟩
    have I2 : Inv X pins σ (upd H s.heap.objs.size (.tup [xs[i], ys[i]])) { s with heap := h2, toks := tk } :=
      I.turnedNew (ch := [z, TI, TO, i1, i2]) (fun c o nc y => (sb.2 c fun e => nc (by simp [e])).trans (kp c o (fun e => nc (by simp [e])) (fun e => nc (by simp [e])) (fun e => nc (by simp [e])) (fun e => nc (by simp [e])) y)) hf (Nat.le_refl _) nw
    have eI2 : IsTupOf2 h2 TI (.ref i1) (.ref i2) := (sb.2 _ S.TIz).trans (kp _ _ S.TIz S.TITO S.TIi1 S.TIi2 eI)
    refine ⟨.ref s.heap.objs.size, _, I2, rfl, ⟨_, _, _, rfl, I.hok.fresh (Nat.le_refl _), rfl, fun zs hz => by rw [I.list_inj hz qx]; exact hx, fun zs hz => by rw [I.tuple_inj hz qy]; exact hy⟩,
      ⟨ez2, eI2, ⟨_, _, (sb.2 _ S.TOz).trans eO'⟩, z1.1.at fun o y => (sb.2 _ S.zi1.symm).trans y, z2.1.at fun o y => (sb.2 _ S.zi2.symm).trans y⟩, fun c hcm => ?_⟩
    have lt : c < s.heap.objs.size := by
      rcases in5 hcm with rfl | rfl | rfl | rfl | rfl
      · exact zl
      · exact Heap.lt_size eI
      · exact Heap.lt_size eO
      · obtain ⟨_, e1, _⟩ := j1; exact Heap.lt_size e1
      · obtain ⟨_, e2, _⟩ := j2; exact Heap.lt_size e2
    rw [upd_ne (Nat.ne_of_lt lt)]
    exact (hf c hcm).1
  done := by
    intro X hP hw hK hc i pins s σ H E I hf st g
    subst hP hw hK
    obtain ⟨ez, eI, ⟨x0, y0, eO⟩, j1, j2⟩ := st
    obtain ⟨xs, ys, qx, qy, l⟩ := g
    obtain ⟨us, rv, tp, _⟩ := I.list qx
    obtain ⟨us2, rv2, tp2, _⟩ := I.tuple qy
    have tp' : s.heap.IsList a us.toArray := tp.isList
    have tl' : s.heap.IsTuple b us2.toArray := tp2
    have n1 : a ≠ i1 := by obtain ⟨o, eo, oc, _⟩ := id j1; exact other_clsL tp' eo (by rw [oc]; decide +kernel)
    have n2 : b ≠ i2 := by obtain ⟨o, eo, oc, _⟩ := id j2; exact other_cls tl' eo (by rw [oc]; decide +kernel)
    have hd : X.A.in1.handled = none := I.ok.hd hc
    have r1 := rv.length
    have r2 := rv2.length
    exact wpAny_pyNext_zipD2_end S (Draws.list hd i1 a n1 us.toArray) (Draws.tuple hd i2 b n2 us2.toArray) ez eI eO ⟨j1, tp'⟩ ⟨j2, tl'⟩ (by simp; omega) (by simp; omega) (by simp; omega) fun h' tk kp => ⟨rfl,
      I.turnedL (t' := tk) (ch := [z, TI, TO, i1, i2]) (fun c o nc y => kp c o (fun e => nc (by simp [e])) (fun e => nc (by simp [e])) (fun e => nc (by simp [e])) (fun e => nc (by simp [e])) y) hf⟩
  self := fun A i s Q E st h => wpAny_pyIter_zip st.1 h
def iZipN (K : PySem.W.Frag) (ta : TA) : TI := fun σ H R => ta σ H fun vs H1 => ∃ a b xs ys, vs = [.ref a, .ref b] ∧ SqL K H1 a xs ∧ SqT K H1 b ys ∧ R (ItzN K a b) H1
/-- zip(l, t), l a list, t a tuple -/
theorem pi_zipN {X : Cx} {e e2 : Expr} {ta : TA} {p pos tpos : Pos} {elts : List Expr} {kk : Nat} (hg : Gl X "zip") (hm : X.mg "zip" = none) (ha : PA X [e, e2] ta)
    (hs : starEach [e, e2] X.env = (false, eval e X.env) :: starEach [e2] X.env := by rfl) (hpl : (backTo pos (starEach [e2] X.env)).any (·.1) = false := by rfl) :
    PI X (.Tuple elts kk tpos) (.Call (.Name "zip" p) [e, e2] [] pos) (iZipN X.K ta) := by
  refine ⟨fun pins s σ H R I z => Call_ (ld_blt I hg hm PyProof.Rows.boot_zip (PyProof.Rows.callWith_type1 (thn (ha.run pos pins s σ H _ I z) fun us s1 ⟨vs, H1, I1, r1, q1⟩ => ?_) hs hpl))⟩
  obtain ⟨a, b, xs, ys, rfl, qx, qy, q⟩ := q1
  obtain ⟨u, u', rfl, ru, ru'⟩ := vals2 r1
  obtain rfl : u = Value.ref a := ru
  obtain rfl : u' = Value.ref b := ru'
  obtain ⟨its, rv, tp, _⟩ := I1.list qx
  obtain ⟨its2, rv2, tp2, _⟩ := I1.tuple qy
  have bl : b < s1.heap.objs.size := by obtain ⟨o, eo, _⟩ := id tp2; exact Heap.lt_size eo
  refine zip_begins2 (begins_list a its.toArray) (begins_tuple b its2.toArray) tp.isList (show s1.heap.IsTuple b its2.toArray from tp2) fun h' ez eI eO j1 j2 _ kp => wpAny_pyIter_zip ez ?_
  have I2 : Inv X pins σ H1 { s1 with heap := h' } := I1.kept (t' := s1.toks) kp
  refine ⟨s1.heap.objs.size + 4, [s1.heap.objs.size + 4, s1.heap.objs.size + 2, s1.heap.objs.size + 3, s1.heap.objs.size, s1.heap.objs.size + 1], _, _, H1, rfl, I2,
    turn_zipN (zip_sep2 (N := s1.heap.objs.size) (fp1 := [a]) (fp2 := [b]) (fun c y => by rw [List.mem_singleton.mp y]; exact tp.lt) (fun c y => by rw [List.mem_singleton.mp y]; exact bl)) (Nat.ne_of_lt (Nat.lt_succ_self _)), ⟨ez, eI, ⟨_, _, eO⟩, ⟨_, j1, rfl, rfl⟩, ⟨_, j2, rfl, rfl⟩⟩, fun c hcm => ?_, q⟩
  have le : s1.heap.objs.size ≤ c := by
    rcases in5 hcm with rfl | rfl | rfl | rfl | rfl
    · exact Nat.le_add_right _ _
    · exact Nat.le_add_right _ _
    · exact Nat.le_add_right _ _
    · exact Nat.le_refl _
    · exact Nat.le_add_right _ _
  exact I1.fpOk le (I1.hok.fresh le)
theorem walk_zipN {K : PySem.W.Frag} {a b : Addr} {xs ys : List V} {n : Nat} (hn : n = min xs.length ys.length) : Walk (ItzN K a b) n (fun H => SqL K H a xs ∧ SqT K H b ys) (YPair (fun i => xs[i]?) (fun i => ys[i]?)) :=
  ⟨fun _ _ lt q => ⟨xs, ys, q.1, q.2, by omega, by omega⟩, fun _ q => ⟨xs, ys, q.1, q.2, hn⟩, fun i _ _ _ _ q y => by
    obtain ⟨T, x, u, e1, e2, e3, e4, e5⟩ := y
    exact ⟨T, x, u, e1, e2, e3, e4 xs q.1, e5 ys q.2⟩⟩
end Ft

set_option exponentiation.threshold 9000
namespace Ft
open PySem L2 RZ
/-! ### lists of bounded integers, and of tuples and lists of such, as comprehensions fill them -/
def IlB (C : Addr) (n b : Nat) (H : Hp) : Prop := ∃ ys : List Int, H C = some (.lst (ys.map V.int)) ∧ ys.length = n ∧ ∀ y ∈ ys, y.natAbs ≤ b
theorem IlB.nil {C : Addr} {b : Nat} {H : Hp} : IlB C 0 b (upd H C (.lst [])) := ⟨[], upd_same, rfl, fun _ h => absurd h (by simp)⟩
theorem il_step {Hb H4 : Hp} {C : Addr} {n b : Nat} {z : Int} (hC : Hb C = none) (s : Same Hb H4) (h : IlB C n b H4) (hn : n ≤ 400) (hz : z.natAbs ≤ b) : ∃ acc, H4 C = some (.lst acc) ∧ acc.length < sizeLine ∧ Same Hb (upd H4 C (.lst (acc ++ [V.int z]))) ∧ IlB C (n + 1) b (upd H4 C (.lst (acc ++ [V.int z]))) := by
  obtain ⟨ys, h1, h2, h3⟩ := h
  refine ⟨_, h1, ?_, fun b o e => ?_, ys ++ [z], ?_, ?_, fun y hy => ?_⟩
  · rw [List.length_map, h2]
    exact Nat.lt_of_le_of_lt hn (by decide)
  · rw [upd_ne (ne_of_none e hC)]
    exact s _ _ e
  · rw [upd_same, List.map_append]; rfl
  · rw [List.length_append, h2]; rfl
  · rcases List.mem_append.mp hy with h | h
    · exact h3 y h
    · rw [List.mem_singleton.mp h]; exact hz
theorem IlB.same {C : Addr} {n b : Nat} {H H' : Hp} (h : IlB C n b H) (k : Same H H') : IlB C n b H' := by
  obtain ⟨ys, h1, h⟩ := h
  exact ⟨ys, k _ _ h1, h⟩
/-- a list of n tuples of m integers each, none greater than b -/
def TlB (C : Addr) (n m b : Nat) (H : Hp) : Prop := ∃ vs : List V, H C = some (.lst vs) ∧ vs.length = n ∧ ∀ v ∈ vs, TpB C m b H v
theorem TlB.nil {C : Addr} {m b : Nat} {H : Hp} : TlB C 0 m b (upd H C (.lst [])) := ⟨[], upd_same, rfl, fun _ h => absurd h (by simp)⟩
theorem TlB.same {C : Addr} {n m b : Nat} {H H' : Hp} (h : TlB C n m b H) (k : Same H H') : TlB C n m b H' := by
  obtain ⟨vs, h1, h2, h3⟩ := h
  exact ⟨vs, k _ _ h1, h2, fun v hv => (h3 v hv).same k⟩
theorem tl_step {Hb H4 : Hp} {C p : Addr} {n m b : Nat} {r : List Int} (hC : Hb C = none) (s : Same Hb H4) (h : TlB C n m b H4) (hn : n ≤ 400) (hp : H4 p = some (.tup (r.map V.int))) (hr : r.length = m) (hz : ∀ z ∈ r, z.natAbs ≤ b) : ∃ acc, H4 C = some (.lst acc) ∧ acc.length < sizeLine ∧ Same Hb (upd H4 C (.lst (acc ++ [V.ref p]))) ∧ TlB C (n + 1) m b (upd H4 C (.lst (acc ++ [V.ref p]))) := by
  obtain ⟨ys, h1, h2, h3⟩ := h
  have np : p ≠ C := L2.ne_of hp h1 (by intro z; cases z)
  refine ⟨_, h1, ?_, fun b o e => ?_, ys ++ [.ref p], upd_same, ?_, fun y hy => ?_⟩
  · rw [h2]
    exact Nat.lt_of_le_of_lt hn (by decide)
  · rw [upd_ne (ne_of_none e hC)]
    exact s _ _ e
  · rw [List.length_append, h2]; rfl
  · rcases List.mem_append.mp hy with h | h
    · exact (h3 y h).put
    · rw [List.mem_singleton.mp h]
      exact ⟨p, r, rfl, (by rw [upd_ne np]; exact hp), np, hr, hz⟩
theorem TlB.tab {C p : Addr} {m b : Nat} {H : Hp} (h : TlB C m m b H) : ∃ vs rows, H C = some (.lst vs) ∧ Tts H vs rows ∧ TbB m b rows := by
  obtain ⟨vs, h1, h2, h3⟩ := h
  obtain ⟨rows, t, k⟩ := tts_of h3
  exact ⟨vs, rows, h1, t, by rw [← t.len, h2], fun r hr => (k r hr).1, fun r hr => (k r hr).2⟩
/-- a list of m integers, none greater than b, that is not C -/
def LpB (C : Addr) (m b : Nat) (H : Hp) (v : V) : Prop := ∃ (c : Addr) (r : List Int), v = .ref c ∧ H c = some (.lst (r.map V.int)) ∧ c ≠ C ∧ r.length = m ∧ ∀ x ∈ r, x.natAbs ≤ b
def LlB (C : Addr) (n m b : Nat) (H : Hp) : Prop := ∃ vs : List V, H C = some (.lst vs) ∧ vs.length = n ∧ ∀ v ∈ vs, LpB C m b H v
theorem LpB.same {C : Addr} {m b : Nat} {H H' : Hp} {v : V} (h : LpB C m b H v) (k : Same H H') : LpB C m b H' v := by
  obtain ⟨c, r, e, h1, h⟩ := h
  exact ⟨c, r, e, k _ _ h1, h⟩
theorem LpB.put {C : Addr} {m b : Nat} {H : Hp} {v : V} {o : HO} (h : LpB C m b H v) : LpB C m b (upd H C o) v := by
  obtain ⟨c, r, e, h1, h4, h⟩ := h
  exact ⟨c, r, e, by rw [upd_ne h4]; exact h1, h4, h⟩
theorem LlB.nil {C : Addr} {m b : Nat} {H : Hp} : LlB C 0 m b (upd H C (.lst [])) := ⟨[], upd_same, rfl, fun _ h => absurd h (by simp)⟩
theorem LlB.same {C : Addr} {n m b : Nat} {H H' : Hp} (h : LlB C n m b H) (k : Same H H') : LlB C n m b H' := by
  obtain ⟨vs, h1, h2, h3⟩ := h
  exact ⟨vs, k _ _ h1, h2, fun v hv => (h3 v hv).same k⟩
/-- H0: the heap before the inner list p was made, where C already stands -/
theorem ll_step {Hb H0 H4 : Hp} {C p : Addr} {n m b : Nat} (hC : Hb C = none) (k : Same Hb H0) (h : LlB C n m b H0) (s : Same H0 H4) (hn : n ≤ 400) (np : H0 p = none) (hp : IlB p m b H4) : ∃ acc, H4 C = some (.lst acc) ∧ acc.length < sizeLine ∧ Same Hb (upd H4 C (.lst (acc ++ [V.ref p]))) ∧ LlB C (n + 1) m b (upd H4 C (.lst (acc ++ [V.ref p]))) := by
  obtain ⟨ys, h1, h2, h3⟩ := h
  obtain ⟨r, g1, g2, g3⟩ := hp
  have nC : p ≠ C := (ne_of_none h1 np).symm
  refine ⟨_, s _ _ h1, ?_, fun b o e => ?_, ys ++ [.ref p], upd_same, ?_, fun y hy => ?_⟩
  · rw [h2]
    exact Nat.lt_of_le_of_lt hn (by decide)
  · rw [upd_ne (ne_of_none e hC)]
    exact s _ _ (k _ _ e)
  · rw [List.length_append, h2]; rfl
  · rcases List.mem_append.mp hy with h | h
    · exact ((h3 y h).same s).put
    · rw [List.mem_singleton.mp h]
      exact ⟨p, r, rfl, (by rw [upd_ne nC]; exact g1), nC, g2, g3⟩
theorem sum_abs {b : Nat} : ∀ {ys : List Int}, (∀ y ∈ ys, y.natAbs ≤ b) → ys.sum.natAbs ≤ ys.length * b
  | [], _ => by simp
  | y :: ys, h => by
    have h1 := sum_abs fun z hz => h z (List.mem_cons_of_mem _ hz)
    have h2 := h y List.mem_cons_self
    rw [List.sum_cons, List.length_cons, Nat.add_mul]
    omega
end Ft

set_option exponentiation.threshold 9000
set_option maxHeartbeats 4000000
namespace Ft
open PySem L2 RZ
def sp_changed : Sp := fun vs H Q _ => ∃ (t u : Addr) (r1 r2 : List (List Int)) (m c e : Nat), vs = [.ref t, .ref u] ∧ TabT H t r1 ∧ TabT H u r2 ∧ TbB m c r1 ∧ TbB m e r2 ∧ 1 ≤ m ∧ m ≤ 8 ∧ c ≤ 2 ^ 1000 ∧ e ≤ 2 ^ 1000 ∧ ∀ H' t' rows, Same H H' → TabT H' t' rows → TbB m (m * (m * (c * e) * e)) rows → Q (.ref t') H'
section
variable {P : Program} {w : World} {K : PySem.W.Frag} {mg : Str → Option Value} {base : Heap}
theorem ok_changed (D : Df K mg "_law_changed" s__law_changed ["_law_form", "_law_table"]) (B : Bi mg) : Cal P w K mg base 1 "_law_changed" sp_changed := by
  obtain ⟨f, fd, F, m, b⟩ := D.ex
  have sc := sc__law_changed
  refine ⟨f, fd, _, F.ok sc (fun _ _ _ _ ⟨_, _, _, _, _, _, _, e, _⟩ => by rw [e]; rfl) (fun cdv A outer s H vs Q E hr h => ?_), m, F.kp, b⟩
  obtain ⟨t, u, r1, r2, m, c, e, rfl, h1, h2, B1, B2, m1, m8, c9, e9, q⟩ := h
  obtain ⟨w1, ht, tw1⟩ := id h1
  obtain ⟨w2, hu, tw2⟩ := id h2
  have l1 : w1.length = m := by rw [tw1.len, B1.lm]
  have l2 : w2.length = m := by rw [tw2.len, B2.lm]
  refine ⟨_, (pss_cons (ps_set (i := 2) sc.nd rfl (Or.inl rfl) (pe_callB call_len_seq (by rfl) B.len_ (by decide +kernel) (pa_cons (pv 0) pa_nil)))
      (pss_cons (ps_setLc (i := 5) (own := [("_law_j", 4)]) (g := gName 4) (tt := tYes) (by rfl) sc.nd rfl rfl (sw_true rfl rfl rfl (by decide +kernel)) (pi_range1 rfl B.range (pa_cons (pv 2) pa_nil)) (blkOk_by (own := [("_law_j", 4)]) (N := N__law_changed) (sc := defScope s__law_changed) (by decide +kernel)) (fun _ _ _ _ _ => (pg_name (i := 4) sc.nd rfl (Or.inr rfl))) (fun _ _ _ _ _ => pts_nil) (fun _ _ _ _ _ => (pe_callTy (T := "tuple") (r := rTupQ K) call_tuple_of (by rfl) B.tuple (by decide +kernel) (pa_cons (pe_lc (own := [("_law_row", 3)]) (g := gName 3) (tt := tYes) (by rfl) sc.nd (show PI _ _ _ (iTup K (tVar 1)) from pi_tup (pv 1)) (blkOk_by (own := [("_law_row", 3)]) (N := N__law_changed) (sc := { kind := ScopeKind.function, names := [(".0", NameKind.local), ("_law_j", NameKind.cell), ("tuple", NameKind.globalImplicit), ("_law_table", NameKind.cell)], isGenerator := false, isCoroutine := false }) (by decide +kernel)) (fun _ _ _ _ _ => (pg_name (i := 3) sc.nd rfl (Or.inl rfl))) (fun _ _ _ _ _ => pts_nil) (fun _ _ _ _ _ => (pe_ix (show IxR _ (rIx K) from ix_seq) (pv 3) (pv 4) (fun _ _ => rfl)))) pa_nil))))
      (pss_cons (ps_set (i := 9) sc.nd rfl (Or.inr rfl) (pe_lc (own := [("_law_column", 8)]) (g := gName 8) (tt := tYes) (by rfl) sc.nd (pi_list (pv 5)) (blkOk_by (own := [("_law_column", 8)]) (N := N__law_changed) (sc := defScope s__law_changed) (by decide +kernel)) (fun _ _ _ _ _ => (pg_name (i := 8) sc.nd rfl (Or.inr rfl))) (fun _ _ _ _ _ => pts_nil) (fun _ _ _ _ _ => (pe_lc (own := [("_law_row", 3)]) (g := gName 3) (tt := tYes) (by rfl) sc.nd (show PI _ _ _ (iTup K (tVar 0)) from pi_tup (pv 0)) (blkOk_by (own := [("_law_row", 3)]) (N := N__law_changed) (sc := { kind := ScopeKind.function, names := [(".0", NameKind.local), ("_law_column", NameKind.cell), ("_law_form", NameKind.cell)], isGenerator := false, isCoroutine := false }) (by decide +kernel)) (fun _ _ _ _ _ => (pg_name (i := 3) sc.nd rfl (Or.inl rfl))) (fun _ _ _ _ _ => pts_nil) (fun _ _ _ _ _ => (pe_callB (id := "sum") (r := rSum K) (cr_sum rfl) (by rfl) B.sum (by decide +kernel) (pa_cons (pe_lc (own := [("_law_entry", 6), ("_law_x", 7)]) (g := gTup K 2 (gCons (gName 6) (gCons (gName 7) gNil))) (tt := tYes) (by rfl) sc.nd (show PI _ _ _ (iZipA K (tCons (tVar 3) (tCons (tVar 8) tNil))) from pi_zipA (by rfl) B.zip (pa_cons (pv 3) (pa_cons (pv 8) pa_nil))) (blkOk_by (own := [("_law_entry", 6), ("_law_x", 7)]) (N := N__law_changed) (sc := { kind := ScopeKind.function, names := [(".0", NameKind.local), ("_law_row", NameKind.local), ("sum", NameKind.globalImplicit), ("zip", NameKind.globalImplicit), ("_law_column", NameKind.cell)], isGenerator := false, isCoroutine := false }) (by decide +kernel)) (fun _ _ _ _ _ => (pg_tup rfl (pgs_cons (pg_name (i := 6) sc.nd rfl (Or.inl rfl) (Or.inr rfl)) (pgs_cons (pg_name (i := 7) sc.nd rfl (Or.inl rfl) (Or.inr rfl)) pgs_nil)))) (fun _ _ _ _ _ => pts_nil) (fun _ _ _ _ _ => (pe_op op_mulW (pv 6) (pv 7)))) pa_nil)))))))
      (pss_one (ps_ret (pe_callTy call_tuple_of (by rfl) B.tuple (by decide +kernel) (pa_cons (pe_lc (own := [("_law_column", 8)]) (g := gName 8) (tt := tYes) (by rfl) sc.nd (pi_list (pv 5)) (blkOk_by (own := [("_law_column", 8)]) (N := N__law_changed) (sc := defScope s__law_changed) (by decide +kernel)) (fun _ _ _ _ _ => (pg_name (i := 8) sc.nd rfl (Or.inr rfl))) (fun _ _ _ _ _ => pts_nil) (fun _ _ _ _ _ => (pe_callTy (T := "tuple") (r := rTupQ K) call_tuple_of (by rfl) B.tuple (by decide +kernel) (pa_cons (pe_lc (own := [("_law_image", 11)]) (g := gName 11) (tt := tYes) (by rfl) sc.nd (show PI _ _ _ (iList K (tVar 9)) from pi_list (pv 9)) (blkOk_by (own := [("_law_image", 11)]) (N := N__law_changed) (sc := { kind := ScopeKind.function, names := [(".0", NameKind.local), ("_law_column", NameKind.cell), ("tuple", NameKind.globalImplicit), ("_law_images", NameKind.cell)], isGenerator := false, isCoroutine := false }) (by decide +kernel)) (fun _ _ _ _ _ => (pg_name (i := 11) sc.nd rfl (Or.inl rfl))) (fun _ _ _ _ _ => pts_nil) (fun _ _ _ _ _ => (pe_callB (id := "sum") (r := rSum K) (cr_sum rfl) (by rfl) B.sum (by decide +kernel) (pa_cons (pe_lc (own := [("_law_x", 7), ("_law_y", 10)]) (g := gTup K 2 (gCons (gName 7) (gCons (gName 10) gNil))) (tt := tYes) (by rfl) sc.nd (show PI _ _ _ (iZipN K (tCons (tVar 11) (tCons (tVar 8) tNil))) from pi_zipN (by rfl) B.zip (pa_cons (pv 11) (pa_cons (pv 8) pa_nil))) (blkOk_by (own := [("_law_x", 7), ("_law_y", 10)]) (N := N__law_changed) (sc := { kind := ScopeKind.function, names := [(".0", NameKind.local), ("_law_image", NameKind.local), ("sum", NameKind.globalImplicit), ("zip", NameKind.globalImplicit), ("_law_column", NameKind.cell)], isGenerator := false, isCoroutine := false }) (by decide +kernel)) (fun _ _ _ _ _ => (pg_tup rfl (pgs_cons (pg_name (i := 7) sc.nd rfl (Or.inl rfl) (Or.inr rfl)) (pgs_cons (pg_name (i := 10) sc.nd rfl (Or.inl rfl) (Or.inr rfl)) pgs_nil)))) (fun _ _ _ _ _ => pts_nil) (fun _ _ _ _ _ => (pe_op op_mulW (pv 7) (pv 10)))) pa_nil)))) pa_nil)))) pa_nil))))))), ?_⟩
  have ce : ∀ {x y : Int}, x.natAbs ≤ c → y.natAbs ≤ e → (x * y).natAbs ≤ c * e := fun hx hy => by rw [Int.natAbs_mul]; exact Nat.mul_le_mul hx hy
  have cb : c < 2 ^ 8000 := Nat.lt_of_le_of_lt c9 (Nat.pow_lt_pow_right (by decide) (by decide))
  have eb : e < 2 ^ 8000 := Nat.lt_of_le_of_lt e9 (Nat.pow_lt_pow_right (by decide) (by decide))
  have db : m * (c * e) < 2 ^ 8000 := Nat.lt_of_le_of_lt (Nat.mul_le_mul m8 (Nat.mul_le_mul c9 e9)) (by decide)
  refine ⟨_, rfl, t, _, rfl, .inr (SqT.of ht), ?_⟩
  rw [show ((w1.length : Nat) : Int) = (m : Int) by omega]
  dsimp only [gName]
  refine ⟨_, rfl, m, rfl, by omega, by omega, fun C hC => ?_⟩
  refine lc_it (walk_range (lo := 0) (n := Int.toNat (m : Int))) (fun i H' => Same H H' ∧ TlB C i m e H') ⟨Same.upd_new hC, .nil⟩ (fun _ _ _ _ => trivial) ?_ ?_
  · rintro j x Ha Hb hj ⟨ka, ta⟩ y0
    obtain ⟨rfl, rfl⟩ := y0
    dsimp only [gName]
    have jm : j < m := by omega
    refine ⟨rfl, _, rfl, u, rfl, ⟨_, SqT.of (ka _ _ hu)⟩, fun C2 hC2 => ?_⟩
    refine lc_it (walk_tup (K := K) (a := u) (xs := w2)) (fun i H' => Same Hb H' ∧ IlB C2 i e H') ⟨Same.upd_new hC2, .nil⟩ (fun i H' _ ⟨z, _⟩ => SqT.of (z _ _ (ka _ _ hu))) ?_ ?_
    · rintro i x Hc Hd hi ⟨kc, ic⟩ ⟨rfl, hx0⟩
      obtain ⟨c1, r, rfl, hr1, hc1⟩ := tw2.get hx0
      have lr := B2.lr r (List.mem_of_getElem? hr1)
      dsimp only [gName]
      refine ⟨rfl, _, rfl, _, rfl, ?_⟩
      rw [Int.zero_add]
      refine ent_of (kc _ _ (ka _ _ hc1)) (by omega) ?_
      exact il_step hC2 kc ic (by omega) (B2.bd r (List.mem_of_getElem? hr1) _ (getD_memI (by omega)))
    rintro Hc ⟨kc, ic⟩
    rw [l2] at ic
    obtain ⟨ys, g1, g2, g3⟩ := id ic
    refine ⟨C2, _, rfl, .inl ⟨SqL.of g1, fun p hp => ?_⟩⟩
    have kp := Same.upd_new (o := .tup (ys.map V.int)) hp
    exact tl_step hC ((ka.trans kc).trans kp) ((ta.same kc).same kp) (by omega) upd_same g2 g3
  rintro H1 ⟨k1, tl1⟩
  rw [Int.toNat_natCast] at tl1
  obtain ⟨vs, q1, q2, q3⟩ := id tl1
  dsimp only [gName]
  refine ⟨_, rfl, C, rfl, ⟨_, SqL.of q1⟩, fun D hD => ?_⟩
  refine lc_it (walk_list (K := K) (a := C) (xs := vs)) (fun i H' => Same H1 H' ∧ LlB D i m (m * (c * e)) H') ⟨Same.upd_new hD, .nil⟩ (fun i H' _ ⟨z, _⟩ => SqL.of (z _ _ q1)) ?_ ?_
  · rintro i x Ha Hb hi ⟨ka, la⟩ ⟨rfl, hx0⟩
    have il := (List.getElem?_eq_some_iff.mp hx0).1
    obtain ⟨cc, col, rfl, hcc, _, lcol, bcol⟩ := q3 x (List.mem_of_getElem? hx0)
    have ht1 := ka _ _ (k1 _ _ ht)
    dsimp only [gName]
    refine ⟨rfl, _, rfl, t, rfl, ⟨_, SqT.of ht1⟩, fun C2 hC2 => ?_⟩
    refine lc_it (walk_tup (K := K) (a := t) (xs := w1)) (fun j H' => Same Hb H' ∧ IlB C2 j (m * (c * e)) H') ⟨Same.upd_new hC2, .nil⟩ (fun i H' _ ⟨z, _⟩ => SqT.of (z _ _ ht1)) ?_ ?_
    · rintro j x Hc Hd hj ⟨kc, ic⟩ ⟨rfl, hx1⟩
      obtain ⟨c1, r, rfl, hr1, hc1⟩ := tw1.get hx1
      have lr := B1.lr r (List.mem_of_getElem? hr1)
      dsimp only [gName]
      have a1 := kc _ _ (ka _ _ (k1 _ _ hc1))
      have a2 := kc _ _ (ka _ _ hcc)
      refine ⟨rfl, _, rfl, _, rfl, c1, cc, _, _, rfl, .inr ⟨SqT.of a1, SqT.of a2, fun C3 hC3 => ?_⟩⟩
      refine lc_it (walk_zipT (K := K) (a := c1) (b := cc) (xs := r.map V.int) (ys := col.map V.int) (n := m) (by rw [List.length_map, List.length_map, lr, lcol, Nat.min_self])) (fun k H' => Same Hd H' ∧ IlB C3 k (c * e) H') ⟨Same.upd_new hC3, .nil⟩ (fun j H' _ ⟨z, _⟩ => ⟨SqT.of (z _ _ a1), SqT.of (z _ _ a2)⟩) ?_ ?_
      · rintro k x1 He Hf hk ⟨ke, ie⟩ ⟨T2, x, y, rfl, hT2, rfl, hx2, hy2⟩
        obtain rfl : x = V.int (r.getD k 0) := Option.some.inj (hx2.symm.trans (getD_at (by omega)))
        obtain rfl : y = V.int (col.getD k 0) := Option.some.inj (hy2.symm.trans (getD_at (by omega)))
        have b1 := B1.bd r (List.mem_of_getElem? hr1) _ (getD_memI (i := k) (by omega))
        have b2 := bcol (col.getD k 0) (getD_memI (by omega))
        have k7 : Same He (upd He T2 (.tup [V.int (r.getD k 0), V.int (col.getD k 0)])) := Same.upd_new hT2
        refine ⟨T2, _, rfl, SqT.of upd_same, rfl, ?_⟩
        refine ⟨_, _, rfl, _, _, rfl, rfl, rfl, ?_⟩
        refine ⟨_, rfl, _, rfl, _, _, rfl, rfl, mul8 (Nat.lt_of_le_of_lt b1 cb) (Nat.lt_of_le_of_lt b2 eb), ?_⟩
        exact il_step hC3 (ke.trans k7) (ie.same k7) (by omega) (ce b1 b2)
      rintro He ⟨ke, ie⟩
      obtain ⟨ys, g1, g2, g3⟩ := id ie
      refine ⟨C3, _, rfl, SqL.of g1, ?_⟩
      have := sum_abs g3
      rw [g2] at this
      exact il_step hC2 (kc.trans ke) (ic.same ke) (by omega) this
    rintro Hc ⟨kc, ic⟩
    rw [l1] at ic
    exact ll_step hD ka la kc (by omega) hC2 ic
  rintro H2 ⟨k2, ll2⟩
  rw [q2] at ll2
  obtain ⟨us, p1, p2, p3⟩ := id ll2
  have tl2 := tl1.same k2
  have q1' := k2 _ _ q1
  dsimp only [gName]
  refine ⟨_, rfl, C, rfl, ⟨_, SqL.of q1'⟩, fun D2 hD2 => ?_⟩
  refine lc_it (walk_list (K := K) (a := C) (xs := vs)) (fun i H' => Same H2 H' ∧ TlB D2 i m (m * (m * (c * e) * e)) H') ⟨Same.upd_new hD2, .nil⟩ (fun i H' _ ⟨z, _⟩ => SqL.of (z _ _ q1')) ?_ ?_
  · rintro i x Ha Hb hi ⟨ka, la⟩ ⟨rfl, hx0⟩
    have il := (List.getElem?_eq_some_iff.mp hx0).1
    obtain ⟨cc, col, rfl, hcc, _, lcol, bcol⟩ := q3 x (List.mem_of_getElem? hx0)
    dsimp only [gName]
    have hD1 := ka _ _ p1
    refine ⟨rfl, _, rfl, D, rfl, ⟨_, SqL.of hD1⟩, fun C2 hC2 => ?_⟩
    refine lc_it (walk_list (K := K) (a := D) (xs := us)) (fun j H' => Same Hb H' ∧ IlB C2 j (m * (m * (c * e) * e)) H') ⟨Same.upd_new hC2, .nil⟩ (fun i H' _ ⟨z, _⟩ => SqL.of (z _ _ hD1)) ?_ ?_
    · rintro j x Hc Hd hj ⟨kc, ic⟩ ⟨rfl, hx1⟩
      obtain ⟨c1, r, rfl, hc1, _, lr, br⟩ := p3 x (List.mem_of_getElem? hx1)
      dsimp only [gName]
      have a1 := kc _ _ (ka _ _ hc1)
      have a2 := kc _ _ (ka _ _ (k2 _ _ hcc))
      refine ⟨rfl, _, rfl, _, rfl, c1, cc, _, _, rfl, SqL.of a1, SqT.of a2, fun C3 hC3 => ?_⟩
      refine lc_it (walk_zipN (K := K) (a := c1) (b := cc) (xs := r.map V.int) (ys := col.map V.int) (n := m) (by rw [List.length_map, List.length_map, lr, lcol, Nat.min_self])) (fun k H' => Same Hd H' ∧ IlB C3 k (m * (c * e) * e) H') ⟨Same.upd_new hC3, .nil⟩ (fun j H' _ ⟨z, _⟩ => ⟨SqL.of (z _ _ a1), SqT.of (z _ _ a2)⟩) ?_ ?_
      · rintro k x1 He Hf hk ⟨ke, ie⟩ ⟨T2, x, y, rfl, hT2, rfl, hx2, hy2⟩
        obtain rfl : x = V.int (r.getD k 0) := Option.some.inj (hx2.symm.trans (getD_at (by omega)))
        obtain rfl : y = V.int (col.getD k 0) := Option.some.inj (hy2.symm.trans (getD_at (by omega)))
        have b1 := br (r.getD k 0) (getD_memI (by omega))
        have b2 := bcol (col.getD k 0) (getD_memI (by omega))
        have k7 : Same He (upd He T2 (.tup [V.int (r.getD k 0), V.int (col.getD k 0)])) := Same.upd_new hT2
        refine ⟨T2, _, rfl, SqT.of upd_same, rfl, ?_⟩
        refine ⟨_, _, rfl, _, _, rfl, rfl, rfl, ?_⟩
        refine ⟨_, rfl, _, rfl, _, _, rfl, rfl, mul8 (Nat.lt_of_le_of_lt b1 db) (Nat.lt_of_le_of_lt b2 eb), ?_⟩
        exact il_step hC3 (ke.trans k7) (ie.same k7) (by omega) (by rw [Int.natAbs_mul]; exact Nat.mul_le_mul b1 b2)
      rintro He ⟨ke, ie⟩
      obtain ⟨ys, g1, g2, g3⟩ := id ie
      refine ⟨C3, _, rfl, SqL.of g1, ?_⟩
      have := sum_abs g3
      rw [g2] at this
      have jl := (List.getElem?_eq_some_iff.mp hx1).1
      exact il_step hC2 (kc.trans ke) (ic.same ke) (by omega) this
    rintro Hc ⟨kc, ic⟩
    rw [p2] at ic
    obtain ⟨ys, g1, g2, g3⟩ := id ic
    refine ⟨C2, _, rfl, .inl ⟨SqL.of g1, fun p hp => ?_⟩⟩
    have kp := Same.upd_new (o := .tup (ys.map V.int)) hp
    exact tl_step hD2 ((ka.trans kc).trans kp) ((la.same kc).same kp) (by omega) upd_same g2 g3
  rintro H3 ⟨k3, tl3⟩
  rw [q2] at tl3
  obtain ⟨ws, rows, g1, g2, g3⟩ := tl3.tab (p := D2)
  refine ⟨D2, _, rfl, .inl ⟨SqL.of g1, fun p hp => ?_⟩⟩
  have kp := Same.upd_new (o := .tup ws) hp
  exact q _ p rows (((k1.trans k2).trans k3).trans kp) ⟨_, upd_same, g2.same kp⟩ g3
end
end Ft

set_option exponentiation.threshold 9000
set_option maxHeartbeats 4000000
namespace Ft
open PySem L2 RZ
theorem TabT.putL {H : Hp} {C t : Addr} {xs : List V} {o : HO} {rows : List (List Int)} (h : TabT H t rows) (hC : H C = some (.lst xs)) : TabT (upd H C o) t rows := by
  obtain ⟨ws, a, b⟩ := h
  exact ⟨ws, by rw [upd_ne (L2.ne_of a hC (by intro z; cases z))]; exact a, b.put hC⟩
def TabV (m b : Nat) (H : Hp) (v : V) : Prop := ∃ t rows, v = .ref t ∧ TabT H t rows ∧ TbB m b rows
def namedM : List Nat := [4, 4, 6, 6, 6, 8, 8]
def PairAt (H : Hp) (m : Nat) (v : V) : Prop := ∃ (c : Addr) (s : Str), v = .ref c ∧ H c = some (.tup [.int m, .str s]) ∧ s.length + 2 ≤ sizeLine
theorem PairAt.same {H H' : Hp} {m : Nat} {v : V} (h : PairAt H m v) (k : Same H H') : PairAt H' m v := by
  obtain ⟨c, s, e, h1, h2⟩ := h
  exact ⟨c, s, e, k _ _ h1, h2⟩
def NamedAt (H : Hp) (C : Addr) : Prop := ∃ vs, H C = some (.lst vs) ∧ vs.length = 7 ∧ ∀ (i : Nat) (v : V) (m : Nat), vs[i]? = some v → namedM[i]? = some m → TabV m 3 H v
def sp_named : Sp := fun vs H Q _ => vs = [] ∧ ∀ H' C, Same H H' → H C = none → NamedAt H' C → Q (.ref C) H'
section
variable {P : Program} {w : World} {K : PySem.W.Frag} {mg : Str → Option Value} {base : Heap}
theorem ok_named (D : Df K mg "_law_named_forms" s__law_named_forms []) (B : Bi mg) : Cal P w K mg base 1 "_law_named_forms" sp_named := by
  obtain ⟨f, fd, F, m, b⟩ := D.ex
  have sc := sc__law_named_forms
  refine ⟨f, fd, _, F.ok sc (fun _ _ _ _ ⟨e, _⟩ => by rw [e]; rfl) (fun cdv A outer s H vs Q E hr h => ?_), m, F.kp, b⟩
  obtain ⟨rfl, q⟩ := h
  refine ⟨_, (pss_cons (ps_set (i := 0) sc.nd rfl (Or.inl rfl) (pe_lst pa_nil))
      (pss_cons (ps_for PassesOwn.never rfl (pi_tup (pe_tup (pa_cons (pe_tup (pa_cons pe_int (pa_cons pe_str pa_nil))) (pa_cons (pe_tup (pa_cons pe_int (pa_cons pe_str pa_nil))) (pa_cons (pe_tup (pa_cons pe_int (pa_cons pe_str pa_nil))) (pa_cons (pe_tup (pa_cons pe_int (pa_cons pe_str pa_nil))) (pa_cons (pe_tup (pa_cons pe_int (pa_cons pe_str pa_nil))) (pa_cons (pe_tup (pa_cons pe_int (pa_cons pe_str pa_nil))) (pa_cons (pe_tup (pa_cons pe_int (pa_cons pe_str pa_nil))) pa_nil))))))))) (pg_tup rfl (pgs_cons (pg_name (i := 1) sc.nd rfl (Or.inr rfl)) (pgs_cons (pg_name (i := 2) sc.nd rfl (Or.inl rfl)) pgs_nil)))
      (pss_cons (ps_set (i := 3) sc.nd rfl (Or.inr rfl) (pe_words (pv 2)))
        (pss_one (ps_expr (pe_bm PySem.F.plainAttrs_list PySem.F.slot_list_append PySem.F.type_list_append mt_append (pv 0) (pa_cons (pe_callTy call_tuple_of (by rfl) B.tuple (by decide +kernel) (pa_cons (pe_lc (own := [("_law_i", 5)]) (g := gName 5) (tt := tYes) (by rfl) sc.nd (pi_range1 rfl B.range (pa_cons (pv 1) pa_nil)) (blkOk_by (own := [("_law_i", 5)]) (N := N__law_named_forms) (sc := defScope s__law_named_forms) (by decide +kernel)) (fun _ _ _ _ _ => (pg_name (i := 5) sc.nd rfl (Or.inr rfl))) (fun _ _ _ _ _ => pts_nil) (fun _ _ _ _ _ => (pe_callTy (T := "tuple") (r := rTupQ K) call_tuple_of (by rfl) B.tuple (by decide +kernel) (pa_cons (pe_lc (own := [("_law_j", 4)]) (g := gName 4) (tt := tYes) (by rfl) sc.nd (pi_range1 rfl B.range (pa_cons (pv 1) pa_nil)) (blkOk_by (own := [("_law_j", 4)]) (N := N__law_named_forms) (sc := { kind := ScopeKind.function, names := [(".0", NameKind.local), ("_law_i", NameKind.cell), ("tuple", NameKind.globalImplicit), ("range", NameKind.globalImplicit), ("_law_m", NameKind.cell), ("_law_words", NameKind.cell)], isGenerator := false, isCoroutine := false }) (by decide +kernel)) (fun _ _ _ _ _ => (pg_name (i := 4) sc.nd rfl (Or.inl rfl))) (fun _ _ _ _ _ => pts_nil) (fun _ _ _ _ _ => (pe_op op_sub (pe_op op_mulW pe_int (pe_callTy call_int1 (by rfl) B.int_ (by decide +kernel) (pa_cons (pe_cmpR op_eq (pv 5) (pv 4) (nomark _)) pa_nil))) (pe_callTy call_int1 (by rfl) B.int_ (by decide +kernel) (pa_cons (pe_cmpR (show OpR _ (compareOp .In) (rIn K false) from op_in_seq) (pe_op op_add_str (pe_callTy call_str_int (by rfl) B.str (by decide +kernel) (pa_cons (pe_callB (call_min2 rfl) (by rfl) B.min_ (by decide +kernel) (pa_cons (pv 5) (pa_cons (pv 4) pa_nil))) pa_nil)) (pe_callTy call_str_int (by rfl) B.str (by decide +kernel) (pa_cons (pe_callB (call_max2 rfl) (by rfl) B.max_ (by decide +kernel) (pa_cons (pv 5) (pa_cons (pv 4) pa_nil))) pa_nil))) (pv 3) (by rfl)) pa_nil))))) pa_nil)))) pa_nil)) pa_nil))))))
      (pss_one (ps_ret (pv 0))))), ?_⟩
  refine ⟨(by show (0 : Nat) ≤ sizeLine; decide), fun C hC => ?_⟩
  have kC : Same H (upd H C (.lst [])) := Same.upd_new hC
  have gC : (upd H C (.lst [])) C = some (.lst []) := upd_same
  generalize upd H C (.lst []) = H0 at kC gC
  dsimp only [gName]
  refine ⟨two_sz, fun p1 n1 => ?_⟩
  have k1 : Same H0 (upd H0 p1 (.tup [.int 4, .str (Str.ofString "01 12 23")])) := Same.upd_new n1
  have g1 : PairAt (upd H0 p1 (.tup [.int 4, .str (Str.ofString "01 12 23")])) 4 (.ref p1) := ⟨p1, _, rfl, upd_same, by decide⟩
  generalize upd H0 p1 (.tup [.int 4, .str (Str.ofString "01 12 23")]) = H1 at k1 g1
  refine ⟨two_sz, fun p2 n2 => ?_⟩
  have k2 : Same H1 (upd H1 p2 (.tup [.int 4, .str (Str.ofString "01 12 13")])) := Same.upd_new n2
  have g2 : PairAt (upd H1 p2 (.tup [.int 4, .str (Str.ofString "01 12 13")])) 4 (.ref p2) := ⟨p2, _, rfl, upd_same, by decide⟩
  generalize upd H1 p2 (.tup [.int 4, .str (Str.ofString "01 12 13")]) = H2 at k2 g2
  refine ⟨two_sz, fun p3 n3 => ?_⟩
  have k3 : Same H2 (upd H2 p3 (.tup [.int 6, .str (Str.ofString "01 12 23 34 45")])) := Same.upd_new n3
  have g3 : PairAt (upd H2 p3 (.tup [.int 6, .str (Str.ofString "01 12 23 34 45")])) 6 (.ref p3) := ⟨p3, _, rfl, upd_same, by decide⟩
  generalize upd H2 p3 (.tup [.int 6, .str (Str.ofString "01 12 23 34 45")]) = H3 at k3 g3
  refine ⟨two_sz, fun p4 n4 => ?_⟩
  have k4 : Same H3 (upd H3 p4 (.tup [.int 6, .str (Str.ofString "01 12 23 34 35")])) := Same.upd_new n4
  have g4 : PairAt (upd H3 p4 (.tup [.int 6, .str (Str.ofString "01 12 23 34 35")])) 6 (.ref p4) := ⟨p4, _, rfl, upd_same, by decide⟩
  generalize upd H3 p4 (.tup [.int 6, .str (Str.ofString "01 12 23 34 35")]) = H4 at k4 g4
  refine ⟨two_sz, fun p5 n5 => ?_⟩
  have k5 : Same H4 (upd H4 p5 (.tup [.int 6, .str (Str.ofString "01 12 23 34 25")])) := Same.upd_new n5
  have g5 : PairAt (upd H4 p5 (.tup [.int 6, .str (Str.ofString "01 12 23 34 25")])) 6 (.ref p5) := ⟨p5, _, rfl, upd_same, by decide⟩
  generalize upd H4 p5 (.tup [.int 6, .str (Str.ofString "01 12 23 34 25")]) = H5 at k5 g5
  refine ⟨two_sz, fun p6 n6 => ?_⟩
  have k6 : Same H5 (upd H5 p6 (.tup [.int 8, .str (Str.ofString "01 12 23 34 45 56 27")])) := Same.upd_new n6
  have g6 : PairAt (upd H5 p6 (.tup [.int 8, .str (Str.ofString "01 12 23 34 45 56 27")])) 8 (.ref p6) := ⟨p6, _, rfl, upd_same, by decide⟩
  generalize upd H5 p6 (.tup [.int 8, .str (Str.ofString "01 12 23 34 45 56 27")]) = H6 at k6 g6
  refine ⟨two_sz, fun p7 n7 => ?_⟩
  have k7 : Same H6 (upd H6 p7 (.tup [.int 8, .str (Str.ofString "01 12 23 34 45 56 57")])) := Same.upd_new n7
  have g7 : PairAt (upd H6 p7 (.tup [.int 8, .str (Str.ofString "01 12 23 34 45 56 57")])) 8 (.ref p7) := ⟨p7, _, rfl, upd_same, by decide⟩
  generalize upd H6 p7 (.tup [.int 8, .str (Str.ofString "01 12 23 34 45 56 57")]) = H7 at k7 g7
  have s7 : Same H0 H7 := k1.trans (k2.trans (k3.trans (k4.trans (k5.trans (k6.trans k7)))))
  have pr : ∀ (i : Nat) (v : V) (m : Nat), [V.ref p1, .ref p2, .ref p3, .ref p4, .ref p5, .ref p6, .ref p7][i]? = some v → namedM[i]? = some m → PairAt H7 m v := by
    have a6 := g6.same k7
    have a5 := (g5.same k6).same k7
    have a4 := ((g4.same k5).same k6).same k7
    have a3 := (((g3.same k4).same k5).same k6).same k7
    have a2 := ((((g2.same k3).same k4).same k5).same k6).same k7
    have a1 := (((((g1.same k2).same k3).same k4).same k5).same k6).same k7
    intro i v m hv hm
    rcases i with _ | _ | _ | _ | _ | _ | _ | i <;> first | (cases hv; cases hm; assumption) | (cases hv)
  clear g1 g2 g3 g4 g5 g6 g7 k1 k2 k3 k4 k5 k6 k7 n1 n2 n3 n4 n5 n6 n7
  refine ⟨(by show (7 : Nat) ≤ sizeLine; decide), fun p8 n8 => ?_⟩
  have k8 : Same H7 (upd H7 p8 (.tup [V.ref p1, .ref p2, .ref p3, .ref p4, .ref p5, .ref p6, .ref p7])) := Same.upd_new n8
  have g8 : (upd H7 p8 (.tup [V.ref p1, .ref p2, .ref p3, .ref p4, .ref p5, .ref p6, .ref p7])) p8 = some (.tup [V.ref p1, .ref p2, .ref p3, .ref p4, .ref p5, .ref p6, .ref p7]) := upd_same
  generalize upd H7 p8 (.tup [V.ref p1, .ref p2, .ref p3, .ref p4, .ref p5, .ref p6, .ref p7]) = H8 at k8 g8
  refine ⟨p8, rfl, ⟨_, SqT.of g8⟩, ?_⟩
  generalize hws : [V.ref p1, .ref p2, .ref p3, .ref p4, .ref p5, .ref p6, .ref p7] = ws at pr g8
  have lws : ws.length = 7 := by rw [← hws]; rfl
  clear hws
  have s8 := s7.trans k8
  have gC8 := s8 _ _ gC
  refine for_it (walk_tup (K := K) (a := p8) (xs := ws)) (fun i (σ : St) H' => (∀ b o, H8 b = some o → b ≠ C → H' b = some o) ∧ (∃ vs, H' C = some (.lst vs) ∧ vs.length = i ∧ ∀ (j : Nat) (v : V) (m : Nat), vs[j]? = some v → namedM[j]? = some m → TabV m 3 H' v) ∧ ∃ o1 o2 o3 o4 o5 : Option V, σ = [some (.ref C), o1, o2, o3, o4, o5]) ?_ ?_ ?_ ?_
  · exact ⟨fun _ _ h _ => h, ⟨[], gC8, rfl, fun j v m h => by cases j <;> cases h⟩, _, _, _, _, _, rfl⟩
  · intro i σ H' _ ⟨z, _⟩
    exact SqT.of (z _ _ g8 (fun e => by rw [e] at g8; rw [g8] at gC8; cases gC8))
  · rintro i x σ Ha Hb hi ⟨ba, ⟨vs, h3, lv, av⟩, o1, o2, o3, o4, o5, rfl⟩ ⟨rfl, hx0⟩
    obtain ⟨mm, hmm, mm1, mm8⟩ : ∃ mm, namedM[i]? = some mm ∧ 1 ≤ mm ∧ mm ≤ 8 := by
      have : i < 7 := by omega
      rcases i with _ | _ | _ | _ | _ | _ | _ | i <;> first | exact ⟨_, rfl, by decide, by decide⟩ | omega
    obtain ⟨c, s0, rfl, hc, ls⟩ := pr i x mm hx0 hmm
    have hcb := ba _ _ (k8 _ _ hc) (L2.ne_of hc (s7 _ _ gC) (by intro z; cases z))
    refine ⟨c, _, rfl, SqT.of hcb, rfl, ⟨_, _, rfl, _, _, rfl, rfl, ?_⟩⟩
    refine ⟨_, rfl, ⟨_, rfl⟩, s0, rfl, rfl, ls, fun W hW => ?_⟩
    have kW : Same Hb (upd Hb W (.lst ((Txt.words s0).map V.str))) := Same.upd_new hW
    have gW : (upd Hb W (.lst ((Txt.words s0).map V.str))) W = some (.lst ((Txt.words s0).map V.str)) := upd_same
    have nWC : W ≠ C := (ne_of_none h3 hW).symm
    generalize upd Hb W (.lst ((Txt.words s0).map V.str)) = Hw at kW gW
    have h3w := kW _ _ h3
    refine ⟨_, rfl, .inl ⟨rfl, _, SqL.of h3w⟩, ?_⟩
    refine ⟨_, rfl, mm, rfl, by omega, by omega, fun D hD => ?_⟩
    refine lc_it (walk_range (lo := 0) (n := Int.toNat (mm : Int))) (fun i H' => Same Hw H' ∧ TlB D i mm 3 H') ⟨Same.upd_new hD, .nil⟩ (fun _ _ _ _ => trivial) ?_ ?_
    · rintro i' x Hx Hd hi' ⟨ka, ta⟩ y0
      obtain ⟨rfl, rfl⟩ := y0
      dsimp only [gName]
      refine ⟨rfl, _, rfl, mm, rfl, by omega, by omega, fun C2 hC2 => ?_⟩
      refine lc_it (walk_range (lo := 0) (n := Int.toNat (mm : Int))) (fun i H' => Same Hd H' ∧ IlB C2 i 3 H') ⟨Same.upd_new hC2, .nil⟩ (fun _ _ _ _ => trivial) ?_ ?_
      · rintro j' x He Hf hj' ⟨ke, ie⟩ y0
        obtain ⟨rfl, rfl⟩ := y0
        dsimp only [gName]
        have sml : ∀ {a b : Int}, 0 ≤ a → a < 9 → 0 ≤ b → b < 9 → ∀ p : Prop, [Decidable p] → (if p then a else b).natAbs < 9 := fun h1 h2 h3 h4 p _ => by split <;> omega
        have l2 : ∀ {z : Int}, z.natAbs < 9 → z.natAbs.log2 < 1920 ∧ (Str.ofString (toString z)).length ≤ 40 := fun {z} h => ⟨Nat.lt_of_le_of_lt (Nat.log2_le_self _) (by omega), digits_len (by omega)⟩
        have u1 := l2 (sml (a := (0 : Int) + (j' : Int)) (b := (0 : Int) + (i' : Int)) (by omega) (by omega) (by omega) (by omega) ((0 : Int) + (j' : Int) < 0 + (i' : Int)))
        have u2 := l2 (sml (a := (0 : Int) + (j' : Int)) (b := (0 : Int) + (i' : Int)) (by omega) (by omega) (by omega) (by omega) ((0 : Int) + (i' : Int) < 0 + (j' : Int)))
        refine ⟨rfl, _, rfl, _, rfl, rfl, .inr ⟨_, rfl, ⟨_, _, rfl, rfl, cm_small (by decide) (by split <;> decide), ?_⟩⟩⟩
        refine ⟨_, rfl, _, rfl, _, _, rfl, _, rfl, u1.1, ?_⟩
        refine ⟨_, rfl, _, rfl, _, _, rfl, _, rfl, u2.1, ?_⟩
        refine ⟨_, _, rfl, rfl, Nat.le_trans (Nat.add_le_add u1.2 u2.2) (by decide), _, rfl, W, _, rfl, .inl (SqL.of (ke _ _ (ka _ _ gW))), rfl, ?_, ?_⟩
        · rw [List.all_map]
          exact List.all_eq_true.mpr fun _ _ => rfl
        refine .inr ⟨_, rfl, _, _, rfl, rfl, ?_⟩
        refine il_step hC2 ke ie (by omega) ?_
        exact (by decide : ∀ a b : Bool, ((2 * if a = true then 1 else 0) - (if b = true then 1 else 0) : Int).natAbs ≤ 3) _ _
      rintro He ⟨ke, ie⟩
      rw [Int.toNat_natCast] at ie
      obtain ⟨ys, g1, g2, g3⟩ := id ie
      refine ⟨C2, _, rfl, .inl ⟨SqL.of g1, fun p hp => ?_⟩⟩
      have kp := Same.upd_new (o := .tup (ys.map V.int)) hp
      exact tl_step hD ((ka.trans ke).trans kp) ((ta.same ke).same kp) (by omega) upd_same g2 g3
    rintro Hx ⟨kx, tx⟩
    rw [Int.toNat_natCast] at tx
    obtain ⟨ws', rows, g1, g2, g3⟩ := tx.tab (p := D)
    refine ⟨D, _, rfl, .inl ⟨SqL.of g1, fun p hp => ?_⟩⟩
    have kp := Same.upd_new (o := .tup ws') hp
    have sx := (kW.trans kx).trans kp
    have h3x := sx _ _ h3
    refine ⟨C, _, _, rfl, rfl, h3x, ?_, ?_⟩
    · rw [lv]
      exact Nat.lt_of_le_of_lt (by omega : i ≤ 400) (by decide)
    refine ⟨fun b o e hb => ?_, ⟨vs ++ [.ref p], upd_same, by rw [List.length_append, lv]; rfl, fun j v m hv hm => ?_⟩, _, _, _, _, _, rfl⟩
    · rw [upd_ne hb]
      exact sx _ _ (ba _ _ e hb)
    · rcases Nat.lt_or_ge j i with h | h
      · rw [List.getElem?_append_left (by omega)] at hv
        obtain ⟨t, rs, e, h1, h2⟩ := av j v m hv hm
        exact ⟨t, rs, e, (h1.same sx).putL h3x, h2⟩
      · rw [List.getElem?_append_right (by omega), lv] at hv
        have ji : j = i := by
          rcases Nat.lt_or_ge i j with h | h
          · rw [List.getElem?_eq_none (by show 1 ≤ _; omega)] at hv
            cases hv
          · omega
        subst ji
        rw [hm] at hmm
        cases hmm
        rw [Nat.sub_self] at hv
        cases hv
        exact ⟨p, rows, rfl, (TabT.putL ⟨ws', upd_same, g2.same kp⟩ h3x), g3⟩
  · rintro σ Ha ⟨ba, ⟨vs, h3, lv, av⟩, o1, o2, o3, o4, o5, rfl⟩
    refine ⟨_, rfl, q _ _ ?_ hC ⟨vs, h3, by omega, av⟩⟩
    intro b o e
    exact ba _ _ (s8 _ _ (kC _ _ e)) (ne_of_none e hC)
end
end Ft

set_option exponentiation.threshold 9000
namespace Ft
open PySem PySem.Spec PySem.W PyProof.Rows L2 RZ
/-- max(t), min(t) of a tuple of integers: one of them -/
def rOfT (K : PySem.W.Frag) : List V → Hp → VK → Prop := fun vs H Q => ∃ (a : Addr) (ns : List Int), vs = [V.ref a] ∧ SqT K H a (ns.map V.int) ∧ 0 < ns.length ∧ ∀ m, m ∈ ns → Q (.int m) H
theorem alike_ints (ns : List Int) : AlikeAll (ns.map PyData.int) := by
  refine ⟨fun x hx y hy => ?_, fun x hx => ?_⟩
  · obtain ⟨i, _, rfl⟩ := List.mem_map.mp hx
    obtain ⟨j, _, rfl⟩ := List.mem_map.mp hy
    rfl
  · obtain ⟨i, _, rfl⟩ := List.mem_map.mp hx
    intro z; cases z
theorem ints_pick {us : List Value} {ns : List Int} (h : IntsAre us ns) : ∀ {i : Nat} {v : Value}, us[i]? = some v → ∃ m t, v = .int m t ∧ m ∈ ns := by
  induction h with
  | nil => intro i v h; cases h
  | cons n t _ ih =>
    intro i v h
    cases i with
    | zero => cases h; exact ⟨_, _, rfl, List.mem_cons_self⟩
    | succ i =>
      obtain ⟨m, t, e, hm⟩ := ih h
      exact ⟨m, t, e, List.mem_cons_of_mem _ hm⟩
section
variable {X : Cx}
theorem cr_maxT (hc : X.calm = true) (hu : X.A.units + 64 < cLine) : CallR X (.builtin "max") (rOfT X.K) := by
  intro pins s σ H vs us Q I r h
  obtain ⟨a, ns, rfl, hs, hne, q⟩ := h
  obtain ⟨its, rv, hl, _⟩ := I.tuple hs
  rw [Vals.ref1 r]
  obtain ⟨as, hr⟩ := Dp.readsAll I (ns.map PyData.int) (ns.map V.int) its (dp_ints ns) rv
  have hA := alike_ints ns
  have hi := rv.ints
  have hd := dep_ints ns
  cases ns with
  | nil => cases hne
  | cons n ns =>
  refine max_tuple_data (vs := its.toArray) (I.ok.hd hc) hl hr hA (by rw [← List.map_cons, hd]; omega) fun i v h' tk bs hv _ hk => ?_
  obtain ⟨m, t, rfl, hm⟩ := ints_pick hi (by rw [← List.getElem?_toArray]; exact hv)
  exact ⟨.int m, H, I.kept hk, ⟨t, rfl⟩, q m hm⟩
theorem cr_minT (hc : X.calm = true) (hu : X.A.units + 64 < cLine) : CallR X (.builtin "min") (rOfT X.K) := by
  intro pins s σ H vs us Q I r h
  obtain ⟨a, ns, rfl, hs, hne, q⟩ := h
  obtain ⟨its, rv, hl, _⟩ := I.tuple hs
  rw [Vals.ref1 r]
  obtain ⟨as, hr⟩ := Dp.readsAll I (ns.map PyData.int) (ns.map V.int) its (dp_ints ns) rv
  have hA := alike_ints ns
  have hi := rv.ints
  have hd := dep_ints ns
  cases ns with
  | nil => cases hne
  | cons n ns =>
  refine min_tuple_data (vs := its.toArray) (I.ok.hd hc) hl hr hA (by rw [← List.map_cons, hd]; omega) fun i v h' tk bs hv _ hk => ?_
  obtain ⟨m, t, rfl, hm⟩ := ints_pick hi (by rw [← List.getElem?_toArray]; exact hv)
  exact ⟨.int m, H, I.kept hk, ⟨t, rfl⟩, q m hm⟩
end
end Ft

set_option exponentiation.threshold 9000
set_option maxHeartbeats 4000000
namespace Ft
open PySem L2 RZ
theorem TbB.up {m b b' : Nat} {rows : List (List Int)} (h : TbB m b rows) (k : b ≤ b') : TbB m b' rows := ⟨h.lm, h.lr, fun r hr x hx => Nat.le_trans (h.bd r hr x hx) k⟩
def sp_turned : Sp := fun vs H Q _ => ∃ (d l t : Addr) (rows : List (List Int)) (m c many : Nat), vs = [.ref d, .ref t, .int many] ∧ DeckAt H d l ∧ TabT H t rows ∧ TbB m c rows ∧ 1 ≤ m ∧ m ≤ 8 ∧ c ≤ 2 ^ 1000 ∧ many ≤ 3 ∧ ∀ H' t' rows', DeckAt H' d l → But d l H H' → TabT H' t' rows' → TbB m (m * (m * (c * 8) * 8)) rows' → Q (.ref t') H'
section
variable {P : Program} {w : World} {K : PySem.W.Frag} {mg : Str → Option Value} {base : Heap}
theorem ok_turned (D : Df K mg "_law_turned_form" s__law_turned_form ["_law_deck_here", "_law_form", "_law_many"]) (B : Bi mg) (c__law_unimodular : Cal P w K mg base 3 "_law_unimodular" sp_uni) (c__law_changed : Cal P w K mg base 1 "_law_changed" sp_changed) : Cal P w K mg base 4 "_law_turned_form" sp_turned := by
  obtain ⟨f, fd, F, m, b⟩ := D.ex
  have sc := sc__law_turned_form
  refine ⟨f, fd, _, F.ok sc (fun _ _ _ _ ⟨_, _, _, _, _, _, _, e, _⟩ => by rw [e]; rfl) (fun cdv A outer s H vs Q E hr h => ?_), m, F.kp, b⟩
  obtain ⟨d, l, t, rows, m, c, many, rfl, D0, hT, hB, m1, m8, c9, k3, q⟩ := h
  have h64 : (A.deeper (PyProof.Rows.envOfC "_law_turned_form" (defScope s__law_turned_form) s.heap.objs.size f cdv)).units + 64 < cLine := by have := hr.un; omega
  refine ⟨_, (pss_cons (ps_par (i := 3) (j := 4) (by rfl) sc.nd rfl rfl (by decide) rfl rfl (pa_cons (pe_c c__law_unimodular hr (by decide) (by rfl) (pa_cons (pv 0) (pa_cons (pe_callB call_len_seq (by rfl) B.len_ (by decide +kernel) (pa_cons (pv 1) pa_nil)) (pa_cons pe_int pa_nil)))) (pa_cons (pe_c c__law_unimodular hr (by decide) (by rfl) (pa_cons (pv 0) (pa_cons (pe_callB call_len_seq (by rfl) B.len_ (by decide +kernel) (pa_cons (pv 1) pa_nil)) (pa_cons (pv 2) pa_nil)))) pa_nil)) (by rfl))
      (pss_cons (ps_set (i := 5) sc.nd rfl (Or.inl rfl) (pe_c c__law_changed hr (by decide) (by rfl) (pa_cons (pv 1) (pa_cons (pv 4) pa_nil))))
      (pss_cons (ps_if (pt_cmpR (op_neD h64) (pe_lc (own := [("_law_row", 6)]) (g := gName 6)  (by rfl) sc.nd (pi_tup (pv 5)) (blkOk_by (own := [("_law_row", 6)]) (N := N__law_turned_form) (sc := defScope s__law_turned_form) (by decide +kernel)) (fun _ _ _ _ _ => (pg_name (i := 6) sc.nd rfl (Or.inl rfl))) (fun _ _ _ _ _ => (pts_one (PW.pt (pw_or (pt_cmpR op_gt (pe_callB (id := "max") (r := rOfT K) (cr_maxT rfl h64) (by rfl) B.max_ (by decide +kernel) (pa_cons (pv 6) pa_nil)) pe_int (nomark _)) (pw_or1 (pt_cmpR op_lt (pe_callB (id := "min") (r := rOfT K) (cr_minT rfl h64) (by rfl) B.min_ (by decide +kernel) (pa_cons (pv 6) pa_nil)) (pe_un un_neg pe_int) (nomark _))))))) (fun _ _ _ _ _ => pe_int)) (pe_lst pa_nil) (nomark _))
      (pss_one (ps_ret (pe_c c__law_changed hr (by decide) (by rfl) (pa_cons (pv 1) (pa_cons (pv 3) pa_nil)))))
      pss_nil)
      (pss_one (ps_ret (pv 5)))))), ?_⟩
  obtain ⟨w1, ht, tw1⟩ := id hT
  have l1 : w1.length = m := by rw [tw1.len, hB.lm]
  have fin : ∀ {H' : Hp} {t' : Addr} {rows' : List (List Int)} {e : Nat}, DeckAt H' d l → But d l H H' → TabT H' t' rows' → TbB m (m * (m * (c * e) * e)) rows' → e ≤ 8 → Q (.ref t') H' := fun {H' t' rows' e} a b x y z => q H' t' rows' a b x (y.up (Nat.mul_le_mul_left _ (Nat.mul_le_mul (Nat.mul_le_mul_left _ (Nat.mul_le_mul_left _ z)) z)))
  refine ⟨_, rfl, _, rfl, t, _, rfl, .inr (SqT.of ht), ?_⟩
  refine ⟨d, l, m, 0, (by rw [l1]; rfl), D0, m1, m8, by decide, fun H1 t1 r1 D1 b1 T1 B1 => ?_⟩
  have hT1 := hT.but D0 b1
  have ht1 := b1 _ _ ht (D0.offd ht) (D0.offl ht)
  refine ⟨_, rfl, _, rfl, t, _, rfl, .inr (SqT.of ht1), _, rfl, ?_⟩
  refine ⟨d, l, m, many, (by rw [l1]; rfl), D1, m1, m8, k3, fun H2 t2 r2 D2 b2 T2 B2 => ?_⟩
  have hT2 := hT1.but D1 b2
  have T12 := T1.but D1 b2
  have b02 := b1.trans b2
  have e3 : (2 : Nat) ^ many ≤ 8 := Nat.le_trans (Nat.pow_le_pow_right (by decide) k3) (by decide)
  refine ⟨_, _, rfl, ?_⟩
  refine ⟨_, rfl, _, rfl, t, t2, rows, r2, m, c, 2 ^ many, rfl, hT2, T2, hB, B2, m1, m8, c9, Nat.le_trans e3 (by decide), fun H3 t3 r3 s3 T3 B3 => ?_⟩
  obtain ⟨w3, ht3, tw3⟩ := id T3
  have l3 : w3.length = m := by rw [tw3.len, B3.lm]
  have D3 := D2.same s3
  have b03 := b02.trans (But.of s3)
  dsimp only [gName]
  refine ⟨_, rfl, t3, rfl, ⟨_, SqT.of ht3⟩, fun C hC => ?_⟩
  refine lc_it (walk_tup (K := K) (a := t3) (xs := w3)) (fun i H' => Same H3 H' ∧ ∃ u : List Unit, H' C = some (.lst (u.map fun _ => V.int 1)) ∧ u.length ≤ i) ⟨Same.upd_new hC, [], upd_same, Nat.le_refl _⟩ (fun i H' _ ⟨z, _⟩ => SqT.of (z _ _ ht3)) ?_ ?_
  · rintro i x Ha Hb hi ⟨ka, u, hu1, lu⟩ ⟨rfl, hx0⟩
    obtain ⟨c1, r, rfl, hr1, hc1⟩ := tw3.get hx0
    have lr := B3.lr r (List.mem_of_getElem? hr1)
    have hc2 := ka _ _ hc1
    dsimp only [gName]
    have yes : ∃ acc, Hb C = some (HO.lst acc) ∧ acc.length < sizeLine ∧ Same H3 (upd Hb C (HO.lst (acc ++ [V.int 1]))) ∧ ∃ u : List Unit, upd Hb C (HO.lst (acc ++ [V.int 1])) C = some (HO.lst (u.map fun _ => V.int 1)) ∧ u.length ≤ i + 1 := by
      refine ⟨_, hu1, ?_, fun b o e => ?_, u ++ [()], ?_, by rw [List.length_append]; show u.length + 1 ≤ i + 1; omega⟩
      · rw [List.length_map]
        exact Nat.lt_of_le_of_lt (by omega : _ ≤ 400) (by decide)
      · rw [upd_ne (ne_of_none e hC)]
        exact ka _ _ e
      · rw [upd_same, List.map_append]; rfl
    have lm : 0 < r.length := by omega
    refine ⟨rfl, _, rfl, c1, r, rfl, SqT.of hc2, lm, fun mx _ => ⟨_, _, rfl, rfl, ?_⟩⟩
    refine ⟨_, rfl, ifD (fun _ => iteT yes) fun _ => ?_⟩
    refine ⟨_, rfl, c1, r, rfl, SqT.of hc2, lm, fun mn _ => ⟨_, rfl, ?_⟩⟩
    refine ⟨_, _, rfl, rfl, _, rfl, ?_⟩
    exact ifD (fun _ => yes) fun _ => ⟨ka, u, hu1, by omega⟩
  rintro H4 ⟨s4, u, hu1, lu⟩
  refine ⟨(by show (0 : Nat) ≤ sizeLine; decide), fun E1 hE1 => ?_⟩
  have s5 : Same H4 (upd H4 E1 (.lst [])) := Same.upd_new hE1
  refine ⟨_, .list [], .lst (SqL.of (s5 _ _ hu1)) (ones_dp _), .lst (SqL.of upd_same) .nil, ones_shaped _, rfl, _, rfl, ?_⟩
  have s35 := s4.trans s5
  generalize upd H4 E1 (.lst []) = H5 at s35
  have D5 := D3.same s35
  have b05 := b03.trans (But.of s35)
  cases hx : !(PyData.eqv (.list (u.map fun _ => PyData.int 1)) (.list [])) with
  | true =>
    have s25 := s3.trans s35
    refine iteT ⟨_, rfl, _, rfl, t, t1, rows, r1, m, c, 2 ^ 0, rfl, hT2.same s25, T12.same s25, hB, B1, m1, m8, c9, by decide, fun H6 t6 r6 s6 T6 B6 => ?_⟩
    exact fin (D5.same s6) (b05.trans (But.of s6)) T6 B6 (by decide)
  | false =>
    refine iteF ?_
    exact ⟨_, rfl, fin D5 b05 (T3.same s35) B3 e3⟩
end
end Ft

set_option exponentiation.threshold 9000
set_option maxHeartbeats 4000000
namespace Ft
open PySem L2 RZ
theorem pe_c0 {X : Cx} {k j : Nat} {x : Str} {sp : Sp} {p pos : Pos} (c : Cal X.prog X.w X.K X.mg X.base k x sp) (hr : Room j X.A) (hk : k ≤ j) (hg : Gl X x) (hdb : (x == ("__debug__" : Str)) = false := by decide) : PE X (.Call (.Name x p) [] [] pos) (tCall sp [] E0 tNil) := by
  obtain ⟨f, fd, ps, F, hm, kp, b⟩ := c.ex
  exact pe_call0 F (hr.mono hk) hg hm kp b .nil pass0 hdb
theorem cut_take {vs : List V} {n : Nat} (h : n ≤ vs.length) : cutV vs none (some (n : Int)) = vs.take n := by
  unfold cutV
  rw [HT.sIx_none, HT.sIx_nat, Nat.min_eq_left h, List.drop_zero, Nat.sub_zero]
def sp_any : Sp := fun vs H Q _ => ∃ (d l : Addr), vs = [.ref d] ∧ DeckAt H d l ∧ ∀ H' t m rows, DeckAt H' d l → But d l H H' → TabT H' t rows → 2 ≤ m → m ≤ 8 → TbB m (2 ^ 21) rows → Q (.ref t) H'
section
variable {P : Program} {w : World} {K : PySem.W.Frag} {mg : Str → Option Value} {base : Heap}
theorem ok_any (D : Df K mg "_law_any_form" s__law_any_form ["_law_deck_here"]) (B : Bi mg) (c__law_draw : Cal P w K mg base 1 "_law_draw" sp_draw) (c__law_two : Cal P w K mg base 2 "_law_two" sp_two) (c__law_turned_form : Cal P w K mg base 4 "_law_turned_form" sp_turned) (c__law_named_forms : Cal P w K mg base 1 "_law_named_forms" sp_named) (c__law_pick : Cal P w K mg base 2 "_law_pick" (sp_pick K)) (c__law_beside : Cal P w K mg base 1 "_law_beside" sp_beside) : Cal P w K mg base 5 "_law_any_form" sp_any := by
  obtain ⟨f, fd, F, m, b⟩ := D.ex
  have sc := sc__law_any_form
  refine ⟨f, fd, _, F.ok sc (fun _ _ _ _ ⟨_, _, e, _⟩ => by rw [e]; rfl) (fun cdv A outer s H vs Q E hr h => ?_), m, F.kp, b⟩
  obtain ⟨d, l, rfl, D0, q⟩ := h
  refine ⟨_, (pss_cons (ps_set (i := 1) sc.nd rfl (Or.inl rfl) (pe_c c__law_draw hr (by decide) (by rfl) (pa_cons (pv 0) (pa_cons pe_int pa_nil))))
      (pss_cons (ps_if (pt_cmpR op_lt (pv 1) pe_int (nomark _))
      (pss_one (ps_ret (pe_c c__law_turned_form hr (by decide) (by rfl) (pa_cons (pv 0) (pa_cons (pe_c c__law_two hr (by decide) (by rfl) (pa_cons (pv 0) (pa_cons pe_int pa_nil))) (pa_cons pe_int pa_nil))))))
      pss_nil)
      (pss_cons (ps_set (i := 2) sc.nd rfl (Or.inl rfl) (pe_c0 c__law_named_forms hr (by decide) (by rfl)))
      (pss_cons (ps_if (pt_cmpR op_eq (pv 1) pe_int (nomark _))
      (pss_one (ps_set (i := 3) sc.nd rfl (Or.inl rfl) (pe_c c__law_pick hr (by decide) (by rfl) (pa_cons (pv 0) (pa_cons (pv 2) pa_nil)))))
      (pss_one (ps_if (pt_cmpR op_eq (pv 1) pe_int (nomark _))
        (pss_one (ps_set (i := 3) sc.nd rfl (Or.inl rfl) (pe_c c__law_beside hr (by decide) (by rfl) (pa_cons (pe_c c__law_pick hr (by decide) (by rfl) (pa_cons (pv 0) (pa_cons (pe_slice sl_list (pv 2) po_none (po_some pe_int)) pa_nil))) (pa_cons (pe_c c__law_two hr (by decide) (by rfl) (pa_cons (pv 0) (pa_cons pe_int pa_nil))) pa_nil)))))
        (pss_one (ps_if (pt_cmpR op_eq (pv 1) pe_int (nomark _))
          (pss_cons (ps_set (i := 4) sc.nd rfl (Or.inr rfl) (pe_op op_add pe_int (pe_c c__law_draw hr (by decide) (by rfl) (pa_cons (pv 0) (pa_cons pe_int pa_nil)))))
            (pss_one (ps_set (i := 3) sc.nd rfl (Or.inl rfl) (pe_callTy call_tuple_of (by rfl) B.tuple (by decide +kernel) (pa_cons (pe_lc (own := [("_law_row", 6)]) (g := gName 6) (tt := tYes) (by rfl) sc.nd (pi_tup (pe_c c__law_pick hr (by decide) (by rfl) (pa_cons (pv 0) (pa_cons (pe_slice sl_list (pv 2) po_none (po_some pe_int)) pa_nil)))) (blkOk_by (own := [("_law_row", 6)]) (N := N__law_any_form) (sc := defScope s__law_any_form) (by decide +kernel)) (fun _ _ _ _ _ => (pg_name (i := 6) sc.nd rfl (Or.inl rfl))) (fun _ _ _ _ _ => pts_nil) (fun _ _ _ _ _ => (pe_callTy (T := "tuple") (r := rTupQ K) call_tuple_of (by rfl) B.tuple (by decide +kernel) (pa_cons (pe_lc (own := [("_law_x", 5)]) (g := gName 5) (tt := tYes) (by rfl) sc.nd (show PI _ _ _ (iTup K (tVar 6)) from pi_tup (pv 6)) (blkOk_by (own := [("_law_x", 5)]) (N := N__law_any_form) (sc := { kind := ScopeKind.function, names := [(".0", NameKind.local), ("_law_row", NameKind.local), ("tuple", NameKind.globalImplicit), ("_law_t", NameKind.cell)], isGenerator := false, isCoroutine := false }) (by decide +kernel)) (fun _ _ _ _ _ => (pg_name (i := 5) sc.nd rfl (Or.inl rfl))) (fun _ _ _ _ _ => pts_nil) (fun _ _ _ _ _ => (pe_op op_mulW (pv 4) (pv 5)))) pa_nil)))) pa_nil)))))
          (pss_one (ps_set (i := 3) sc.nd rfl (Or.inl rfl) (pe_c c__law_beside hr (by decide) (by rfl) (pa_cons (pe_c c__law_two hr (by decide) (by rfl) (pa_cons (pv 0) (pa_cons pe_int pa_nil))) (pa_cons (pe_c c__law_two hr (by decide) (by rfl) (pa_cons (pv 0) (pa_cons pe_int pa_nil))) pa_nil))))))))))
      (pss_one (ps_ret (pe_ifExp (pt_cmpR op_lt (pe_callB call_len_seq (by rfl) B.len_ (by decide +kernel) (pa_cons (pv 3) pa_nil)) pe_int (nomark _)) (pe_c c__law_turned_form hr (by decide) (by rfl) (pa_cons (pv 0) (pa_cons (pv 3) (pa_cons pe_int pa_nil)))) (pe_c c__law_turned_form hr (by decide) (by rfl) (pa_cons (pv 0) (pa_cons (pv 3) (pa_cons pe_int pa_nil))))))))))), ?_⟩
  refine ⟨_, rfl, d, l, 8, rfl, D0, by decide, by decide, fun H1 w0 D1 b1 w1 w2 => ?_⟩
  dsimp only [gName]
  have up : ∀ {m : Nat}, m ≤ 8 → m * (m * (400 * 8) * 8) ≤ 2 ^ 21 := fun {m} h => Nat.le_trans (Nat.mul_le_mul h (Nat.mul_le_mul_right _ (Nat.mul_le_mul_right _ h))) (by decide)
  refine ⟨_, rfl, _, _, rfl, rfl, _, rfl, ifD (fun _ => ?_) fun _ => ?_⟩
  · refine ⟨_, rfl, _, rfl, d, l, 190, rfl, D1, by decide, by decide, fun H2 t2 r2 D2 b2 T2 B2 => ?_⟩
    refine ⟨d, l, t2, r2, 2, 400, 2, rfl, D2, T2, B2, by decide, by decide, by decide, by decide, fun H3 t3 r3 D3 b3 T3 B3 => ?_⟩
    exact q _ _ 2 _ D3 ((b1.trans b2).trans b3) T3 (by decide) (by decide) (B3.up (up (by decide)))
  dsimp only [tNext]
  refine ⟨rfl, fun H2 C s2 nC nm => ?_⟩
  obtain ⟨Cd, Cl⟩ := D1.new nC
  have D2 := D1.same s2
  have b2 := b1.trans (But.of s2)
  obtain ⟨vs, hC, lv, hv⟩ := nm
  have hm : ∀ {n : Nat} {v : V}, v ∈ vs.take n → ∃ (i m : Nat), i < n ∧ namedM[i]? = some m ∧ TabV m 3 H2 v := by
    intro n v h
    obtain ⟨i, hi⟩ := List.getElem?_of_mem h
    rw [List.getElem?_take] at hi
    split at hi
    · have il := (List.getElem?_eq_some_iff.mp hi).1
      obtain ⟨m, hm⟩ : ∃ m, namedM[i]? = some m := ⟨_, List.getElem?_eq_getElem (by show i < 7; omega)⟩
      exact ⟨i, m, by assumption, hm, hv i v m hi hm⟩
    · cases hi
  have m48 : ∀ {i m : Nat}, namedM[i]? = some m → 2 ≤ m ∧ m ≤ 8 ∧ (i < 2 → m = 4) := by
    intro i m h
    rcases i with _ | _ | _ | _ | _ | _ | _ | i <;> first | (cases h; decide) | (cases h)
  dsimp only [gName]
  refine tSeq_join (fun (σ : St) H' => DeckAt H' d l ∧ But d l H H' ∧ (∃ t m rows, TabT H' t rows ∧ 2 ≤ m ∧ m ≤ 8 ∧ TbB m 400 rows ∧ ∃ o2 o4 o5 o6 : Option V, σ = [some (.ref d), some (.int w0), o2, some (.ref t), o4, o5, o6])) ?_ ?_
  · intro N hN
    refine ⟨_, rfl, rfl, _, rfl, ifI (fun _ => ?_) fun _ => ?_⟩
    · refine ⟨_, rfl, _, rfl, d, l, C, vs, rfl, D2, .inl ⟨hC, Cl⟩, by omega, by omega, fun H3 v D3 b3 hv3 => ?_⟩
      obtain ⟨i, m, _, h1, t, rows, rfl, T2, B2⟩ := hm (n := 7) (v := v) (by rw [List.take_of_length_le (by omega)]; exact hv3)
      obtain ⟨m2, m8, _⟩ := m48 h1
      exact hN _ _ ⟨D3, b2.trans b3, t, m, rows, T2.but D2 b3, m2, m8, B2.up (by decide), _, _, _, _, rfl⟩
    refine ⟨_, rfl, rfl, _, rfl, ifI (fun _ => ?_) fun _ => ?_⟩
    · refine ⟨_, rfl, _, rfl, 2, rfl, C, vs, rfl, SqL.of hC, fun p hp => ?_⟩
      rw [show cutV vs none (some (2 : Int)) = vs.take 2 from cut_take (n := 2) (by omega)]
      have kp : Same H2 (upd H2 p (.lst (vs.take 2))) := Same.upd_new hp
      obtain ⟨pd, pl⟩ := D2.new hp
      have gp : (upd H2 p (.lst (vs.take 2))) p = some (.lst (vs.take 2)) := upd_same
      generalize upd H2 p (.lst (vs.take 2)) = H3 at kp gp
      refine ⟨d, l, p, _, rfl, D2.same kp, .inl ⟨gp, pl⟩, by rw [List.length_take]; omega, by rw [List.length_take]; omega, fun H4 v D4 b4 hv4 => ?_⟩
      obtain ⟨i, m, i2, h1, t, rows, rfl, T2, B2⟩ := hm (n := 2) (v := v) hv4
      obtain ⟨m2, m8, m4⟩ := m48 h1
      obtain rfl := m4 i2
      have T4 := (T2.same kp).but (D2.same kp) b4
      refine ⟨_, rfl, d, l, 100, rfl, D4, by decide, by decide, fun H5 t5 r5 D5 b5 T5 B5 => ?_⟩
      refine ⟨t, t5, rows, r5, 4, 2, 400, rfl, T4.but D4 b5, T5, B2.up (by decide), B5, by decide, by decide, by decide, by decide, fun H6 t6 r6 s6 T6 B6 => ?_⟩
      exact hN _ _ ⟨D5.same s6, (((b2.trans (But.of kp)).trans b4).trans b5).trans (But.of s6), t6, 6, r6, T6, by decide, by decide, B6, _, _, _, _, rfl⟩
    refine ⟨_, rfl, rfl, _, rfl, ifI (fun _ => ?_) fun _ => ?_⟩
    · refine ⟨_, rfl, d, l, 3, rfl, D2, by decide, by decide, fun H3 w3 D3 b3 x1 x2 => ⟨_, _, rfl, rfl, ?_⟩⟩
      have hC3 := b3 _ _ hC Cd Cl
      dsimp only [gName]
      refine ⟨_, rfl, _, rfl, 5, rfl, C, vs, rfl, SqL.of hC3, fun p hp => ?_⟩
      rw [show cutV vs none (some (5 : Int)) = vs.take 5 from cut_take (n := 5) (by omega)]
      have kp : Same H3 (upd H3 p (.lst (vs.take 5))) := Same.upd_new hp
      obtain ⟨pd, pl⟩ := D3.new hp
      have gp : (upd H3 p (.lst (vs.take 5))) p = some (.lst (vs.take 5)) := upd_same
      generalize upd H3 p (.lst (vs.take 5)) = H4 at kp gp
      have D4 := D3.same kp
      refine ⟨d, l, p, _, rfl, D4, .inl ⟨gp, pl⟩, by rw [List.length_take]; omega, by rw [List.length_take]; omega, fun H5 v D5 b5 hv5 => ?_⟩
      obtain ⟨i, m, i2, h1, t, rows, rfl, T2, B2⟩ := hm (n := 5) (v := v) hv5
      obtain ⟨m2, m8, _⟩ := m48 h1
      have T5 := ((T2.but D2 b3).same kp).but D4 b5
      have b05 := ((b2.trans b3).trans (But.of kp)).trans b5
      obtain ⟨w5, ht5, tw5⟩ := id T5
      have l5 : w5.length = m := by rw [tw5.len, B2.lm]
      refine ⟨t, rfl, ⟨_, SqT.of ht5⟩, fun C2 hC2 => ?_⟩
      refine lc_it (walk_tup (K := K) (a := t) (xs := w5)) (fun i H' => Same H5 H' ∧ TlB C2 i m 9 H') ⟨Same.upd_new hC2, .nil⟩ (fun i H' _ ⟨z, _⟩ => SqT.of (z _ _ ht5)) ?_ ?_
      · rintro j x Ha Hb hj ⟨ka, ta⟩ ⟨rfl, hx0⟩
        obtain ⟨c1, r, rfl, hr1, hc1⟩ := tw5.get hx0
        have lr := B2.lr r (List.mem_of_getElem? hr1)
        have jl := (List.getElem?_eq_some_iff.mp hx0).1
        have hc2 := ka _ _ hc1
        dsimp only [gName]
        refine ⟨rfl, _, rfl, c1, rfl, ⟨_, SqT.of hc2⟩, fun C3 hC3 => ?_⟩
        refine lc_it (walk_tup (K := K) (a := c1) (xs := r.map V.int)) (fun i H' => Same Hb H' ∧ IlB C3 i 9 H') ⟨Same.upd_new hC3, .nil⟩ (fun i H' _ ⟨z, _⟩ => SqT.of (z _ _ hc2)) ?_ ?_
        · rintro k x Hc Hd hk ⟨kc, ic⟩ ⟨rfl, hx1⟩
          obtain ⟨y, rfl, hy⟩ := int_at hx1
          have yb := B2.bd r (List.mem_of_getElem? hr1) y (List.mem_of_getElem? hy)
          have kl := (List.getElem?_eq_some_iff.mp hy).1
          dsimp only [gName]
          refine ⟨rfl, _, rfl, _, rfl, _, _, rfl, rfl, cm_small (by omega) (by omega), ?_⟩
          refine il_step hC3 kc ic (by omega) ?_
          rw [Int.natAbs_mul]
          exact Nat.mul_le_mul (by omega : _ ≤ 3) yb
        rintro Hc ⟨kc, ic⟩
        rw [List.length_map, lr] at ic
        obtain ⟨ys, g1, g2, g3⟩ := id ic
        refine ⟨C3, _, rfl, .inl ⟨SqL.of g1, fun p hp => ?_⟩⟩
        have kp := Same.upd_new (o := .tup (ys.map V.int)) hp
        exact tl_step hC2 ((ka.trans kc).trans kp) ((ta.same kc).same kp) (by omega) upd_same g2 g3
      rintro H6 ⟨s6, tl⟩
      rw [l5] at tl
      obtain ⟨ws, rs, g1, g2, g3⟩ := tl.tab (p := C2)
      refine ⟨C2, _, rfl, .inl ⟨SqL.of g1, fun p hp => ?_⟩⟩
      have kp := Same.upd_new (o := .tup ws) hp
      exact hN _ _ ⟨(D5.same s6).same kp, b05.trans (But.of (s6.trans kp)), p, m, rs, ⟨_, upd_same, g2.same kp⟩, m2, m8, g3.up (by decide), _, _, _, _, rfl⟩
    · refine ⟨_, rfl, d, l, 100, rfl, D2, by decide, by decide, fun H3 t3 r3 D3 b3 T3 B3 => ?_⟩
      refine ⟨_, rfl, d, l, 100, rfl, D3, by decide, by decide, fun H4 t4 r4 D4 b4 T4 B4 => ?_⟩
      refine ⟨t3, t4, r3, r4, 2, 2, 400, rfl, T3.but D3 b4, T4, B3, B4, by decide, by decide, by decide, by decide, fun H6 t6 r6 s6 T6 B6 => ?_⟩
      exact hN _ _ ⟨D4.same s6, ((b2.trans b3).trans b4).trans (But.of s6), t6, 4, r6, T6, by decide, by decide, B6, _, _, _, _, rfl⟩
  rintro σ H3 ⟨D3, b3, t, m, rows, T3, m2, m8, B3, o2, o4, o5, o6, rfl⟩
  obtain ⟨w3, ht3, tw3⟩ := id T3
  refine ⟨_, rfl, t, _, rfl, .inr (SqT.of ht3), _, _, rfl, rfl, _, rfl, ifD (fun _ => ?_) fun _ => ?_⟩
  · refine ⟨_, rfl, _, rfl, d, l, t, rows, m, 400, 3, rfl, D3, T3, B3, by omega, m8, by decide, by decide, fun H4 t4 r4 D4 b4 T4 B4 => ?_⟩
    exact q _ _ m _ D4 (b3.trans b4) T4 m2 m8 (B4.up (up m8))
  · refine ⟨_, rfl, _, rfl, d, l, t, rows, m, 400, 1, rfl, D3, T3, B3, by omega, m8, by decide, by decide, fun H4 t4 r4 D4 b4 T4 B4 => ?_⟩
    exact q _ _ m _ D4 (b3.trans b4) T4 m2 m8 (B4.up (up m8))
end
end Ft

set_option maxHeartbeats 4000000
/-! t[::-1], t a tuple -/
namespace Ft
open PySem PySem.Spec PyProof.Rows L2 HT
section
variable {prog : Program} {w : World} {A : Around} {E : Value → Shared → Prop} {s : Shared}
theorem adjust_rev (n : Nat) : Builtin.Slice.sliceAdjust none none (-1) (n : Int) = ((n : Int) - 1, -1) := by
  unfold Builtin.Slice.sliceAdjust
  simp
theorem places_rev (n : Nat) : Builtin.Slice.slicePlaces ((n : Int) - 1) (-1) (-1) = n := by
  unfold Builtin.Slice.slicePlaces
  simp
  omega
theorem sliceApplied_rev {sl : Addr} {vs : Value} {n : Nat} {Q : Int × Int × Nat → Shared → Prop} (hs : s.heap.IsSliceOf sl .none .none vs) (ps : IsPart vs (some (-1)))
    (h : Q ((n : Int) - 1, -1, n) s) : wpAny (model prog w) A (Builtin.Slice.sliceApplied (.ref sl) (pure (n : Int))) Q E s := by
  obtain ⟨os, hos, hcs, hds⟩ := id hs
  unfold Builtin.Slice.sliceApplied Builtin.Slice.sliceFields
  refine wpAny_bind (wpAny_bind (wpAny_field hos hds (x := .none) rfl (wpAny_bind (wpAny_field hos hds (x := .none) rfl (wpAny_bind (wpAny_field hos hds (x := vs) rfl (wpAny_pure ?_)))))))
  refine wpAny_bind (slicePart_ ps ?_)
  show wpAny _ _ (if ((-1 : Int) == 0) = true then _ else _) _ _ s
  rw [if_neg (by decide)]
  refine wpAny_bind (slicePart_none (wpAny_bind (slicePart_none (wpAny_bind (wpAny_pure ?_)))))
  show wpAny _ _ (match Builtin.Slice.sliceAdjust none none (-1) (n : Int) with | (lo, hi) => pure (lo, (-1 : Int), Builtin.Slice.slicePlaces lo hi (-1))) _ _ s
  rw [adjust_rev]
  show wpAny _ _ (pure ((n : Int) - 1, (-1 : Int), Builtin.Slice.slicePlaces ((n : Int) - 1) (-1) (-1))) _ _ s
  rw [places_rev]
  exact wpAny_pure h
theorem filterMap_some {α β : Type} {f : α → Option β} {g : α → β} : ∀ l : List α, (∀ x ∈ l, f x = some (g x)) → l.filterMap f = l.map g
  | [], _ => rfl
  | x :: l, h => by
    rw [List.filterMap_cons, h x List.mem_cons_self, List.map_cons, filterMap_some l fun y hy => h y (List.mem_cons_of_mem _ hy)]
theorem pick_rev (xs : Array Value) : ((List.range xs.size).filterMap fun (m : Nat) => xs[(((xs.size : Int) - 1) + (m : Int) * -1).toNat]?).toArray = xs.toList.reverse.toArray := by
  congr 1
  have e : ∀ m ∈ List.range xs.size, xs[(((xs.size : Int) - 1) + (m : Int) * -1).toNat]? = some (xs.toList.reverse.getD m .none) := fun m hm => by
    have hm := List.mem_range.mp hm
    rw [show (((xs.size : Int) - 1) + (m : Int) * -1).toNat = xs.size - 1 - m by omega, List.getD_eq_getElem?_getD, List.getElem?_reverse (by simpa using hm), Array.length_toList, Array.getElem?_toList, Array.getElem?_eq_getElem (by omega)]
    rfl
  rw [filterMap_some _ e]
  refine List.ext_getElem? fun i => ?_
  rw [List.getElem?_map]
  rcases Nat.lt_or_ge i xs.size with h | h
  · rw [List.getElem?_range h]
    show some (xs.toList.reverse.getD i Value.none) = _
    rw [List.getD_eq_getElem?_getD]
    have : i < xs.toList.reverse.length := by simpa using h
    rw [List.getElem?_eq_getElem this]
    rfl
  · rw [List.getElem?_eq_none (by simpa using h), List.getElem?_eq_none (by simpa using h)]
    rfl
theorem getItem_tuple_rev {t sl : Addr} {items : Array Value} {vs : Value} {Q : Value → Shared → Prop} (ht : IsTup s.heap t items) (hs : s.heap.IsSliceOf sl .none .none vs) (ps : IsPart vs (some (-1)))
    (h : Q (.ref s.heap.objs.size) { s with heap := s.heap.push { cls := .type "tuple", data := .seq items.toList.reverse.toArray } })
    (hsz : items.size ≤ sizeLine) : wpAny (model prog w) A (getItem (.ref t) (.ref sl)) Q E s := by
  have htake : sizeOk (.seq items.toList.reverse.toArray) := by
    show items.toList.reverse.toArray.size ≤ sizeLine
    rw [List.size_toArray, List.length_reverse, Array.length_toList]
    exact hsz
  obtain ⟨os, hos, hcs, hds⟩ := id hs
  have hTs : s.TypeIs (.ref sl) "slice" := ⟨os, hos, hcs⟩
  unfold getItem
  try with_reducible refine wpAny_holding ?_
  first | refine wpAny_bind (wpAny_pure ?_) | skip
  refine wpAny_bind (wpAny_sequenceKey ht.typeIs (by decide) ?_)
  refine wpAny_bind (wpAny_callSpecial?_slot (name := Str.ofString "__getitem__") ht.typeIs PyProof.Rows.slot_tuple_getitem
    (wpAny_call_entry PyProof.Rows.slot_tuple_getitem ht.typeIs entry_tuple_getitem ?_ (args_tuple_getitem _ _)))
  show wpAny _ _ (Builtin.Tuple.tupleItemsOf (.ref t) >>= _) _ _ s
  refine wpAny_bind (tupleItemsOf_ ht ?_)
  refine wpAny_bind (wpAny_typeOf hTs ?_)
  rw [if_pos (by decide)]
  refine wpAny_bind (sliceApplied_rev hs ps ?_)
  have hno : ¬ ((((items.size : Int) - 1) == 0 && (-1 : Int) == 1 && items.size == items.size) = true) := by
    intro q
    rw [Bool.and_eq_true, Bool.and_eq_true] at q
    exact absurd q.1.2 (by decide)
  show wpAny _ _ (if (((items.size : Int) - 1) == 0 && (-1 : Int) == 1 && items.size == items.size) = true then _ else _) _ _ s
  rw [if_neg hno, pick_rev]
  first
    | exact wpAny_bind (m := Builtin.Tuple.tupleExact _) (wpAny_newObj_type (wpAny_pure ⟨_, rfl, wpAny_pure h⟩) htake)
    | exact wpAny_bind (m := Builtin.Tuple.tupleExact _) (wpAny_newObj_type (wpAny_bind (wpAny_pure (wpAny_pure ⟨_, rfl, wpAny_pure h⟩))) htake)
    | exact wpAny_bind (wpAny_bind (m := Builtin.Tuple.tupleExact _) (wpAny_newObj_type (wpAny_pure (wpAny_pure ⟨_, rfl, wpAny_pure h⟩)) htake))
    | exact wpAny_bind (wpAny_bind (m := Builtin.Tuple.tupleExact _) (wpAny_newObj_type (wpAny_pure ⟨_, rfl, wpAny_pure h⟩) htake))
end
section
variable {X : Cx}
def tRevT (K : PySem.W.Frag) (te : TE) : TE := fun σ H Q => te σ H fun x H1 => ∃ a xs, x = .ref a ∧ SqT K H1 a xs ∧ ∀ p, H1 p = none → Q (.ref p) (upd H1 p (.tup xs.reverse))
theorem pe_revT {e : Expr} {te : TE} {k : Nat} {p1 p2 p3 pos : Pos} (he : PE X e te) : PE X (.Subscript e (.Slice none none (some (.UnaryOp .USub (.Constant (.int 1) k p1) p2)) p3) pos) (tRevT X.K te) := by
  refine ⟨fun pins s σ H Q I h => ?_⟩
  refine Subscript_ (thn (he.run pins s σ H _ I h) fun v s1 ⟨x, H1, I1, r1, q1⟩ => ?_)
  obtain ⟨a, xs, ex, hx, q⟩ := q1
  subst ex
  cases r1
  have hst : PO X (some (.UnaryOp .USub (.Constant (.int 1) k p1) p2)) (tPart (tUn (rU fun i => .int (-i)) (tC (.int 1)))) := po_some (pe_un un_neg pe_int)
  refine wpAny_Slice (thn (po_none.run pins s1 σ H1 (fun o H2 => o = none ∧ H2 = H1) I1 ⟨rfl, rfl⟩) fun vl s2 ⟨l, H2, I2, pl, el, e2⟩ => ?_)
  subst el e2
  refine thn (po_none.run pins s2 σ H2 (fun o H3 => o = none ∧ H3 = H2) I2 ⟨rfl, rfl⟩) fun vu s3 ⟨u, H3, I3, pu, eu, e3⟩ => ?_
  subst eu e3
  refine thn (hst.run pins s3 σ H3 (fun o H4 => o = some (-1) ∧ H4 = H3) I3 ⟨1, rfl, -1, rfl, rfl, rfl⟩) fun vs s4 ⟨o, H4, I4, ps, eo, e4⟩ => ?_
  subst eo e4
  cases pl
  cases pu
  have I5 : Inv X pins σ H4 { s4 with heap := s4.heap.push { cls := .type "slice", data := .fields #[.none, .none, vs] } } := I4.kept (t' := s4.toks) fun b ob q => Heap.get?_push_of_some _ q
  obtain ⟨its, r, ht, hz⟩ := I5.tuple hx
  have hlen := r.length
  show wpAny (model X.prog X.w) X.A (subscriptTail e (.Slice none none (some (.UnaryOp .USub (.Constant (.int 1) k p1) p2)) p3) (.ref a) (.ref s4.heap.objs.size)) (EP X pins σ Q) X.xe { s4 with heap := s4.heap.push { cls := .type "slice", data := .fields #[.none, .none, vs] } }
  refine tail_any (ops := [.ref a, .ref s4.heap.objs.size]) ht.typeIs (PyProof.Rows.slot_tuple_getitem.lookup) ?_ (by with_unfolding_all rfl)
  refine getItem_tuple_rev ht (Heap.IsSliceOf.new _ .none .none vs) ps ?_ (by rw [List.size_toArray]; omega)
  refine ⟨.ref _, _, I5.laid (t' := s4.toks) (o := .tup xs.reverse) (fun b ob q => Heap.get?_push_of_some _ q) (Nat.le_refl _) ?_, rfl, q _ (I5.hok.fresh (Nat.le_refl _))⟩
  exact ⟨by rw [List.length_reverse]; exact hz, _, r.reverse, IsTup.new _ _⟩
end
end Ft

set_option exponentiation.threshold 9000
namespace Ft
open PySem L2
theorem sqa_iff {k m : Nat} {ds : List PyData} : SqA k m ds ↔ (∀ d ∈ ds, d.showable = true ∧ d.depth ≤ k ∧ d.leavesShort 700 = true) ∧ PyData.bulkAll ds ≤ m := by
  have h1 : ∀ ds : List PyData, (PyData.showableAll ds = true ∧ PyData.depthAll ds ≤ k ∧ PyData.leavesShortAll 700 ds = true) ↔ ∀ d ∈ ds, d.showable = true ∧ d.depth ≤ k ∧ d.leavesShort 700 = true := fun ds => by
    induction ds with
    | nil => exact ⟨fun _ d hd => (by cases hd), fun _ => ⟨rfl, Nat.zero_le _, rfl⟩⟩
    | cons d ds ih =>
      simp only [PyData.showableAll, PyData.depthAll, PyData.leavesShortAll, Bool.and_eq_true, List.mem_cons, forall_eq_or_imp]
      rw [← ih]
      constructor
      · rintro ⟨⟨a, b⟩, c, e, f⟩
        exact ⟨⟨a, by omega, e⟩, b, by omega, f⟩
      · rintro ⟨⟨a, b, c⟩, e, f, g⟩
        exact ⟨⟨a, e⟩, by omega, c, g⟩
  constructor
  · intro h
    exact ⟨(h1 ds).mp ⟨h.show_, h.depth, h.short⟩, h.bulk⟩
  · rintro ⟨h, b⟩
    obtain ⟨x, y, z⟩ := (h1 ds).mpr h
    exact ⟨x, y, z, b⟩
theorem bulk_app (bs : List PyData) : ∀ as : List PyData, PyData.bulkAll (as ++ bs) = PyData.bulkAll as + PyData.bulkAll bs
  | [] => by simp only [List.nil_append, PyData.bulkAll, Nat.zero_add]
  | a :: as => by simp only [List.cons_append, PyData.bulkAll, bulk_app bs as]; omega
theorem bulk_rev : ∀ as : List PyData, PyData.bulkAll as.reverse = PyData.bulkAll as
  | [] => rfl
  | a :: as => by simp only [List.reverse_cons, bulk_app, bulk_rev as, PyData.bulkAll]; omega
theorem SqA.app {k m n : Nat} {as bs : List PyData} (h : SqA k m as) (t : SqA k n bs) : SqA k (m + n) (as ++ bs) := by
  obtain ⟨h1, h2⟩ := sqa_iff.mp h
  obtain ⟨t1, t2⟩ := sqa_iff.mp t
  refine sqa_iff.mpr ⟨fun d hd => (List.mem_append.mp hd).elim (h1 d) (t1 d), ?_⟩
  rw [bulk_app]
  omega
theorem SqA.rev {k m : Nat} {as : List PyData} (h : SqA k m as) : SqA k m as.reverse := by
  obtain ⟨h1, h2⟩ := sqa_iff.mp h
  exact sqa_iff.mpr ⟨fun d hd => h1 d (List.mem_reverse.mp hd), by rw [bulk_rev]; exact h2⟩
theorem SqA.drop {k m : Nat} {as : List PyData} (h : SqA k m as) (n : Nat) : SqA k m (as.drop n) := by
  obtain ⟨h1, h2⟩ := sqa_iff.mp h
  have e := bulk_app (as.drop n) (as.take n)
  rw [List.take_append_drop] at e
  exact sqa_iff.mpr ⟨fun d hd => h1 d (List.mem_of_mem_drop hd), by omega⟩
theorem SqA.take {k m : Nat} {as : List PyData} (h : SqA k m as) (n : Nat) : SqA k m (as.take n) := by
  obtain ⟨h1, h2⟩ := sqa_iff.mp h
  have e := bulk_app (as.drop n) (as.take n)
  rw [List.take_append_drop] at e
  exact sqa_iff.mpr ⟨fun d hd => h1 d (List.mem_of_mem_take hd), by omega⟩
def cutD (ds : List PyData) (lo hi : Option Int) : List PyData := (ds.drop (HT.sIx ds.length 0 lo)).take (HT.sIx ds.length ds.length hi - HT.sIx ds.length 0 lo)
theorem SqA.cut {k m : Nat} {as : List PyData} (h : SqA k m as) (lo hi : Option Int) : SqA k m (cutD as lo hi) := (h.drop _).take _
theorem cutD_len (ds : List PyData) (lo hi : Option Int) : (cutD ds lo hi).length ≤ ds.length := by
  unfold cutD
  rw [List.length_take, List.length_drop]
  omega
theorem DqAll.drop {H : Hp} {N : Addr → Prop} : ∀ {vs : List V} {ds : List PyData} (n : Nat), DqAll H N vs ds → DqAll H N (vs.drop n) (ds.drop n)
  | _, _, 0, h => h
  | _, _, _ + 1, .nil => .nil
  | _, _, n + 1, .cons _ t => DqAll.drop n t
theorem DqAll.take {H : Hp} {N : Addr → Prop} : ∀ {vs : List V} {ds : List PyData} (n : Nat), DqAll H N vs ds → DqAll H N (vs.take n) (ds.take n)
  | _, _, 0, _ => .nil
  | _, _, _ + 1, .nil => .nil
  | _, _, n + 1, .cons h t => .cons h (DqAll.take n t)
theorem DqAll.cut {H : Hp} {N : Addr → Prop} {vs : List V} {ds : List PyData} (h : DqAll H N vs ds) (lo hi : Option Int) : DqAll H N (cutV vs lo hi) (cutD ds lo hi) := by
  unfold cutV cutD
  rw [h.length]
  exact (h.drop _).take _
theorem DqAll.rev {H : Hp} {N : Addr → Prop} : ∀ {vs : List V} {ds : List PyData}, DqAll H N vs ds → DqAll H N vs.reverse ds.reverse
  | _, _, .nil => .nil
  | _, _, .cons h t => by
    rw [List.reverse_cons, List.reverse_cons]
    exact DqAll.app (.cons h .nil) t.rev
section
variable {N : Addr → Prop} {σ : L2.St} {H0 : Hp} {K : PySem.W.Frag}
theorem mk_listT (nw : ∀ p, H0 p = none → N p) {te : TE} {ds : List PyData} (h : Mk N σ H0 te (.tuple ds)) : Mk N σ H0 (tCB (fun xs H_1 Q => ∃ p ys, xs = [V.ref p] ∧ (SqL K H_1 p ys ∨ SqT K H_1 p ys) ∧ ∀ (l : Addr), H_1 l = none → Q (V.ref l) (upd H_1 l (HO.lst ys))) (tCons te tNil)) (.list ds) := fun H Q s q => h H _ s fun H1 v s1 e1 => by
  obtain ⟨a, xs, rfl, na, ra, hx⟩ := e1.tup_inv
  exact ⟨a, xs, rfl, .inr (.inl ra.rd), fun l hl => q _ _ (s1.trans (Same.upd_new hl)) (.lst (nw _ ((s.trans s1).free hl)) (.inl upd_same) (hx.same (Same.upd_new hl)))⟩
theorem mk_catT (nw : ∀ p, H0 p = none → N p) {t1 t2 : TE} {as bs : List PyData} (h1 : Mk N σ H0 t1 (.tuple as)) (h2 : Mk N σ H0 t2 (.tuple bs)) (hl : as.length + bs.length ≤ sizeLine) : Mk N σ H0 (tOp (rCatA K) t1 t2) (.tuple (as ++ bs)) := fun H Q s q => h1 H _ s fun H1 v s1 e1 => h2 H1 _ (s.trans s1) fun H2 u s2 e2 => by
  obtain ⟨a, xs, rfl, na, ra, hx⟩ := (e1.same s2).tup_inv
  obtain ⟨b, ys, rfl, nb, rb, hy⟩ := e2.tup_inv
  have l1 := hx.length
  have l2 := hy.length
  have j := hy.app hx
  refine ⟨a, b, xs, ys, rfl, rfl, .inl ra.rd, .inl rb.rd, by omega, fun e => ?_, fun _ e => ?_, fun _ _ p hp => ?_⟩
  · subst e
    exact q _ _ (s1.trans s2) (.tup nb rb j)
  · subst e
    rw [List.append_nil] at j
    exact q _ _ (s1.trans s2) (.tup na ra j)
  · exact q _ _ ((s1.trans s2).trans (Same.upd_new hp)) (.tup (nw _ (((s.trans s1).trans s2).free hp)) (.inl upd_same) (j.same (Same.upd_new hp)))
theorem mk_sl (nw : ∀ p, H0 p = none → N p) {te : TE} {tl th : TO} {ds : List PyData} (lo hi : Option Int) (h : Mk N σ H0 te (.tuple ds)) (el : ∀ H Q, Q lo H → tl σ H Q) (eh : ∀ H Q, Q hi H → th σ H Q) : Mk N σ H0 (tSl (rSlA K) te tl th) (.tuple (cutD ds lo hi)) := fun H Q s q => h H _ s fun H1 v s1 e1 => by
  obtain ⟨a, xs, rfl, na, ra, hx⟩ := e1.tup_inv
  have j := hx.cut lo hi
  refine el _ _ (eh _ _ ⟨a, xs, rfl, .inl ra.rd, fun hw => ?_, fun _ p hp => ?_⟩)
  · have e : cutV xs lo hi = xs := by
      unfold cutV
      rw [hw.1, hw.2, List.drop_zero, Nat.sub_zero, List.take_of_length_le (Nat.le_refl _)]
    rw [e] at j
    exact q _ _ s1 (.tup na ra j)
  · exact q _ _ (s1.trans (Same.upd_new hp)) (.tup (nw _ ((s.trans s1).free hp)) (.inl upd_same) (j.same (Same.upd_new hp)))
theorem mk_revT (nw : ∀ p, H0 p = none → N p) {te : TE} {ds : List PyData} (h : Mk N σ H0 te (.tuple ds)) : Mk N σ H0 (tRevT K te) (.tuple ds.reverse) := fun H Q s q => h H _ s fun H1 v s1 e1 => by
  obtain ⟨a, xs, rfl, na, ra, hx⟩ := e1.tup_inv
  exact ⟨a, xs, rfl, .inl ra.rd, fun p hp => q _ _ (s1.trans (Same.upd_new hp)) (.tup (nw _ ((s.trans s1).free hp)) (.inl upd_same) (hx.rev.same (Same.upd_new hp)))⟩
theorem mk_d01 (nw : ∀ p, H0 p = none → N p) : Mk N σ H0 (tDisp [(tC (.int 0), tC (.int 1))]) (.dict [(.int 0, .int 1)]) := fun H Q s q p hp => by
  have s1 := Same.upd_new (o := .dK []) hp
  refine ⟨upd_same, [(.inl 0, .int 1)], rfl, by show (1 : Nat) ≤ 15; decide, ?_⟩
  have st : Same H (upd (upd H p (.dK [])) p (.dK (mergeK [] [(.inl 0, .int 1)]))) := fun b o e => by
    rw [upd_ne (ne_of_none e hp)]
    exact s1 _ _ e
  exact q _ _ st (.dict (kvs := [(.inl 0, .int 1)]) (nw _ (s.free hp)) upd_same rfl (.cons (.int 1) .nil))
theorem mk_cats {t1 t2 : TE} {x y : Str} (h1 : Mk N σ H0 t1 (.str x)) (h2 : Mk N σ H0 t2 (.str y)) (hl : x.length + y.length ≤ sizeLine) : Mk N σ H0 (tOp (fun x y H Q => ∃ i j, x = .str i ∧ y = .str j ∧ i.length + j.length ≤ sizeLine ∧ Q (.str (i ++ j)) H) t1 t2) (.str (x ++ y)) := fun H Q s q => h1 H _ s fun H1 v s1 e1 => h2 H1 _ (s.trans s1) fun H2 w s2 e2 => by
  cases e1
  cases e2
  exact ⟨_, _, rfl, rfl, hl, q _ _ (s1.trans s2) (.str _)⟩
theorem mk_slS {te : TE} {tl th : TO} {x : Str} (lo hi : Option Int) (h : Mk N σ H0 te (.str x)) (hl : x.length ≤ sizeLine) (el : ∀ H Q, Q lo H → tl σ H Q) (eh : ∀ H Q, Q hi H → th σ H Q) : Mk N σ H0 (tSl C8.rSlX te tl th) (.str (Txt.slice x lo hi)) := fun H Q s q => h H _ s fun H1 v s1 e1 => by
  cases e1
  exact el _ _ (eh _ _ ⟨_, rfl, hl, q _ _ s1 (.str _)⟩)
theorem mk_up {te : TE} {x : Str} (h : Mk N σ H0 te (.str x)) (hl : x.length ≤ 5592405) : Mk N σ H0 (tBM0 K "str" (fun x xs H Q => ∃ a, x = .str a ∧ xs = [] ∧ a.length ≤ 5592405 ∧ Q (.str (Txt.upper a)) H) te) (.str (Txt.upper x)) := fun H Q s q => h H _ s fun H1 v s1 e1 => by
  cases e1
  exact ⟨rfl, _, rfl, rfl, hl, q _ _ s1 (.str _)⟩
/-- a place of a tuple display -/
theorem ixT_mk {ta : TA} {Ds : List PyData} {k i : Nat} {H : Hp} {Q : VK} (h : MkA N σ H ta Ds) (hl : Ds.length ≤ sizeLine) (hs : σ[k]? = some (some (.int (i : Int)))) (hi : i < Ds.length) (q : ∀ H' v D, Same H H' → Dq H' N v D → D ∈ Ds → Q v H') : tOp (rIx K) (tTup ta) (tVar k) σ H Q :=
  h H _ (Same.refl _) fun H1 vs s1 e1 => ⟨by rw [e1.length]; exact hl, fun p hp => by
    have s2 := Same.upd_new (o := .tup vs) hp
    have l := e1.length
    obtain ⟨x, hx⟩ : ∃ x, vs[i]? = some x := ⟨_, List.getElem?_eq_getElem (by omega)⟩
    obtain ⟨D, hD, dx⟩ := e1.get (List.mem_of_getElem? hx)
    exact ⟨_, hs, .inr (.inl ⟨p, vs, (i : Int), x, rfl, rfl, SqT.of upd_same, atI_nat hx, q _ _ D (s1.trans s2) (dx.same s2) hD⟩)⟩⟩
/-- a place of a list and a list display, joined -/
theorem ixC_mk {ta : TA} {Ds Es : List PyData} {k j i : Nat} {p : Addr} {xs : List V} {H : Hp} {Q : VK} (hj : σ[j]? = some (some (.ref p))) (hp : H p = some (.lst xs)) (hx : DqAll H N xs Es) (h : MkA N σ H ta Ds) (hl : Es.length + Ds.length ≤ sizeLine) (hs : σ[k]? = some (some (.int (i : Int)))) (hi : i < Es.length + Ds.length) (q : ∀ H' v D, Same H H' → Dq H' N v D → D ∈ Es ++ Ds → Q v H') : tOp (rIx K) (tOp rCat (tVar j) (tLst ta)) (tVar k) σ H Q := by
  have l1 := hx.length
  refine ⟨_, hj, h H _ (Same.refl _) fun H1 vs s1 e1 => ⟨by rw [e1.length]; omega, fun r hr => ?_⟩⟩
  have s2 := Same.upd_new (o := .lst vs) hr
  have l2 := e1.length
  refine ⟨p, r, xs, vs, rfl, rfl, s2 _ _ (s1 _ _ hp), upd_same, by omega, fun u hu => ?_⟩
  have s3 := Same.upd_new (o := .lst (xs ++ vs)) hu
  have ea := ((e1.same s2).app (hx.same (s1.trans s2))).same s3
  obtain ⟨x, hx3⟩ : ∃ x, (xs ++ vs)[i]? = some x := ⟨_, List.getElem?_eq_getElem (by rw [List.length_append]; omega)⟩
  obtain ⟨D, hD, dx⟩ := ea.get (List.mem_of_getElem? hx3)
  exact ⟨_, hs, .inl ⟨u, _, (i : Int), x, rfl, rfl, SqL.of upd_same, atI_nat hx3, q _ _ D ((s1.trans s2).trans s3) dx hD⟩⟩
end
theorem pick_mk {K : PySem.W.Frag} {σ : L2.St} {ta : TA} {Ds : List PyData} {H : Hp} {d l : Addr} {k : Nat} {Q : VK} (h : MkA (Off d l) σ H ta Ds) (hl : Ds.length ≤ sizeLine) (h0 : 0 < Ds.length) (h64 : Ds.length < 2 ^ 64) (hd : σ[k]? = some (some (.ref d))) (D : DeckAt H d l)
    (q : ∀ H' v DD, DeckAt H' d l → But d l H H' → Dq H' (Off d l) v DD → DD ∈ Ds → Q v H') : tCall (sp_pick K) [] E0 (tCons (tVar k) (tCons (tLst ta) tNil)) σ H Q := by
  refine ⟨_, hd, h H _ (Same.refl _) fun H1 vs s1 e1 => ⟨by rw [e1.length]; exact hl, fun p hp => ?_⟩⟩
  have s2 := Same.upd_new (o := .lst vs) hp
  refine ⟨d, l, p, vs, rfl, D.same (s1.trans s2), .inl ⟨upd_same, ((D.same s1).new hp).2⟩, by rw [e1.length]; exact h0, by rw [e1.length]; exact h64, fun H' v D' b' hv => ?_⟩
  obtain ⟨DD, hD, dq⟩ := e1.get hv
  exact q H' v DD D' ((But.of (s1.trans s2)).trans b') ((dq.same s2).but b') hD
/-- a pick of a list and a list display, joined -/
theorem pick_cat {K : PySem.W.Frag} {σ : L2.St} {ta : TA} {Ds Es : List PyData} {H : Hp} {d l p : Addr} {k j : Nat} {xs : List V} {Q : VK} (hj : σ[j]? = some (some (.ref p))) (hp : H p = some (.lst xs)) (hx : DqAll H (Off d l) xs Es) (h : MkA (Off d l) σ H ta Ds) (hl : Es.length + Ds.length ≤ sizeLine) (h0 : 0 < Es.length) (h64 : Es.length + Ds.length < 2 ^ 64) (hd : σ[k]? = some (some (.ref d))) (D : DeckAt H d l)
    (q : ∀ H' v DD, DeckAt H' d l → But d l H H' → Dq H' (Off d l) v DD → DD ∈ Es ++ Ds → Q v H') : tCall (sp_pick K) [] E0 (tCons (tVar k) (tCons (tOp rCat (tVar j) (tLst ta)) tNil)) σ H Q := by
  have l1 := hx.length
  refine ⟨_, hd, _, hj, h H _ (Same.refl _) fun H1 vs s1 e1 => ⟨by rw [e1.length]; omega, fun r hr => ?_⟩⟩
  have s2 := Same.upd_new (o := .lst vs) hr
  have l2 := e1.length
  refine ⟨p, r, xs, vs, rfl, rfl, s2 _ _ (s1 _ _ hp), upd_same, by omega, fun u hu => ?_⟩
  have s3 := Same.upd_new (o := .lst (xs ++ vs)) hu
  have ss := (s1.trans s2).trans s3
  have ea := ((e1.same s2).app (hx.same (s1.trans s2))).same s3
  refine ⟨d, l, u, xs ++ vs, rfl, D.same ss, .inl ⟨upd_same, ((D.same (s1.trans s2)).new hu).2⟩, by rw [List.length_append]; omega, by rw [List.length_append]; omega, fun H' v D' b' hv => ?_⟩
  obtain ⟨DD, hD, dq⟩ := ea.get hv
  exact q H' v DD D' ((But.of ss).trans b') (dq.but b') hD
theorem cat_dq {N : Addr → Prop} {K : PySem.W.Frag} {H : Hp} {x y : V} {as bs : List PyData} {Q : VK} (nw : ∀ p, H p = none → N p) (h1 : Dq H N x (.tuple as)) (h2 : Dq H N y (.tuple bs)) (hl : as.length + bs.length ≤ sizeLine) (q : ∀ H' v, Same H H' → Dq H' N v (.tuple (as ++ bs)) → Q v H') : rCatA K x y H Q := by
  obtain ⟨a, xs, rfl, na, ra, hx⟩ := h1.tup_inv
  obtain ⟨b, ys, rfl, nb, rb, hy⟩ := h2.tup_inv
  have l1 := hx.length
  have l2 := hy.length
  have j := hy.app hx
  refine ⟨a, b, xs, ys, rfl, rfl, .inl ra.rd, .inl rb.rd, by omega, fun e => ?_, fun _ e => ?_, fun _ _ p hp => ?_⟩
  · subst e
    exact q _ _ (Same.refl _) (.tup nb rb j)
  · subst e
    rw [List.append_nil] at j
    exact q _ _ (Same.refl _) (.tup na ra j)
  · exact q _ _ (Same.upd_new hp) (.tup (nw _ hp) (.inl upd_same) (j.same (Same.upd_new hp)))
theorem sq_tup {k m : Nat} {ds : List PyData} (h : Sq (k + 1) m (.tuple ds)) : SqA k m ds := by
  refine ⟨h.show_, ?_, h.short, ?_⟩
  · have := h.depth
    have e : PyData.depth (.tuple ds) = PyData.depthAll ds + 1 := rfl
    omega
  · have := h.bulk
    simp only [PyData.bulk] at this
    omega
theorem sqa_mem {k m : Nat} {ds : List PyData} (h : SqA k m ds) {d : PyData} (hd : d ∈ ds) : Sq k m d := by
  obtain ⟨h1, h2⟩ := sqa_iff.mp h
  have := h1 d hd
  refine ⟨this.1, this.2.1, this.2.2, ?_⟩
  have key : ∀ {ds : List PyData}, d ∈ ds → d.bulk ≤ PyData.bulkAll ds := fun {ds} hm => by
    induction ds with
    | nil => cases hm
    | cons e es ih =>
      simp only [PyData.bulkAll]
      rcases List.mem_cons.mp hm with rfl | hm
      · omega
      · have := ih hm; omega
  exact Nat.le_trans (key hd) h2
theorem eqv_nil' (ds : List PyData) : PyData.eqv (.tuple ds) (.tuple []) = ds.isEmpty := by cases ds <;> rfl
theorem SqA.up {k m k' m' : Nat} {ds : List PyData} (h : SqA k m ds) (h1 : k ≤ k') (h2 : m ≤ m') : SqA k' m' ds := ⟨h.show_, Nat.le_trans h.depth h1, h.short, Nat.le_trans h.bulk h2⟩
/-- a value within a piece, bent -/
structure Lf (D : PyData) : Prop where
  sq : Sq 5 300 D
  int : ∀ n, D = .int n → n.natAbs < 2 ^ 1000
def lfB (D : PyData) : Bool := sqB D && (match D with | .int n => decide (n.natAbs < 2 ^ 1000) | _ => true)
theorem lf_of {D : PyData} (h : lfB D = true) : Lf D := by
  unfold lfB at h
  obtain ⟨h1, h2⟩ := Bool.and_eq_true_iff.mp h
  refine ⟨sq_of h1, fun n e => ?_⟩
  subst e
  exact of_decide_eq_true h2
theorem lf_int {z : Int} (h : z.natAbs < 2 ^ 1000) : Lf (.int z) := ⟨(rs_int (k := 0) (m := 0) (Nat.lt_trans h (by decide))).q.mono (by decide) (by decide), fun n e => by cases e; exact h⟩
theorem lf_digits {z : Int} (h : z.natAbs < 10 ^ 28) : Lf (.str (Str.ofString (toString z))) := by
  refine ⟨⟨by rfl, by show (0 : Nat) ≤ 5; decide, str_short _, ?_⟩, fun n e => by cases e⟩
  exact Nat.le_trans (digits_len h) (by decide)
/-- a value beside a piece -/
structure Th (D : PyData) : Prop where
  sq : Sq 8 900 D
  sm : smallI D
def thB (D : PyData) : Bool := sqB D && (match D with | .tuple ds => ds.all (fun d => match d with | .int n => decide (n.natAbs < 2 ^ 1000) | _ => true) | _ => true)
theorem th_of {D : PyData} (h : thB D = true) : Th D := by
  unfold thB at h
  obtain ⟨h1, h2⟩ := Bool.and_eq_true_iff.mp h
  refine ⟨(sq_of h1).mono (by decide) (by decide), fun ds z e hz => ?_⟩
  subst e
  have := List.all_eq_true.mp h2 _ hz
  exact Nat.lt_trans (of_decide_eq_true this) (by decide)
theorem Th.rep {D : PyData} (h : Th D) : RepQ D := h.sq.rep (by decide) (by decide)
theorem th_tup {m : Nat} {ds : List PyData} (h : SqA 7 m ds) (hm : m ≤ 898) (hs : ∀ z, PyData.int z ∈ ds → z.natAbs < 2 ^ 1900) : Th (.tuple ds) := ⟨(Sq.tup h).mono (by decide) (by omega), fun es z e hz => by cases e; exact hs z hz⟩
end Ft

set_option exponentiation.threshold 9000
namespace Ft
open PySem L2
section
variable {P : Program} {w : World} {K : PySem.W.Frag} {mg : Str → Option Value} {base : Heap}
theorem ok_lisint (D : Df K mg "_law_is_integer" s__law_is_integer ["_law_thing"]) (B : Bi mg) : Cal P w K mg base 1 "_law_is_integer" sp_isIntQ := by
  obtain ⟨f, fd, F, m, b⟩ := D.ex
  have sc := sc__law_is_integer
  refine ⟨f, fd, _, F.ok sc (fun _ _ _ _ ⟨_, _, _, e, _⟩ => by rw [e]; rfl) (fun cdv A outer s H vs Q E hr h => ?_), m, F.kp, b⟩
  obtain ⟨v, d, N, rfl, hd, q⟩ := h
  refine ⟨_, (pss_one (ps_ret (pe_and (pe_callB call_isi (by rfl) B.isinstance (by decide +kernel) (pa_cons (pv 0) (pa_cons (pe_ty (n := "int") (by rfl) B.int_ (by decide +kernel)) pa_nil))) (pe_one (pe_not (pe_callB call_isi (by rfl) B.isinstance (by decide +kernel) (pa_cons (pv 0) (pa_cons (pe_ty (n := "bool") (by rfl) B.bool (by decide +kernel)) pa_nil)))))))), ?_⟩
  refine ⟨_, rfl, _, _, _, _, _, rfl, .ty _, hd.ty, kit_intD d, _, rfl, ?_⟩
  cases hi : (isIntD d || isBoolD d) with
  | false =>
    rw [(Bool.or_eq_false_iff.mp hi).1] at q
    exact iteF q
  | true =>
    refine iteT ⟨_, rfl, _, _, _, _, _, rfl, .ty _, hd.ty, kit_boolD d, _, rfl, ?_⟩
    have e : isIntD d = !isBoolD d := by cases d <;> first | rfl | cases hi
    rw [e] at q
    exact q
end
end Ft

set_option exponentiation.threshold 9000
namespace Ft
open PySem L2
def pln : Nat → PyData → Prop
  | 0, _ => False
  | _ + 1, .int z => z.natAbs < 10 ^ 28
  | _ + 1, .str x => (PyData.str x).canLay0 = true
  | n + 1, .tuple ds => ds.length ≤ 100 ∧ ∀ d ∈ ds, pln n d
  | _ + 1, _ => False
theorem dps_of {K : PySem.W.Frag} {H : Hp} {N : Addr → Prop} {p : PyData → Prop} (r : ∀ {v : V} {D : PyData}, p D → Dq H N v D → Dp K H v D) : ∀ {vs : List V} {ds : List PyData}, (∀ d ∈ ds, p d) → DqAll H N vs ds → DpAll K H vs ds
  | _, [], _, h => by cases h; exact .nil
  | _, d :: ds, q, h => by
    cases h with
    | cons a b => exact .cons (r (q d List.mem_cons_self) a) (dps_of r (fun e he => q e (List.mem_cons_of_mem _ he)) b)
theorem pln_dp {K : PySem.W.Frag} {H : Hp} {N : Addr → Prop} : ∀ (n : Nat) {v : V} {D : PyData}, pln n D → Dq H N v D → Dp K H v D
  | n + 1, v, .int z, _, h => by cases h; exact .int z
  | n + 1, v, .str x, _, h => by cases h; exact .str x
  | n + 1, v, .tuple ds, p, h => by
    obtain ⟨a, xs, rfl, na, ra, hx⟩ := h.tup_inv
    exact .tup (.inl ra.rd) (dps_of (pln_dp n) p.2 hx)
theorem pln_lay : ∀ (n : Nat) {D : PyData}, pln n D → D.canLay0 = true
  | n + 1, .int z, _ => rfl
  | n + 1, .str x, p => p
  | n + 1, .tuple ds, p => by
    have p2 : ∀ d ∈ ds, pln n d := p.2
    show PyData.canLayAll0 ds = true
    clear p
    induction ds with
    | nil => rfl
    | cons d ds ih =>
      show (d.canLay0 && PyData.canLayAll0 ds) = true
      rw [pln_lay n (p2 d List.mem_cons_self), ih fun e he => p2 e (List.mem_cons_of_mem _ he)]
      rfl

/-- an int, or a tuple of up to nine such, n deep -/
def BG : Nat → PyData → Prop
  | 0, D => ∃ z : Int, D = .int z ∧ z.natAbs < 10 ^ 28
  | n + 1, D => ∃ ds : List PyData, D = .tuple ds ∧ 1 ≤ ds.length ∧ ds.length ≤ 9 ∧ ∀ e ∈ ds, BG n e
def iB : Nat → Nat
  | 0 => 1
  | n + 1 => 9 * (iB n + 2) + 2
theorem bg_pln : ∀ (n : Nat) {D : PyData}, BG n D → pln (n + 1) D
  | 0, _, ⟨z, e, h⟩ => by subst e; exact h
  | n + 1, _, ⟨ds, e, _, h9, h⟩ => by subst e; exact ⟨by omega, fun d hd => bg_pln n (h d hd)⟩
theorem bg_int : ∀ {n : Nat} {z : Int}, BG n (.int z) → z.natAbs < 10 ^ 28
  | 0, _, ⟨_, e, h⟩ => by cases e; exact h
  | _ + 1, _, ⟨_, e, _⟩ => by cases e
theorem sqa_all {k m : Nat} : ∀ {ds : List PyData}, (∀ e ∈ ds, Sq k m e) → SqA k (ds.length * (m + 2)) ds
  | [], _ => SqA.nil.up (Nat.zero_le _) (Nat.zero_le _)
  | d :: ds, h => (SqA.cons (h d List.mem_cons_self) (sqa_all fun e he => h e (List.mem_cons_of_mem _ he))).up (Nat.le_refl _) (by rw [List.length_cons, Nat.add_mul]; omega)
theorem bg_sq : ∀ (n : Nat) {D : PyData}, BG n D → Sq n (iB n) D
  | 0, _, ⟨z, e, h⟩ => by subst e; exact (rs_int (k := 0) (m := 0) (Nat.lt_trans h (by decide))).q
  | n + 1, _, ⟨ds, e, _, h9, h⟩ => by
    subst e
    exact (Sq.tup (sqa_all fun e he => bg_sq n (h e he))).mono (Nat.le_refl _) (Nat.add_le_add_right (Nat.mul_le_mul_right _ h9) 2)
/-- what is bent, n deep -/
structure Be (n : Nat) (D : PyData) : Prop where
  sq : Sq (5 + n) (1000 * (n + 1)) D
  int : ∀ z, D = .int z → z.natAbs < 2 ^ 100
  tup : ∀ ds z, D = .tuple ds → PyData.int z ∈ ds → z.natAbs < 2 ^ 100
def beB (D : PyData) : Bool := sqB D && (match D with | .int n => decide (n.natAbs < 2 ^ 100) | .tuple ds => ds.all (fun d => match d with | .int n => decide (n.natAbs < 2 ^ 100) | _ => true) | _ => true)
theorem be_of {n : Nat} {D : PyData} (h : beB D = true) : Be n D := by
  unfold beB at h
  obtain ⟨h1, h2⟩ := Bool.and_eq_true_iff.mp h
  refine ⟨(sq_of h1).mono (by omega) (by omega), fun z e => ?_, fun ds z e hz => ?_⟩
  · subst e
    exact of_decide_eq_true h2
  · subst e
    exact of_decide_eq_true (List.all_eq_true.mp h2 _ hz)
theorem be_tup {n m : Nat} {es : List PyData} (h : SqA (4 + n) m es) (hm : m + 2 ≤ 1000 * (n + 1)) (hz : ∀ z, PyData.int z ∈ es → z.natAbs < 2 ^ 100) : Be n (.tuple es) := ⟨(Sq.tup h).mono (by omega) hm, fun z e => (by cases e), fun ds z e h => (by cases e; exact hz z h)⟩
def sp_no : Sp := fun _ _ _ _ => False
def sp_bg (n : Nat) : Sp := fun vs H Q _ => ∃ (d l : Addr) (v : V) (D : PyData), vs = [.ref d, v, .int (n : Int)] ∧ DeckAt H d l ∧ Dq H (Off d l) v D ∧ BG n D ∧ ∀ H' v' D', DeckAt H' d l → But d l H H' → Dq H' (Off d l) v' D' → Be n D' → Q v' H'
section
variable {P : Program} {w : World} {K : PySem.W.Frag} {mg : Str → Option Value} {base : Heap}
theorem ok_bent0 (D : Df K mg "_law_bent" s__law_bent ["_law_deck_here", "_law_thing", "_law_depth"]) : Cal P w K mg base 3 "_law_bent" sp_no := by
  obtain ⟨f, fd, F, m, b⟩ := D.ex
  exact ⟨f, fd, _, ⟨fun _ _ _ _ h => h.elim, fun _ _ _ _ _ _ _ _ _ _ _ _ _ h => h.elim⟩, m, F.kp, b⟩
theorem ok_bgL (D : Df K mg "_law_bent" s__law_bent ["_law_deck_here", "_law_thing", "_law_depth"]) (B : Bi mg) (c__law_draw : Cal P w K mg base 1 "_law_draw" sp_draw) (c__law_bent : Cal P w K mg base 3 "_law_bent" sp_no) (c__law_is_integer : Cal P w K mg base 1 "_law_is_integer" sp_isIntQ) (c__law_pick : Cal P w K mg base 2 "_law_pick" (sp_pick K)) : Cal P w K mg base 4 "_law_bent" (sp_bg 0) := by
  obtain ⟨f, fd, F, m, b⟩ := D.ex
  have sc := sc__law_bent
  refine ⟨f, fd, _, F.ok sc (fun _ _ _ _ ⟨_, _, _, _, e, _⟩ => by rw [e]; rfl) (fun cdv A outer s H vs Q E hr h => ?_), m, F.kp, b⟩
  obtain ⟨d, l, v, D, rfl, D0, hv0, ⟨z, rfl, zB⟩, q⟩ := h
  cases hv0
  have h64 : (A.deeper (PyProof.Rows.envOfC "_law_bent" (defScope s__law_bent) s.heap.objs.size f cdv)).units + 64 < cLine := by have := hr.un; omega
  refine ⟨_, (pss_cons (ps_if (PW.pt (pw_and (pt_val (pe_callB (id := "isinstance") (r := rIsi K) call_isi (by rfl) B.isinstance (by decide +kernel) (pa_cons (pv 1) (pa_cons (pe_ty (n := "tuple") (by rfl) B.tuple (by decide +kernel)) pa_nil)))) (pw_and (pt_cmpR (op_neD h64) (pv 1) (pe_tup pa_nil) (nomark _)) (pw_and (pt_cmpR op_gt (pv 2) pe_int (nomark _)) (pw_and1 (pt_cmpR op_gt (pe_c c__law_draw hr (by decide) (by rfl) (pa_cons (pv 0) (pa_cons pe_int pa_nil))) pe_int (nomark _)))))))
      (pss_cons (ps_set (i := 3) sc.nd rfl (Or.inl rfl) (pe_c c__law_draw hr (by decide) (by rfl) (pa_cons (pv 0) (pa_cons (pe_callB call_len_seq (by rfl) B.len_ (by decide +kernel) (pa_cons (pv 1) pa_nil)) pa_nil))))
        (pss_one (ps_ret (pe_op op_catA (pe_op op_catA (pe_slice sl_tupA (pv 1) po_none (po_some (pv 3))) (pe_tup (pa_cons (pe_c c__law_bent hr (by decide) (by rfl) (pa_cons (pv 0) (pa_cons (pe_ix (show IxR _ (rIx K) from ix_seq) (pv 1) (pv 3) (fun _ _ => rfl)) (pa_cons (pe_op op_sub (pv 2) pe_int) pa_nil)))) pa_nil))) (pe_slice sl_tupA (pv 1) (po_some (pe_op op_add (pv 3) pe_int)) po_none)))))
      pss_nil)
      (pss_cons (ps_par (i := 4) (j := 3) (by rfl) sc.nd rfl rfl (by decide) rfl rfl (pa_cons (pe_c c__law_draw hr (by decide) (by rfl) (pa_cons (pv 0) (pa_cons pe_int pa_nil))) (pa_cons pe_int pa_nil)) (by rfl))
      (pss_cons (ps_if (PW.pt (pw_and (pt_val (pe_callB (id := "isinstance") (r := rIsi K) call_isi (by rfl) B.isinstance (by decide +kernel) (pa_cons (pv 1) (pa_cons (pe_ty (n := "tuple") (by rfl) B.tuple (by decide +kernel)) pa_nil)))) (pw_and1 (pt_cmpR op_lt (pv 4) pe_int (nomark _)))))
      (pss_cons (ps_set (i := 3) sc.nd rfl (Or.inl rfl) (pe_c c__law_draw hr (by decide) (by rfl) (pa_cons (pv 0) (pa_cons (pe_op op_add (pe_callB call_len_seq (by rfl) B.len_ (by decide +kernel) (pa_cons (pv 1) pa_nil)) pe_int) pa_nil))))
        (pss_cons (ps_set (i := 5) sc.nd rfl (Or.inl rfl) (pe_lst (pa_cons (pe_callTy call_list_of (by rfl) B.list (by decide +kernel) (pa_cons (pv 1) pa_nil)) (pa_cons (pe_op op_catA (pe_slice sl_tupA (pv 1) po_none (po_some (pv 3))) (pe_slice sl_tupA (pv 1) (po_some (pe_op op_add (pv 3) pe_int)) po_none)) (pa_cons (pe_op op_catA (pe_op op_catA (pe_slice sl_tupA (pv 1) po_none (po_some (pv 3))) (pe_slice sl_tupA (pv 1) (po_some (pv 3)) (po_some (pe_op op_add (pv 3) pe_int)))) (pe_slice sl_tupA (pv 1) (po_some (pv 3)) po_none)) (pa_cons (pe_revT (pv 1)) pa_nil))))))
        (pss_one (ps_ret (pe_ix (show IxR _ (rIx K) from ix_seq) (pe_op op_cat (pv 5) (pe_lst (pa_cons (pe_op op_catA (pe_slice sl_tupA (pv 1) (po_some (pv 3)) po_none) (pe_slice sl_tupA (pv 1) po_none (po_some (pv 3)))) (pa_cons (pe_op op_catA (pv 1) (pe_tup (pa_cons pe_int pa_nil))) pa_nil)))) (pv 4) (fun _ _ => rfl))))))
      pss_nil)
      (pss_cons (ps_if (PW.pt (pw_and (pt_val (pe_c c__law_is_integer hr (by decide) (by rfl) (pa_cons (pv 1) pa_nil))) (pw_and1 (pt_cmpR op_lt (pv 4) pe_int (nomark _)))))
      (pss_one (ps_ret (pe_ix (show IxR _ (rIx K) from ix_seq) (pe_tup (pa_cons (pe_op op_add (pv 1) pe_int) (pa_cons (pe_op op_sub (pv 1) pe_int) (pa_cons (pe_un un_neg (pv 1)) (pa_cons (pe_cmpR op_eq (pv 1) pe_int (nomark _)) (pa_cons (pe_tup (pa_cons (pv 1) pa_nil)) (pa_cons (pe_callTy call_str_int (by rfl) B.str (by decide +kernel) (pa_cons (pv 1) pa_nil)) pa_nil))))))) (pv 4) (fun _ _ => rfl))))
      pss_nil)
      (pss_cons (ps_if (PW.pt (pw_and (pt_val (pe_callB (id := "isinstance") (r := rIsi K) call_isi (by rfl) B.isinstance (by decide +kernel) (pa_cons (pv 1) (pa_cons (pe_ty (n := "str") (by rfl) B.str (by decide +kernel)) pa_nil)))) (pw_and1 (pt_cmpR op_lt (pv 4) pe_int (nomark _)))))
      (pss_one (ps_ret (pe_ix (show IxR _ (rIx K) from ix_seq) (pe_tup (pa_cons (pe_op op_add_str (pv 1) pe_str) (pa_cons (pe_slice C8.sl_txt (pv 1) po_none (po_some (pe_un un_neg pe_int))) (pa_cons (pe_bm0 PySem.F.plainAttrs_str PySem.F.slot_str_upper PySem.F.type_str_upper mt_upper (pv 1)) pa_nil)))) (pv 4) (fun _ _ => rfl))))
      pss_nil)
      (pss_cons (ps_set (i := 6) sc.nd rfl (Or.inl rfl) (pe_lst (pa_cons pe_non (pa_cons pe_bl (pa_cons pe_bl (pa_cons (pe_tup pa_nil) (pa_cons pe_str (pa_cons pe_int (pa_cons pe_int (pa_cons (pe_un un_neg pe_int) (pa_cons pe_int (pa_cons (pe_tup (pa_cons pe_int pa_nil)) (pa_cons (pe_lst (pa_cons pe_int pa_nil)) (pa_cons (pe_dnewK) (pa_cons (pe_disp (pps_cons pe_int pe_int pps_nil) (by rfl) (by rfl) (fun z => by cases z) (by decide)) (pa_cons pe_str (pa_cons (pe_op op_pow pe_int pe_int) (pa_cons (pe_tup (pa_cons (pe_tup (pa_cons pe_int (pa_cons pe_int pa_nil))) (pa_cons (pe_tup (pa_cons pe_int (pa_cons pe_int pa_nil))) pa_nil))) (pa_cons (pe_lst pa_nil) (pa_cons pe_str pa_nil))))))))))))))))))))
      (pss_one (ps_ret (pe_c c__law_pick hr (by decide) (by rfl) (pa_cons (pv 0) (pa_cons (pe_op op_cat (pv 6) (pe_lst (pa_cons (pe_tup (pa_cons pe_str (pa_cons pe_int (pa_cons pe_int (pa_cons pe_int (pa_cons pe_int pa_nil)))))) (pa_cons (pe_un un_neg (pe_op op_pow pe_int pe_int)) (pa_cons (pe_tup (pa_cons pe_int (pa_cons pe_int pa_nil))) (pa_cons (pe_lst (pa_cons (pe_tup (pa_cons pe_int (pa_cons pe_int pa_nil))) pa_nil)) (pa_cons (pe_tup (pa_cons (pe_tup (pa_cons pe_int pa_nil)) pa_nil)) (pa_cons (pe_tup (pa_cons pe_int (pa_cons (pe_tup (pa_cons pe_int (pa_cons pe_int pa_nil))) pa_nil))) (pa_cons (pe_tup (pa_cons pe_int (pa_cons pe_int pa_nil))) pa_nil))))))))) pa_nil))))))))))), ?_⟩
  have dv : ∀ {N : Addr → Prop} {H : Hp}, Dq H N (.int z) (.int z) := fun {N H} => .int z
  have hT : isTupD (.int z) = false := rfl
  refine ⟨_, rfl, _, _, _, _, isTupD (.int z), rfl, .ty _, (dv (N := Off d l)).ty, kit_tupD (.int z), _, rfl, ?_⟩
  rw [hT]
  refine iteF (iteF ?_)
  dsimp only [tNext]
  refine ⟨_, rfl, d, l, 8, rfl, D0, by decide, by decide, fun H1 way D1 b1 r0 r1 => ?_⟩
  refine ⟨_, _, rfl, ?_⟩
  dsimp only
  refine ⟨_, rfl, _, _, _, _, isTupD (.int z), rfl, .ty _, (dv (N := Off d l)).ty, kit_tupD (.int z), _, rfl, ?_⟩
  rw [hT]
  refine iteF (iteF ?_)
  dsimp only [tNext]
  have nw1 : ∀ p, H1 p = none → Off d l p := fun p hp => D1.new hp
  refine ⟨_, rfl, .int z, .int z, Off d l, rfl, dv, _, rfl, ?_⟩
  obtain ⟨wn, rfl⟩ : ∃ i : Nat, way = (i : Int) := ⟨way.toNat, by omega⟩
  have s40 : ∀ n : Nat, n ≤ 100 → n ≤ sizeLine := fun n h => Nat.le_trans h (by decide)
  · have mv : ∀ {N : Addr → Prop} {H1 : Hp} {σ : L2.St}, σ[1]? = some (some (.int z)) → Mk N σ H1 (tVar 1) (.int z) := fun hs => mk_var hs (.int z)
    refine iteT ⟨_, rfl, _, _, rfl, rfl, _, rfl, ?_⟩
    by_cases h6 : wn < 6
    · rw [decide_eq_true (by omega)]
      refine iteT ?_
      refine ixT_mk (N := Off d l) (i := wn) (mka_cons (mk_i0 (mv rfl) mk_int) (mka_cons (mk_i0 (mv rfl) mk_int) (mka_cons (mk_neg (mv rfl)) (mka_cons (mk_eqI (mv rfl) mk_int) (mka_cons (mk_tup nw1 (mka_cons (mv rfl) mka_nil) (s40 _ (Nat.le_of_ble_eq_true rfl))) (mka_cons (mk_strI (mv rfl) ?_) mka_nil)))))) (s40 _ (Nat.le_of_ble_eq_true rfl)) rfl (show wn < 6 from h6) fun H2 v2 DD s2 dq hD => ?_
      · have := PySem.Flt.log2_lt_of (by decide) (show z.natAbs < 2 ^ 900 from Nat.lt_trans zB (by decide))
        omega
      refine q H2 v2 DD (D1.same s2) (b1.trans (But.of s2)) dq ?_
      simp only [List.mem_cons, List.not_mem_nil, or_false] at hD
      have up : (10 : Nat) ^ 28 + 1 < 2 ^ 100 := by decide
      have bi : ∀ {y : Int}, y.natAbs < 2 ^ 100 → Be 0 (.int y) := fun {y} hy => ⟨((rs_int (k := 0) (m := 0) (Nat.lt_trans hy (by decide))).q.mono (by decide) (by decide)), fun n e => by cases e; exact hy, fun ds n e => by cases e⟩
      rcases hD with rfl | rfl | rfl | rfl | rfl | rfl
      · exact bi (by omega)
      · exact bi (by omega)
      · exact bi (by omega)
      · cases decide (V.int z = V.int 1) <;> exact be_of (by decide +kernel)
      · exact be_tup ((SqA.cons (rs_int (k := 0) (m := 0) (show z.natAbs < 2 ^ 1900 from Nat.lt_trans zB (by decide))).q SqA.nil).up (by decide) (Nat.le_refl _)) (by decide) fun y hy => by
          cases (List.mem_singleton.mp hy)
          exact Nat.lt_trans zB (by decide)
      · have := lf_digits zB
        exact ⟨this.sq.mono (by decide) (by decide), fun n e => (by cases e), fun ds n e => (by cases e)⟩
    rw [decide_eq_false (by omega)]
    refine iteF ?_
    dsimp only [tNext]
    refine ⟨_, rfl, _, _, _, _, false, rfl, .ty _, .base (.int z), kit_tab (a := "int") (b := "str") false, _, rfl, iteF (iteF ?_)⟩
    dsimp only [tNext]
    refine' asg_lst (N := Off d l) (Ds := _) ?L1 ?L2 fun H5 vs1 p1 s1 e1 hp1 => ?_
    case L1 =>
      repeat' first
        | exact mka_nil
        | exact mk_non
        | exact mk_bl
        | exact mk_int
        | exact mk_st
        | exact mk_d0 nw1
        | exact mk_d01 nw1
        | refine' mka_cons ?_ ?_
        | refine' mk_tup nw1 ?_ ?_
        | refine' mk_lst nw1 ?_ ?_
        | refine' mk_neg ?_
        | refine' mk_pow ?_ ?_ ?_
      all_goals first | decide | exact ⟨by decide, by decide, by decide⟩
    case L2 => decide
    dsimp only [gName]
    have s2 := s1.trans (Same.upd_new (o := .lst vs1) hp1)
    have f1 := e1.same (Same.upd_new (o := .lst vs1) hp1)
    have g1 : (upd H5 p1 (.lst vs1)) p1 = some (.lst vs1) := upd_same
    generalize upd H5 p1 (.lst vs1) = H6 at s2 f1 g1
    have D2 := D1.same s2
    have nw2 : ∀ p, H6 p = none → Off d l p := fun p hp => D2.new hp
    refine' pick_cat (Ds := _) rfl g1 f1 ?L3 ?L4 (by decide) ?L5 rfl D2 fun H7 v7 DD D7 b7 dq7 h7 => ?_
    case L3 =>
      repeat' first
        | exact mka_nil
        | exact mk_int
        | exact mk_st
        | refine' mka_cons ?_ ?_
        | refine' mk_tup nw2 ?_ ?_
        | refine' mk_lst nw2 ?_ ?_
        | refine' mk_neg ?_
        | refine' mk_pow ?_ ?_ ?_
      all_goals first | decide | exact ⟨by decide, by decide, by decide⟩
    case L4 => decide
    case L5 => decide
    refine q H7 v7 DD D7 ((b1.trans (But.of s2)).trans b7) dq7 ?_
    exact be_of (List.all_eq_true.mp (show List.all _ beB = true by decide +kernel) DD h7)
theorem ok_bgS (n : Nat) (hc : 9 * (iB n + 2) ≤ 400) (hn64 : n + 1 ≤ 64) (D : Df K mg "_law_bent" s__law_bent ["_law_deck_here", "_law_thing", "_law_depth"]) (B : Bi mg) (c__law_draw : Cal P w K mg base 1 "_law_draw" sp_draw) (c__law_bent : Cal P w K mg base (4 + n) "_law_bent" (sp_bg n)) (c__law_is_integer : Cal P w K mg base 1 "_law_is_integer" sp_isIntQ) (c__law_pick : Cal P w K mg base 2 "_law_pick" (sp_pick K)) : Cal P w K mg base (4 + n + 1) "_law_bent" (sp_bg (n + 1)) := by
  obtain ⟨f, fd, F, m, b⟩ := D.ex
  have sc := sc__law_bent
  refine ⟨f, fd, _, F.ok sc (fun _ _ _ _ ⟨_, _, _, _, e, _⟩ => by rw [e]; rfl) (fun cdv A outer s H vs Q E hr h => ?_), m, F.kp, b⟩
  obtain ⟨d, l, v, D, rfl, D0, hv, hBG, q⟩ := h
  have h64 : (A.deeper (PyProof.Rows.envOfC "_law_bent" (defScope s__law_bent) s.heap.objs.size f cdv)).units + 64 < cLine := by have := hr.un; omega
  refine ⟨_, (pss_cons (ps_if (PW.pt (pw_and (pt_val (pe_callB (id := "isinstance") (r := rIsi K) call_isi (by rfl) B.isinstance (by decide +kernel) (pa_cons (pv 1) (pa_cons (pe_ty (n := "tuple") (by rfl) B.tuple (by decide +kernel)) pa_nil)))) (pw_and (pt_cmpR (op_neD h64) (pv 1) (pe_tup pa_nil) (nomark _)) (pw_and (pt_cmpR op_gt (pv 2) pe_int (nomark _)) (pw_and1 (pt_cmpR op_gt (pe_c c__law_draw hr (by omega) (by rfl) (pa_cons (pv 0) (pa_cons pe_int pa_nil))) pe_int (nomark _)))))))
      (pss_cons (ps_set (i := 3) sc.nd rfl (Or.inl rfl) (pe_c c__law_draw hr (by omega) (by rfl) (pa_cons (pv 0) (pa_cons (pe_callB call_len_seq (by rfl) B.len_ (by decide +kernel) (pa_cons (pv 1) pa_nil)) pa_nil))))
        (pss_one (ps_ret (pe_op op_catA (pe_op op_catA (pe_slice sl_tupA (pv 1) po_none (po_some (pv 3))) (pe_tup (pa_cons (pe_c c__law_bent hr (by omega) (by rfl) (pa_cons (pv 0) (pa_cons (pe_ix (show IxR _ (rIx K) from ix_seq) (pv 1) (pv 3) (fun _ _ => rfl)) (pa_cons (pe_op op_sub (pv 2) pe_int) pa_nil)))) pa_nil))) (pe_slice sl_tupA (pv 1) (po_some (pe_op op_add (pv 3) pe_int)) po_none)))))
      pss_nil)
      (pss_cons (ps_par (i := 4) (j := 3) (by rfl) sc.nd rfl rfl (by decide) rfl rfl (pa_cons (pe_c c__law_draw hr (by omega) (by rfl) (pa_cons (pv 0) (pa_cons pe_int pa_nil))) (pa_cons pe_int pa_nil)) (by rfl))
      (pss_cons (ps_if (PW.pt (pw_and (pt_val (pe_callB (id := "isinstance") (r := rIsi K) call_isi (by rfl) B.isinstance (by decide +kernel) (pa_cons (pv 1) (pa_cons (pe_ty (n := "tuple") (by rfl) B.tuple (by decide +kernel)) pa_nil)))) (pw_and1 (pt_cmpR op_lt (pv 4) pe_int (nomark _)))))
      (pss_cons (ps_set (i := 3) sc.nd rfl (Or.inl rfl) (pe_c c__law_draw hr (by omega) (by rfl) (pa_cons (pv 0) (pa_cons (pe_op op_add (pe_callB call_len_seq (by rfl) B.len_ (by decide +kernel) (pa_cons (pv 1) pa_nil)) pe_int) pa_nil))))
        (pss_cons (ps_set (i := 5) sc.nd rfl (Or.inl rfl) (pe_lst (pa_cons (pe_callTy call_list_of (by rfl) B.list (by decide +kernel) (pa_cons (pv 1) pa_nil)) (pa_cons (pe_op op_catA (pe_slice sl_tupA (pv 1) po_none (po_some (pv 3))) (pe_slice sl_tupA (pv 1) (po_some (pe_op op_add (pv 3) pe_int)) po_none)) (pa_cons (pe_op op_catA (pe_op op_catA (pe_slice sl_tupA (pv 1) po_none (po_some (pv 3))) (pe_slice sl_tupA (pv 1) (po_some (pv 3)) (po_some (pe_op op_add (pv 3) pe_int)))) (pe_slice sl_tupA (pv 1) (po_some (pv 3)) po_none)) (pa_cons (pe_revT (pv 1)) pa_nil))))))
        (pss_one (ps_ret (pe_ix (show IxR _ (rIx K) from ix_seq) (pe_op op_cat (pv 5) (pe_lst (pa_cons (pe_op op_catA (pe_slice sl_tupA (pv 1) (po_some (pv 3)) po_none) (pe_slice sl_tupA (pv 1) po_none (po_some (pv 3)))) (pa_cons (pe_op op_catA (pv 1) (pe_tup (pa_cons pe_int pa_nil))) pa_nil)))) (pv 4) (fun _ _ => rfl))))))
      pss_nil)
      (pss_cons (ps_if (PW.pt (pw_and (pt_val (pe_c c__law_is_integer hr (by omega) (by rfl) (pa_cons (pv 1) pa_nil))) (pw_and1 (pt_cmpR op_lt (pv 4) pe_int (nomark _)))))
      (pss_one (ps_ret (pe_ix (show IxR _ (rIx K) from ix_seq) (pe_tup (pa_cons (pe_op op_add (pv 1) pe_int) (pa_cons (pe_op op_sub (pv 1) pe_int) (pa_cons (pe_un un_neg (pv 1)) (pa_cons (pe_cmpR op_eq (pv 1) pe_int (nomark _)) (pa_cons (pe_tup (pa_cons (pv 1) pa_nil)) (pa_cons (pe_callTy call_str_int (by rfl) B.str (by decide +kernel) (pa_cons (pv 1) pa_nil)) pa_nil))))))) (pv 4) (fun _ _ => rfl))))
      pss_nil)
      (pss_cons (ps_if (PW.pt (pw_and (pt_val (pe_callB (id := "isinstance") (r := rIsi K) call_isi (by rfl) B.isinstance (by decide +kernel) (pa_cons (pv 1) (pa_cons (pe_ty (n := "str") (by rfl) B.str (by decide +kernel)) pa_nil)))) (pw_and1 (pt_cmpR op_lt (pv 4) pe_int (nomark _)))))
      (pss_one (ps_ret (pe_ix (show IxR _ (rIx K) from ix_seq) (pe_tup (pa_cons (pe_op op_add_str (pv 1) pe_str) (pa_cons (pe_slice C8.sl_txt (pv 1) po_none (po_some (pe_un un_neg pe_int))) (pa_cons (pe_bm0 PySem.F.plainAttrs_str PySem.F.slot_str_upper PySem.F.type_str_upper mt_upper (pv 1)) pa_nil)))) (pv 4) (fun _ _ => rfl))))
      pss_nil)
      (pss_cons (ps_set (i := 6) sc.nd rfl (Or.inl rfl) (pe_lst (pa_cons pe_non (pa_cons pe_bl (pa_cons pe_bl (pa_cons (pe_tup pa_nil) (pa_cons pe_str (pa_cons pe_int (pa_cons pe_int (pa_cons (pe_un un_neg pe_int) (pa_cons pe_int (pa_cons (pe_tup (pa_cons pe_int pa_nil)) (pa_cons (pe_lst (pa_cons pe_int pa_nil)) (pa_cons (pe_dnewK) (pa_cons (pe_disp (pps_cons pe_int pe_int pps_nil) (by rfl) (by rfl) (fun z => by cases z) (by decide)) (pa_cons pe_str (pa_cons (pe_op op_pow pe_int pe_int) (pa_cons (pe_tup (pa_cons (pe_tup (pa_cons pe_int (pa_cons pe_int pa_nil))) (pa_cons (pe_tup (pa_cons pe_int (pa_cons pe_int pa_nil))) pa_nil))) (pa_cons (pe_lst pa_nil) (pa_cons pe_str pa_nil))))))))))))))))))))
      (pss_one (ps_ret (pe_c c__law_pick hr (by omega) (by rfl) (pa_cons (pv 0) (pa_cons (pe_op op_cat (pv 6) (pe_lst (pa_cons (pe_tup (pa_cons pe_str (pa_cons pe_int (pa_cons pe_int (pa_cons pe_int (pa_cons pe_int pa_nil)))))) (pa_cons (pe_un un_neg (pe_op op_pow pe_int pe_int)) (pa_cons (pe_tup (pa_cons pe_int (pa_cons pe_int pa_nil))) (pa_cons (pe_lst (pa_cons (pe_tup (pa_cons pe_int (pa_cons pe_int pa_nil))) pa_nil)) (pa_cons (pe_tup (pa_cons (pe_tup (pa_cons pe_int pa_nil)) pa_nil)) (pa_cons (pe_tup (pa_cons pe_int (pa_cons (pe_tup (pa_cons pe_int (pa_cons pe_int pa_nil))) pa_nil))) (pa_cons (pe_tup (pa_cons pe_int (pa_cons pe_int pa_nil))) pa_nil))))))))) pa_nil))))))))))), ?_⟩
  have s40 : ∀ n : Nat, n ≤ 100 → n ≤ sizeLine := fun n h => Nat.le_trans h (by decide)
  have pD := bg_pln _ hBG
  obtain ⟨ds, rfl, l1, l9, hds⟩ := hBG
  have sqd : SqA (5 + n) (9 * (iB n + 2)) ds := (sqa_all fun e he => bg_sq n (hds e he)).up (by omega) (Nat.mul_le_mul_right _ l9)
  have mem : ∀ z, PyData.int z ∈ ds → z.natAbs < 10 ^ 28 := fun z h => bg_int (hds _ h)
  have nE : List.isEmpty ds = false := by cases ds with
    | nil => cases l1
    | cons _ _ => rfl
  have lay : (PyData.canLay0 (.tuple ds) && decide (PyData.depth (.tuple ds) ≤ 64)) = true := by
    rw [pln_lay _ pD, Bool.true_and]
    exact decide_eq_true (Nat.le_trans (bg_sq (n + 1) ⟨ds, rfl, l1, l9, hds⟩).depth hn64)
  have dpd : ∀ {H : Hp} {N : Addr → Prop} {v : V}, Dq H N v (.tuple ds) → Dp K H v (.tuple ds) := fun h => pln_dp _ pD h
  refine ⟨_, rfl, _, _, _, _, isTupD (.tuple ds), rfl, .ty _, hv.ty, kit_tupD (.tuple ds), _, rfl, iteT ?_⟩
  refine ⟨_, rfl, (by show (0 : Nat) ≤ sizeLine; decide), fun T hT => ?_⟩
  have s1 : Same H (upd H T (.tup [])) := Same.upd_new hT
  have g1 : (upd H T (.tup [])) T = some (.tup []) := upd_same
  generalize upd H T (.tup []) = H1 at s1 g1
  have D1 := D0.same s1
  have hv1 := hv.same s1
  refine ⟨.tuple ds, .tuple [], dpd hv1, .tup (SqT.of g1) .nil, lay, rfl, _, rfl, ?_⟩
  rw [eqv_nil']
  rw [nE]
  refine iteT ?_
  refine ⟨_, rfl, _, _, rfl, rfl, _, rfl, ?_⟩
  rw [decide_eq_true (show (0 : Int) < ((n + 1 : Nat) : Int) by omega)]
  refine iteT ?_
  refine ⟨_, rfl, d, l, 4, rfl, D1, by decide, by decide, fun H2 r D2 b2 r0 r1 => ⟨_, _, rfl, rfl, _, rfl, ?_⟩⟩
  have b02 : But d l H H2 := (But.of s1).trans b2
  have hv2 := hv1.but b2
  clear s1 g1 hT D1 hv1
  by_cases hr0 : 0 < r
  · rw [decide_eq_true hr0]
    refine iteT ?_
    obtain ⟨a, xs, rfl, na, ra, hx⟩ := id hv2.tup_inv
    have lx := hx.length
    refine ⟨_, rfl, _, rfl, a, xs, rfl, .inr (.inl ra.rd), ?_⟩
    rw [lx]
    refine ⟨d, l, _, rfl, D2, by omega, by omega, fun H3 r D3 b3 r0 r1 => ?_⟩
    have hv3 := hv2.but b3
    have b03 := b02.trans b3
    obtain ⟨i, rfl⟩ : ∃ i : Nat, r = (i : Int) := ⟨r.toNat, by omega⟩
    dsimp only [gName]
    have nw3 : ∀ {H' : Hp}, DeckAt H' d l → ∀ p, H' p = none → Off d l p := fun D' p hp => D'.new hp
    refine mk_sl (nw3 D3) none (some (i : Int)) (mk_var rfl hv3) (fun _ _ q => q) (fun _ _ q => ⟨_, rfl, _, rfl, q⟩) H3 _ (Same.refl _) fun H4 u s4 hu => ?_
    have D4 := D3.same s4
    have hv4 := hv3.same s4
    obtain ⟨a', xs', ea, na4, ra4, hx4⟩ := hv4.tup_inv
    cases ea
    have lx4 := hx4.length
    obtain ⟨x1, hx5⟩ : ∃ x, xs'[i]? = some x := ⟨_, List.getElem?_eq_getElem (by omega)⟩
    obtain ⟨E1, hE1, dx⟩ := dq_of hx4 hx5
    have lf := hds E1 (List.mem_of_getElem? hE1)
    refine ⟨_, rfl, _, rfl, _, rfl, .inr (.inl ⟨a, xs', _, x1, rfl, rfl, .inl ra4.rd, atI_nat hx5, ?_⟩)⟩
    refine ⟨_, rfl, _, _, rfl, rfl, d, l, x1, E1, (congrArg (fun z : Int => [V.ref d, x1, V.int z]) (show ((n + 1 : Nat) : Int) - 1 = (n : Int) by omega)), D4, dx, lf, fun H5 y1 D' D5 b5 hy ly => ?_⟩
    refine ⟨(by show (1 : Nat) ≤ sizeLine; decide), fun T hT => ?_⟩
    have s6 : Same H5 (upd H5 T (.tup [y1])) := Same.upd_new hT
    have D6 := D5.same s6
    have hy6 : Dq (upd H5 T (.tup [y1])) (Off d l) (.ref T) (.tuple [D']) := .tup (D5.new hT) (.inl upd_same) (.cons (hy.same s6) .nil)
    have hu6 := (hu.but b5).same s6
    have hv6 := (hv4.but b5).same s6
    have b06 := (b03.trans (But.of s4)).trans (b5.trans (But.of s6))
    generalize upd H5 T (.tup [y1]) = H6 at s6 D6 hy6 hu6 hv6 b06
    have c1 := cutD_len ds none (some (i : Int))
    have c2 := cutD_len ds (some ((i : Int) + 1)) none
    refine cat_dq (nw3 D6) hu6 hy6 (s40 _ (show (cutD ds none (some (i : Int))).length + 1 ≤ 100 by omega)) fun H7 w1 s7 h7 => ?_
    have D7 := D6.same s7
    refine mk_sl (nw3 D7) (some ((i : Int) + 1)) none (mk_var rfl (hv6.same s7)) (fun _ _ q => ⟨_, rfl, _, _, rfl, rfl, _, rfl, q⟩) (fun _ _ q => q) H7 _ (Same.refl _) fun H8 w2 s8 h8 => ?_
    refine cat_dq (nw3 (D7.same s8)) (h7.same s8) h8 (s40 _ (show (cutD ds none (some (i : Int)) ++ [D']).length + (cutD ds (some ((i : Int) + 1)) none).length ≤ 100 by rw [List.length_append, List.length_singleton]; omega)) fun H9 w3 s9 h9 => ?_
    have one : SqA (5 + n) (1000 * (n + 1) + 0 + 2) [D'] := SqA.cons (m := 1000 * (n + 1)) (n := 0) ly.sq .nil
    have tot := ((sqd.cut none (some (i : Int))).app one).app (sqd.cut (some ((i : Int) + 1)) none)
    refine q H9 w3 _ ((D7.same s8).same s9) (b06.trans (But.of (s7.trans (s8.trans s9)))) h9 (be_tup (tot.up (by omega) (Nat.le_refl _)) (by omega) fun z hz => ?_)
    rcases List.mem_append.mp hz with hz | hz
    · rcases List.mem_append.mp hz with hz | hz
      · exact Nat.lt_trans (mem z (List.mem_of_mem_drop (List.mem_of_mem_take hz))) (by decide)
      · exact ly.int z (List.mem_singleton.mp hz).symm
    · exact Nat.lt_trans (mem z (List.mem_of_mem_drop (List.mem_of_mem_take hz))) (by decide)
  rw [decide_eq_false hr0]
  refine iteF ?_
  dsimp only [tNext]
  refine ⟨_, rfl, d, l, 8, rfl, D2, by decide, by decide, fun H3 way D3 b3 w0 w1 => ?_⟩
  refine ⟨_, _, rfl, ?_⟩
  dsimp only
  have b03 := b02.trans b3
  have hv3 := hv2.but b3
  obtain ⟨wn, rfl⟩ : ∃ i : Nat, way = (i : Int) := ⟨way.toNat, by omega⟩
  refine ⟨_, rfl, _, _, _, _, isTupD (.tuple ds), rfl, .ty _, hv3.ty, kit_tupD (.tuple ds), _, rfl, iteT ?_⟩
  refine ⟨_, rfl, _, _, rfl, rfl, _, rfl, ?_⟩
  by_cases h6 : wn < 6
  · rw [decide_eq_true (by omega)]
    refine iteT ?_
    obtain ⟨a, xs, rfl, na, ra, hx⟩ := id hv3.tup_inv
    have lx := hx.length
    refine ⟨_, rfl, _, rfl, a, xs, rfl, .inr (.inl ra.rd), _, _, rfl, rfl, ?_⟩
    rw [lx]
    refine ⟨d, l, _, rfl, D3, by omega, by omega, fun H4 r D4 b4 r0 r1 => ?_⟩
    have hv4 := hv3.but b4
    have b04 := b03.trans b4
    obtain ⟨i, rfl⟩ : ∃ i : Nat, r = (i : Int) := ⟨r.toNat, by omega⟩
    dsimp only [gName]
    have nw4 : ∀ p, H4 p = none → Off d l p := fun p hp => D4.new hp
    have mv : ∀ {σ : L2.St}, σ[1]? = some (some (.ref a)) → Mk (Off d l) σ H4 (tVar 1) (.tuple ds) := fun hs => mk_var hs hv4
    have c1 := cutD_len ds none (some (i : Int))
    have c2 := cutD_len ds (some ((i : Int) + 1)) none
    have c3 := cutD_len ds (some (i : Int)) (some ((i : Int) + 1))
    have c4 := cutD_len ds (some (i : Int)) none
    have to : ∀ {σ : L2.St}, σ[1]? = some (some (.ref a)) → σ[3]? = some (some (.int (i : Int))) → Mk (Off d l) σ H4 (tSl (rSlA K) (tVar 1) tNoPart (tPart (tVar 3))) (.tuple (cutD ds none (some (i : Int)))) := fun h1 h3 => mk_sl nw4 none (some (i : Int)) (mv h1) (fun _ _ q => q) (fun _ _ q => ⟨_, h3, _, rfl, q⟩)
    have fr : ∀ {σ : L2.St}, σ[1]? = some (some (.ref a)) → σ[3]? = some (some (.int (i : Int))) → Mk (Off d l) σ H4 (tSl (rSlA K) (tVar 1) (tPart (tVar 3)) tNoPart) (.tuple (cutD ds (some (i : Int)) none)) := fun h1 h3 => mk_sl nw4 (some (i : Int)) none (mv h1) (fun _ _ q => ⟨_, h3, _, rfl, q⟩) (fun _ _ q => q)
    have f1 : ∀ {σ : L2.St}, σ[1]? = some (some (.ref a)) → σ[3]? = some (some (.int (i : Int))) → Mk (Off d l) σ H4 (tSl (rSlA K) (tVar 1) (tPart (tOp (rI0 fun i j => V.int (i + j)) (tVar 3) (tC (V.int 1)))) tNoPart) (.tuple (cutD ds (some ((i : Int) + 1)) none)) := fun h1 h3 => mk_sl nw4 (some ((i : Int) + 1)) none (mv h1) (fun _ _ q => ⟨_, h3, _, _, rfl, rfl, _, rfl, q⟩) (fun _ _ q => q)
    have on : ∀ {σ : L2.St}, σ[1]? = some (some (.ref a)) → σ[3]? = some (some (.int (i : Int))) → Mk (Off d l) σ H4 (tSl (rSlA K) (tVar 1) (tPart (tVar 3)) (tPart (tOp (rI0 fun i j => V.int (i + j)) (tVar 3) (tC (V.int 1))))) (.tuple (cutD ds (some (i : Int)) (some ((i : Int) + 1)))) := fun h1 h3 => mk_sl nw4 (some (i : Int)) (some ((i : Int) + 1)) (mv h1) (fun _ _ q => ⟨_, h3, _, rfl, q⟩) (fun _ _ q => ⟨_, h3, _, _, rfl, rfl, _, rfl, q⟩)
    refine asg_lst (N := Off d l) (Ds := [.list ds, .tuple (cutD ds none (some (i : Int)) ++ cutD ds (some ((i : Int) + 1)) none), .tuple (cutD ds none (some (i : Int)) ++ cutD ds (some (i : Int)) (some ((i : Int) + 1)) ++ cutD ds (some (i : Int)) none), .tuple ds.reverse]) (mka_cons (mk_listT nw4 (mv rfl)) (mka_cons (mk_catT nw4 (to rfl rfl) (f1 rfl rfl) (s40 _ (by omega))) (mka_cons (mk_catT nw4 (mk_catT nw4 (to rfl rfl) (on rfl rfl) (s40 _ (by omega))) (fr rfl rfl) (s40 _ (by rw [List.length_append]; omega))) (mka_cons (mk_revT nw4 (mv rfl)) mka_nil)))) (s40 _ (Nat.le_of_ble_eq_true rfl)) fun H5 vs1 p1 s5 e5 hp1 => ?_
    dsimp only [gName]
    have s6 := s5.trans (Same.upd_new (o := .lst vs1) hp1)
    have e6 := e5.same (Same.upd_new (o := .lst vs1) hp1)
    have g6 : (upd H5 p1 (.lst vs1)) p1 = some (.lst vs1) := upd_same
    generalize upd H5 p1 (.lst vs1) = H6 at s6 e6 g6
    have D6 := D4.same s6
    have nw6 : ∀ p, H6 p = none → Off d l p := fun p hp => D6.new hp
    have hv6 := hv4.same s6
    have to6 : ∀ {σ : L2.St}, σ[1]? = some (some (.ref a)) → σ[3]? = some (some (.int (i : Int))) → Mk (Off d l) σ H6 (tSl (rSlA K) (tVar 1) tNoPart (tPart (tVar 3))) (.tuple (cutD ds none (some (i : Int)))) := fun h1 h3 => mk_sl nw6 none (some (i : Int)) (mk_var h1 hv6) (fun _ _ q => q) (fun _ _ q => ⟨_, h3, _, rfl, q⟩)
    have fr6 : ∀ {σ : L2.St}, σ[1]? = some (some (.ref a)) → σ[3]? = some (some (.int (i : Int))) → Mk (Off d l) σ H6 (tSl (rSlA K) (tVar 1) (tPart (tVar 3)) tNoPart) (.tuple (cutD ds (some (i : Int)) none)) := fun h1 h3 => mk_sl nw6 (some (i : Int)) none (mk_var h1 hv6) (fun _ _ q => ⟨_, h3, _, rfl, q⟩) (fun _ _ q => q)
    refine ixC_mk (N := Off d l) (i := wn) (Ds := [.tuple (cutD ds (some (i : Int)) none ++ cutD ds none (some (i : Int))), .tuple (ds ++ [.int 0])]) rfl g6 e6 (mka_cons (mk_catT nw6 (fr6 rfl rfl) (to6 rfl rfl) (s40 _ (by omega))) (mka_cons (mk_catT nw6 (mk_var rfl hv6) (mk_tup nw6 (mka_cons mk_int mka_nil) (s40 _ (Nat.le_of_ble_eq_true rfl))) (s40 _ (by show ds.length + 1 ≤ 100; omega))) mka_nil)) (s40 _ (Nat.le_of_ble_eq_true rfl)) rfl (show wn < 6 from h6) fun H7 v7 E7 s7 dq7 h7 => ?_
    refine q H7 v7 E7 (D6.same s7) (b04.trans (But.of (s6.trans s7))) dq7 ?_
    have cm : ∀ {lo hi : Option Int} {z : Int}, PyData.int z ∈ cutD ds lo hi → z.natAbs < 2 ^ 100 := fun hz => Nat.lt_trans (mem _ (List.mem_of_mem_drop (List.mem_of_mem_take hz))) (by decide)
    have tt : ∀ {es : List PyData} {m : Nat}, SqA (5 + n) m es → m ≤ 1300 → (∀ z, PyData.int z ∈ es → z.natAbs < 2 ^ 100) → Be (n + 1) (.tuple es) := fun h hm hz => be_tup (h.up (by omega) (Nat.le_refl _)) (by omega) hz
    simp only [List.cons_append, List.nil_append, List.mem_cons, List.not_mem_nil, or_false] at h7
    rcases h7 with rfl | rfl | rfl | rfl | rfl | rfl
    · exact ⟨(Sq.list sqd).mono (by omega) (by omega), fun z e => (by cases e), fun es z e => (by cases e)⟩
    · exact tt ((sqd.cut _ _).app (sqd.cut _ _)) (by omega) fun z hz => (List.mem_append.mp hz).elim cm cm
    · exact tt (((sqd.cut _ _).app (sqd.cut _ _)).app (sqd.cut _ _)) (by omega) fun z hz => (List.mem_append.mp hz).elim (fun hz => (List.mem_append.mp hz).elim cm cm) cm
    · exact tt sqd.rev (by omega) fun z hz => Nat.lt_trans (mem z (List.mem_reverse.mp hz)) (by decide)
    · exact tt ((sqd.cut _ _).app (sqd.cut _ _)) (by omega) fun z hz => (List.mem_append.mp hz).elim cm cm
    · exact tt (sqd.app (SqA.cons (rs_int (k := 5 + n) (m := 0) (v := 0) (by decide)).q SqA.nil)) (by omega) fun z hz => (List.mem_append.mp hz).elim (fun h => Nat.lt_trans (mem z h) (by decide)) fun h => by
        cases (List.mem_singleton.mp h)
        decide
  rw [decide_eq_false (by omega)]
  refine iteF ?_
  dsimp only [tNext]
  refine ⟨_, rfl, v, .tuple ds, Off d l, rfl, hv3, _, rfl, iteF (iteF ?_)⟩
  dsimp only [tNext]
  refine ⟨_, rfl, _, _, _, _, false, rfl, .ty _, hv3.ty, (kit_tab (a := "tuple") (b := "str") false), _, rfl, iteF (iteF ?_)⟩
  dsimp only [tNext]
  have nw3 : ∀ p, H3 p = none → Off d l p := fun p hp => D3.new hp
  refine' asg_lst (N := Off d l) (Ds := _) ?P1 ?P2 fun H5 vs1 p1 s1 e1 hp1 => ?_
  case P1 =>
    repeat' first
      | exact mka_nil
      | exact mk_non
      | exact mk_bl
      | exact mk_int
      | exact mk_st
      | exact mk_d0 nw3
      | exact mk_d01 nw3
      | refine' mka_cons ?_ ?_
      | refine' mk_tup nw3 ?_ ?_
      | refine' mk_lst nw3 ?_ ?_
      | refine' mk_neg ?_
      | refine' mk_pow ?_ ?_ ?_
    all_goals first | decide | exact ⟨by decide, by decide, by decide⟩
  case P2 => decide
  dsimp only [gName]
  have s2 := s1.trans (Same.upd_new (o := .lst vs1) hp1)
  have f1 := e1.same (Same.upd_new (o := .lst vs1) hp1)
  have g1 : (upd H5 p1 (.lst vs1)) p1 = some (.lst vs1) := upd_same
  generalize upd H5 p1 (.lst vs1) = H6 at s2 f1 g1
  have D2 := D3.same s2
  have nw2 : ∀ p, H6 p = none → Off d l p := fun p hp => D2.new hp
  refine' pick_cat (Ds := _) rfl g1 f1 ?P3 ?P4 (by decide) ?P5 rfl D2 fun H7 v7 DD D7 b7 dq7 h7 => ?_
  case P3 =>
    repeat' first
      | exact mka_nil
      | exact mk_int
      | exact mk_st
      | refine' mka_cons ?_ ?_
      | refine' mk_tup nw2 ?_ ?_
      | refine' mk_lst nw2 ?_ ?_
      | refine' mk_neg ?_
      | refine' mk_pow ?_ ?_ ?_
    all_goals first | decide | exact ⟨by decide, by decide, by decide⟩
  case P4 => decide
  case P5 => decide
  refine q H7 v7 DD D7 ((b03.trans (But.of s2)).trans b7) dq7 ?_
  exact be_of (List.all_eq_true.mp (show List.all _ beB = true by decide +kernel) DD h7)
end
def sp_bgO : Sp := sp_bg 0
def sp_bgA : Sp := sp_bg 1
def sp_bgB : Sp := sp_bg 2
section
variable {P : Program} {w : World} {K : PySem.W.Frag} {mg : Str → Option Value} {base : Heap}
theorem ok_bgO (D : Df K mg "_law_bent" s__law_bent ["_law_deck_here", "_law_thing", "_law_depth"]) (B : Bi mg) (c__law_draw : Cal P w K mg base 1 "_law_draw" sp_draw) (c__law_bent : Cal P w K mg base 3 "_law_bent" sp_no) (c__law_is_integer : Cal P w K mg base 1 "_law_is_integer" sp_isIntQ) (c__law_pick : Cal P w K mg base 2 "_law_pick" (sp_pick K)) : Cal P w K mg base 4 "_law_bent" sp_bgO := ok_bgL D B c__law_draw c__law_bent c__law_is_integer c__law_pick
theorem ok_bgA (D : Df K mg "_law_bent" s__law_bent ["_law_deck_here", "_law_thing", "_law_depth"]) (B : Bi mg) (c__law_draw : Cal P w K mg base 1 "_law_draw" sp_draw) (c__law_bent : Cal P w K mg base 4 "_law_bent" sp_bgO) (c__law_is_integer : Cal P w K mg base 1 "_law_is_integer" sp_isIntQ) (c__law_pick : Cal P w K mg base 2 "_law_pick" (sp_pick K)) : Cal P w K mg base 5 "_law_bent" sp_bgA := ok_bgS 0 (by decide) (by decide) D B c__law_draw c__law_bent c__law_is_integer c__law_pick
theorem ok_bgB (D : Df K mg "_law_bent" s__law_bent ["_law_deck_here", "_law_thing", "_law_depth"]) (B : Bi mg) (c__law_draw : Cal P w K mg base 1 "_law_draw" sp_draw) (c__law_bent : Cal P w K mg base 5 "_law_bent" sp_bgA) (c__law_is_integer : Cal P w K mg base 1 "_law_is_integer" sp_isIntQ) (c__law_pick : Cal P w K mg base 2 "_law_pick" (sp_pick K)) : Cal P w K mg base 6 "_law_bent" sp_bgB := ok_bgS 1 (by decide) (by decide) D B c__law_draw c__law_bent c__law_is_integer c__law_pick
end
end Ft

set_option exponentiation.threshold 9000
set_option maxHeartbeats 4000000
namespace Ft
open PySem L2 RZ
theorem il_stepB {d l : Addr} {Hb H4 : Hp} {C : Addr} {n b : Nat} {z : Int} (hC : Hb C = none) (Cd : C ≠ d) (Cl : C ≠ l) (D : DeckAt H4 d l) (s : But d l Hb H4) (h : IlB C n b H4) (hn : n ≤ 400) (hz : z.natAbs ≤ b) : ∃ acc, H4 C = some (.lst acc) ∧ acc.length < sizeLine ∧ DeckAt (upd H4 C (.lst (acc ++ [V.int z]))) d l ∧ But d l Hb (upd H4 C (.lst (acc ++ [V.int z]))) ∧ IlB C (n + 1) b (upd H4 C (.lst (acc ++ [V.int z]))) := by
  obtain ⟨ys, h1, h2, h3⟩ := h
  refine ⟨_, h1, ?_, D.put Cd Cl, fun b o e hb1 hb2 => ?_, ys ++ [z], ?_, ?_, fun y hy => ?_⟩
  · rw [List.length_map, h2]
    exact Nat.lt_of_le_of_lt hn (by decide)
  · rw [upd_ne (ne_of_none e hC)]
    exact s _ _ e hb1 hb2
  · rw [upd_same, List.map_append]; rfl
  · rw [List.length_append, h2]; rfl
  · rcases List.mem_append.mp hy with h | h
    · exact h3 y h
    · rw [List.mem_singleton.mp h]; exact hz
theorem IlB.but {d l C : Addr} {n b : Nat} {H H' : Hp} (h : IlB C n b H) (k : But d l H H') (Cd : C ≠ d) (Cl : C ≠ l) : IlB C n b H' := by
  obtain ⟨ys, h1, h⟩ := h
  exact ⟨ys, k _ _ h1 Cd Cl, h⟩
theorem sqa_ints {xs : List Int} (h : ∀ x ∈ xs, x.natAbs < 2 ^ 100) : SqA 0 (xs.length * 3) (xs.map PyData.int) := by
  have := sqa_all (k := 0) (m := 1) (ds := xs.map PyData.int) fun e he => by
    obtain ⟨x, hx, rfl⟩ := List.mem_map.mp he
    exact (rs_int (k := 0) (m := 0) (Nat.lt_trans (h x hx) (by decide))).q
  rwa [List.length_map] at this
theorem be_ints {xs : List Int} (hl : xs.length ≤ 20) (h : ∀ x ∈ xs, x.natAbs < 2 ^ 100) : Be 1 (.tuple (xs.map PyData.int)) := by
  refine be_tup ((sqa_ints h).up (by decide) (show _ ≤ 60 by omega)) (by decide) fun z hz => ?_
  obtain ⟨x, hx, e⟩ := List.mem_map.mp hz
  cases e
  exact h _ hx
theorem dq_intsT {H : Hp} {N : Addr → Prop} {p : Addr} {xs : List Int} (n : N p) (h : H p = some (.tup (xs.map V.int))) : Dq H N (.ref p) (.tuple (xs.map PyData.int)) := .tup n (.inl h) (dq_intsA _)
theorem dq_bools {H : Hp} {N : Addr → Prop} : ∀ xs : List Int, DqAll H N (xs.map fun y => V.bl (y != 0)) (xs.map fun y => PyData.bool (y != 0))
  | [] => .nil
  | _ :: l => .cons (.bl _) (dq_bools l)
def sp_unk : Sp := fun vs H Q _ => ∃ (d l : Addr) (m : Nat), vs = [.ref d, .int m] ∧ DeckAt H d l ∧ 2 ≤ m ∧ m ≤ 8 ∧ ∀ H' v X, DeckAt H' d l → But d l H H' → Dq H' (Off d l) v X → Be 1 X → Q v H'
section
variable {P : Program} {w : World} {K : PySem.W.Frag} {mg : Str → Option Value} {base : Heap}
theorem ok_unk (D : Df K mg "_law_unknowns" s__law_unknowns ["_law_deck_here", "_law_m"]) (B : Bi mg) (c__law_draw : Cal P w K mg base 1 "_law_draw" sp_draw) (c__law_pick : Cal P w K mg base 2 "_law_pick" (sp_pick K)) (c__law_bent : Cal P w K mg base 5 "_law_bent" sp_bgA) : Cal P w K mg base 6 "_law_unknowns" sp_unk := by
  obtain ⟨f, fd, F, m, b⟩ := D.ex
  have sc := sc__law_unknowns
  refine ⟨f, fd, _, F.ok sc (fun _ _ _ _ ⟨_, _, _, e, _⟩ => by rw [e]; rfl) (fun cdv A outer s H vs Q E hr h => ?_), m, F.kp, b⟩
  obtain ⟨d, l, m, rfl, D0, m1, m8, q⟩ := h
  refine ⟨_, (pss_cons (ps_set (i := 3) sc.nd rfl (Or.inl rfl) (pe_callTy call_tuple_of (by rfl) B.tuple (by decide +kernel) (pa_cons (pe_lc (own := [("_law_go", 2)]) (g := gName 2) (tt := tYes) (by rfl) sc.nd (pi_range1 rfl B.range (pa_cons (pv 1) pa_nil)) (blkOk_by (own := [("_law_go", 2)]) (N := N__law_unknowns) (sc := defScope s__law_unknowns) (by decide +kernel)) (fun _ _ _ _ _ => (pg_name (i := 2) sc.nd rfl (Or.inl rfl))) (fun _ _ _ _ _ => pts_nil) (fun _ _ _ _ _ => (pe_op op_sub (pe_c c__law_draw hr (by decide) (by rfl) (pa_cons (pv 0) (pa_cons pe_int pa_nil))) pe_int))) pa_nil)))
      (pss_cons (ps_set (i := 4) sc.nd rfl (Or.inl rfl) (pe_c c__law_draw hr (by decide) (by rfl) (pa_cons (pv 0) (pa_cons pe_int pa_nil))))
      (pss_cons (ps_if (pt_cmpR op_eq (pv 4) pe_int (nomark _))
      (pss_one (ps_ret (pe_callTy call_tuple_of (by rfl) B.tuple (by decide +kernel) (pa_cons (pe_lc (own := [("_law_y", 5)]) (g := gName 5) (tt := tYes) (by rfl) sc.nd (pi_tup (pv 3)) (blkOk_by (own := [("_law_y", 5)]) (N := N__law_unknowns) (sc := defScope s__law_unknowns) (by decide +kernel)) (fun _ _ _ _ _ => (pg_name (i := 5) sc.nd rfl (Or.inl rfl))) (fun _ _ _ _ _ => pts_nil) (fun _ _ _ _ _ => (pe_op op_mulW (pv 5) (pe_op op_add (pe_op op_pow pe_int pe_int) (pe_c c__law_draw hr (by decide) (by rfl) (pa_cons (pv 0) (pa_cons pe_int pa_nil))))))) pa_nil))))
      pss_nil)
      (pss_cons (ps_if (pt_cmpR op_eq (pv 4) pe_int (nomark _))
      (pss_one (ps_ret (pe_op (r := rRepT K) op_repT (pe_tup (pa_cons pe_int pa_nil)) (pv 1))))
      pss_nil)
      (pss_cons (ps_if (pt_cmpR op_eq (pv 4) pe_int (nomark _))
      (pss_one (ps_ret (pe_c c__law_pick hr (by decide) (by rfl) (pa_cons (pv 0) (pa_cons (pe_lst (pa_cons (pe_op op_catA (pv 3) (pe_tup (pa_cons pe_int pa_nil))) (pa_cons (pe_slice sl_tupA (pv 3) (po_some pe_int) po_none) (pa_cons (pe_callTy call_list_of (by rfl) B.list (by decide +kernel) (pa_cons (pv 3) pa_nil)) (pa_cons (pe_tup (pa_cons (pv 3) pa_nil)) (pa_cons (pe_ix (show IxR _ (rIx K) from ix_seq) (pv 3) pe_int (fun _ _ => rfl)) (pa_cons pe_non (pa_cons (pe_callTy call_tuple_of (by rfl) B.tuple (by decide +kernel) (pa_cons (pe_lc (own := [("_law_y", 5)]) (g := gName 5) (tt := tYes) (by rfl) sc.nd (pi_tup (pv 3)) (blkOk_by (own := [("_law_y", 5)]) (N := N__law_unknowns) (sc := defScope s__law_unknowns) (by decide +kernel)) (fun _ _ _ _ _ => (pg_name (i := 5) sc.nd rfl (Or.inl rfl))) (fun _ _ _ _ _ => pts_nil) (fun _ _ _ _ _ => (pe_callTy call_bool1 (by rfl) B.bool (by decide +kernel) (pa_cons (pv 5) pa_nil)))) pa_nil)) (pa_cons (pe_op op_catA (pv 3) (pv 3)) pa_nil))))))))) pa_nil)))))
      pss_nil)
      (pss_one (ps_ret (pe_ifExp (pt_cmpR op_eq (pv 4) pe_int (nomark _)) (pe_c c__law_bent hr (by decide) (by rfl) (pa_cons (pv 0) (pa_cons (pv 3) (pa_cons pe_int pa_nil)))) (pv 3))))))))), ?_⟩
  refine ⟨_, rfl, m, rfl, by omega, by omega, fun C hC => ?_⟩
  obtain ⟨Cd, Cl⟩ := D0.new hC
  refine lc_it (walk_range (lo := 0) (n := Int.toNat (m : Int))) (fun i H' => DeckAt H' d l ∧ But d l H H' ∧ IlB C i 6 H') ⟨D0.put Cd Cl, But.of (Same.upd_new hC), .nil⟩ (fun _ _ _ _ => trivial) ?_ ?_
  · rintro i x Ha Hb hi ⟨Da, ba, ia⟩ y0
    obtain ⟨rfl, rfl⟩ := y0
    dsimp only [gName]
    refine ⟨rfl, _, rfl, d, l, 13, rfl, Da, by decide, by decide, fun Hc r Dc bc r1 r2 => ⟨_, _, rfl, rfl, ?_⟩⟩
    exact il_stepB hC Cd Cl Dc (ba.trans bc) (ia.but bc Cd Cl) (by omega) (by omega)
  rintro H1 ⟨D1, b1, xs, g1, l1, x1⟩
  rw [Int.toNat_natCast] at l1
  refine ⟨C, _, rfl, .inl ⟨SqL.of g1, fun p hp => ?_⟩⟩
  have s2 : Same H1 (upd H1 p (.tup (xs.map V.int))) := Same.upd_new hp
  have gp : (upd H1 p (.tup (xs.map V.int))) p = some (.tup (xs.map V.int)) := upd_same
  generalize upd H1 p (.tup (xs.map V.int)) = H2 at s2 gp
  have D2 := D1.same s2
  have b2 := b1.trans (But.of s2)
  clear s2 g1 D1 b1 hp
  dsimp only [gName]
  refine ⟨_, rfl, d, l, 8, rfl, D2, by decide, by decide, fun H3 way D3 b3 w0 w1 => ?_⟩
  have gp3 := b3 _ _ gp (D2.offd gp) (D2.offl gp)
  have b03 := b2.trans b3
  have opd := D3.offd gp3
  have opl := D3.offl gp3
  clear gp b2 b3 D2
  dsimp only [gName]
  have nw : ∀ p, H3 p = none → Off d l p := fun p hp => D3.new hp
  have dqx : Dq H3 (Off d l) (.ref p) (.tuple (xs.map PyData.int)) := dq_intsT ⟨opd, opl⟩ gp3
  have x2 : ∀ x ∈ xs, x.natAbs < 2 ^ 100 := fun x hx => Nat.lt_of_le_of_lt (x1 x hx) (by decide)
  have lx : (xs.map PyData.int).length = m := by rw [List.length_map]; exact l1
  have s40 : ∀ n : Nat, n ≤ 100 → n ≤ sizeLine := fun n h => Nat.le_trans h (by decide)
  refine ⟨_, rfl, rfl, _, rfl, ifI (fun _ => ?_) fun _ => ?_⟩
  · refine ⟨_, rfl, p, rfl, ⟨_, SqT.of gp3⟩, fun C2 hC2 => ?_⟩
    obtain ⟨C2d, C2l⟩ := D3.new hC2
    have np2 : p ≠ C2 := ne_of_none gp3 hC2
    refine lc_it (walk_tup (K := K) (a := p) (xs := xs.map V.int)) (fun i H' => DeckAt H' d l ∧ But d l H3 H' ∧ IlB C2 i (6 * (10 ^ 28 + 1000)) H') ⟨D3.put C2d C2l, But.of (Same.upd_new hC2), .nil⟩ (fun i H' _ ⟨_, z, _⟩ => SqT.of (z _ _ gp3 opd opl)) ?_ ?_
    · rintro i x Ha Hb hi ⟨Da, ba, ia⟩ ⟨rfl, hx0⟩
      obtain ⟨y, rfl, hy⟩ := int_at hx0
      have yb := x1 y (List.mem_of_getElem? hy)
      have il := (List.getElem?_eq_some_iff.mp hy).1
      dsimp only [gName]
      refine ⟨rfl, _, rfl, _, _, rfl, rfl, (show CPow 10 28 from ⟨by decide, by decide, by decide⟩), _, rfl, d, l, 1000, rfl, Da, by decide, by decide, fun Hc r Dc bc r1 r2 => ⟨_, _, rfl, rfl, ?_⟩⟩
      have rb : ((10 : Int) ^ Int.toNat 28 + r).natAbs ≤ 10 ^ 28 + 1000 := by
        rw [show (10 : Int) ^ Int.toNat 28 = 10000000000000000000000000000 by decide]
        rw [show (10 : Nat) ^ 28 = 10000000000000000000000000000 by decide]
        omega
      refine ⟨_, _, rfl, rfl, mul8 (Nat.lt_of_le_of_lt yb (by decide)) (Nat.lt_of_le_of_lt rb (by decide)), ?_⟩
      refine il_stepB hC2 C2d C2l Dc (ba.trans bc) (ia.but bc C2d C2l) (by omega) ?_
      rw [Int.natAbs_mul]
      exact Nat.mul_le_mul yb rb
    rintro H4 ⟨D4, b4, ys, g4, l4, y4⟩
    rw [List.length_map] at l4
    refine ⟨C2, _, rfl, .inl ⟨SqL.of g4, fun p2 hp2 => ?_⟩⟩
    have s5 := Same.upd_new (o := .tup (ys.map V.int)) hp2
    exact q _ _ _ (D4.same s5) ((b03.trans b4).trans (But.of s5)) (dq_intsT (D4.new hp2) upd_same) (be_ints (by omega) fun y hy => Nat.lt_of_le_of_lt (y4 y hy) (by decide))
  dsimp only [tNext]
  refine ⟨_, rfl, rfl, _, rfl, ifI (fun _ => ?_) fun _ => ?_⟩
  · refine ⟨one_sz, fun p1 n1 => ⟨_, rfl, p1, _, _, rfl, rfl, SqT.of upd_same, (by intro z; cases z), by omega, by omega, one_th, fun p2 n2 => ?_⟩⟩
    have k1 := Same.upd_new (o := .tup [V.int 0]) n1
    have e2 : (List.replicate (Int.toNat (m : Int)) [V.int 0]).flatten = (List.replicate m (0 : Int)).map V.int := by rw [Int.toNat_natCast, rep_zero]
    rw [e2]
    have k2 := Same.upd_new (o := .tup ((List.replicate m (0 : Int)).map V.int)) n2
    exact q _ _ _ ((D3.same k1).same k2) (b03.trans (But.of (k1.trans k2))) (dq_intsT ((D3.same k1).new n2) upd_same) (be_ints (by rw [List.length_replicate]; omega) fun y hy => by rw [List.eq_of_mem_replicate hy]; decide)
  dsimp only [tNext]
  refine ⟨_, rfl, rfl, _, rfl, ifI (fun _ => ?_) fun _ => ?_⟩
  · have sd : SqA 0 60 (xs.map PyData.int) := (sqa_ints x2).up (Nat.le_refl _) (by omega)
    have md : ∀ z, PyData.int z ∈ xs.map PyData.int → z.natAbs < 2 ^ 100 := fun z hz => by
      obtain ⟨x, hx, e⟩ := List.mem_map.mp hz
      cases e
      exact x2 _ hx
    refine pick_mk (Ds := [.tuple (xs.map PyData.int ++ [.int 0]), .tuple (cutD (xs.map PyData.int) (some 1) none), .list (xs.map PyData.int), .tuple [.tuple (xs.map PyData.int)], .int (xs.getD 0 0), .none, .tuple (xs.map fun y => PyData.bool (y != 0)), .tuple (xs.map PyData.int ++ xs.map PyData.int)]) (mka_cons (mk_catT nw (mk_var rfl dqx) (mk_tup nw (mka_cons mk_int mka_nil) (s40 _ (Nat.le_of_ble_eq_true rfl))) (s40 _ (by rw [lx]; show m + 1 ≤ 100; omega))) (mka_cons (mk_sl nw (some 1) none (mk_var rfl dqx) (fun _ _ q => ⟨_, rfl, q⟩) (fun _ _ q => q)) (mka_cons (mk_listT nw (mk_var rfl dqx)) (mka_cons (mk_tup nw (mka_cons (mk_var rfl dqx) mka_nil) (s40 _ (Nat.le_of_ble_eq_true rfl))) (mka_cons ?_ (mka_cons mk_non (mka_cons ?_ (mka_cons (mk_catT nw (mk_var rfl dqx) (mk_var rfl dqx) (s40 _ (show (xs.map PyData.int).length + (xs.map PyData.int).length ≤ 100 by rw [lx]; omega))) mka_nil)))))))) (s40 _ (Nat.le_of_ble_eq_true rfl)) (Nat.lt_of_lt_of_le (by decide : 0 < 8) (Nat.le_of_ble_eq_true rfl)) (Nat.lt_of_le_of_lt (Nat.le_of_ble_eq_true rfl : _ ≤ 8) (by decide)) rfl D3 fun H4 v DD D4 b4 dq hD => ?_
    · intro H4 Q4 s4 q4
      exact ⟨_, rfl, .inr (.inl ⟨p, _, ((0 : Nat) : Int), _, rfl, rfl, SqT.of (s4 _ _ gp3), atI_nat (getD_at (by omega)), q4 _ _ (Same.refl _) (.int _)⟩)⟩
    · intro H4 Q4 s4 q4
      have gp4 := s4 _ _ gp3
      refine ⟨_, rfl, p, rfl, ⟨_, SqT.of gp4⟩, fun C2 hC2 => ?_⟩
      refine lc_it (walk_tup (K := K) (a := p) (xs := xs.map V.int)) (fun i H' => Same H4 H' ∧ H' C2 = some (.lst ((xs.take i).map fun y => V.bl (y != 0)))) ⟨Same.upd_new hC2, upd_same⟩ (fun i H' _ ⟨z, _⟩ => SqT.of (z _ _ gp4)) ?_ ?_
      · rintro i x Ha Hb hi ⟨ka, ga⟩ ⟨rfl, hx0⟩
        obtain ⟨y, rfl, hy⟩ := int_at hx0
        have il := (List.getElem?_eq_some_iff.mp hy).1
        dsimp only [gName]
        refine ⟨rfl, _, rfl, .inl ⟨y, rfl, _, ga, ?_, fun b o e => ?_, ?_⟩⟩
        · rw [List.length_map, List.length_take]
          exact Nat.lt_of_le_of_lt (by omega : _ ≤ 400) (by decide)
        · rw [upd_ne (ne_of_none e hC2)]
          exact ka _ _ e
        · rw [upd_same, take_snocA hy, List.map_append]
          rfl
      rintro H5 ⟨s5, g5⟩
      rw [List.length_map, List.take_length] at g5
      refine ⟨C2, _, rfl, .inl ⟨SqL.of g5, fun p5 hp5 => ?_⟩⟩
      have s6 := Same.upd_new (o := .tup (xs.map fun y => V.bl (y != 0))) hp5
      refine q4 _ _ (s5.trans s6) (.tup (nw _ (s4.free (s5.free hp5))) (.inl upd_same) ?_)
      exact dq_bools xs
    refine q H4 v DD D4 (b03.trans b4) dq ?_
    simp only [List.mem_cons, List.not_mem_nil, or_false] at hD
    rcases hD with rfl | rfl | rfl | rfl | rfl | rfl | rfl | rfl
    · rw [show xs.map PyData.int ++ [.int 0] = (xs ++ [0]).map PyData.int by rw [List.map_append]; rfl]
      exact be_ints (by rw [List.length_append]; show xs.length + 1 ≤ 20; omega) fun y hy => (List.mem_append.mp hy).elim (x2 y) fun h => by rw [List.mem_singleton.mp h]; decide
    · exact be_tup ((sd.cut _ _).up (by decide) (Nat.le_refl _)) (by decide) fun z hz => md z (List.mem_of_mem_drop (List.mem_of_mem_take hz))
    · exact ⟨(Sq.list sd).mono (by decide) (by decide), fun z e => (by cases e), fun ds z e => (by cases e)⟩
    · refine be_tup ((SqA.cons (Sq.tup sd) SqA.nil).up (by decide) (Nat.le_refl _)) (by decide) fun z hz => ?_
      cases (List.mem_singleton.mp hz)
    · have z1 : (xs.getD 0 0).natAbs < 2 ^ 100 := x2 _ (getD_memI (by omega))
      exact ⟨((rs_int (k := 0) (m := 0) (Nat.lt_trans z1 (by decide))).q.mono (by decide) (by decide)), fun z e => (by cases e; exact z1), fun ds z e => (by cases e)⟩
    · exact be_of (by decide +kernel)
    · refine be_tup ((sqa_all (k := 0) (m := 1) fun e he => ?_).up (by decide) (show _ ≤ 60 by rw [List.length_map]; omega)) (by decide) fun z hz => ?_
      · obtain ⟨x, _, rfl⟩ := List.mem_map.mp he
        cases (x != 0) <;> exact ⟨by decide, by decide, by decide, by decide⟩
      · obtain ⟨x, _, e⟩ := List.mem_map.mp hz
        cases e
    · rw [← List.map_append]
      exact be_ints (by rw [List.length_append]; omega) fun y hy => (List.mem_append.mp hy).elim (x2 y) (x2 y)
  dsimp only [tNext]
  refine ⟨_, rfl, rfl, _, rfl, ifI (fun _ => ?_) fun _ => ?_⟩
  · refine ⟨_, rfl, _, rfl, d, l, .ref p, _, rfl, D3, dqx, ⟨_, rfl, by omega, by omega, fun e he => ?_⟩, fun H4 v X D4 b4 dq be => q H4 v X D4 (b03.trans b4) dq be⟩
    obtain ⟨x, hx, rfl⟩ := List.mem_map.mp he
    exact ⟨x, rfl, Nat.lt_of_le_of_lt (x1 x hx) (by decide)⟩
  · exact ⟨_, rfl, q H3 _ _ D3 b03 dqx (be_ints (by omega) x2)⟩
end
end Ft

set_option exponentiation.threshold 9000
namespace Ft
open PySem L2 RZ
/-! ### tables of integers and truth values -/
def lv : Int ⊕ Bool → V
  | .inl z => .int z
  | .inr b => .bl b
def ld : Int ⊕ Bool → PyData
  | .inl z => .int z
  | .inr b => .bool b
theorem dq_lv {H : Hp} {N : Addr → Prop} : ∀ x, Dq H N (lv x) (ld x)
  | .inl z => .int z
  | .inr b => .bl b
theorem dqa_lv {H : Hp} {N : Addr → Prop} : ∀ ls : List (Int ⊕ Bool), DqAll H N (ls.map lv) (ls.map ld)
  | [] => .nil
  | x :: l => .cons (dq_lv x) (dqa_lv l)
def SmL (ls : List (Int ⊕ Bool)) : Prop := ∀ z, Sum.inl z ∈ ls → z.natAbs < 2 ^ 100
theorem smL_ints {xs : List Int} (h : ∀ x ∈ xs, x.natAbs < 2 ^ 100) : SmL (xs.map Sum.inl) := fun z hz => by
  obtain ⟨x, hx, e⟩ := List.mem_map.mp hz
  cases e
  exact h _ hx
theorem lv_ints (xs : List Int) : (xs.map Sum.inl).map lv = xs.map V.int := by rw [List.map_map]; rfl
theorem sm_snoc {ls : List (Int ⊕ Bool)} {x : Int ⊕ Bool} (h : SmL ls) (hx : ∀ z, x = .inl z → z.natAbs < 2 ^ 100) : SmL (ls ++ [x]) := fun z hz => by
  rcases List.mem_append.mp hz with h' | h'
  · exact h z h'
  · exact hx z (List.mem_singleton.mp h').symm
def IlL (C : Addr) (n : Nat) (H : Hp) : Prop := ∃ ls, H C = some (.lst (ls.map lv)) ∧ ls.length = n ∧ SmL ls
theorem IlL.nil {C : Addr} {H : Hp} : IlL C 0 (upd H C (.lst [])) := ⟨[], upd_same, rfl, fun _ h => absurd h (by simp)⟩
theorem IlL.but {d l C : Addr} {n : Nat} {H H' : Hp} (h : IlL C n H) (k : But d l H H') (Cd : C ≠ d) (Cl : C ≠ l) : IlL C n H' := by
  obtain ⟨ys, h1, h⟩ := h
  exact ⟨ys, k _ _ h1 Cd Cl, h⟩
theorem IlL.same {C : Addr} {n : Nat} {H H' : Hp} (h : IlL C n H) (k : Same H H') : IlL C n H' := by
  obtain ⟨ys, h1, h⟩ := h
  exact ⟨ys, k _ _ h1, h⟩
theorem il_stepL {d l : Addr} {Hb H4 : Hp} {C : Addr} {n : Nat} {x : Int ⊕ Bool} (hC : Hb C = none) (Cd : C ≠ d) (Cl : C ≠ l) (D : DeckAt H4 d l) (s : But d l Hb H4) (h : IlL C n H4) (hn : n ≤ 400) (hz : ∀ z, x = .inl z → z.natAbs < 2 ^ 100) : ∃ acc, H4 C = some (.lst acc) ∧ acc.length < sizeLine ∧ DeckAt (upd H4 C (.lst (acc ++ [lv x]))) d l ∧ But d l Hb (upd H4 C (.lst (acc ++ [lv x]))) ∧ IlL C (n + 1) (upd H4 C (.lst (acc ++ [lv x]))) := by
  obtain ⟨ys, h1, h2, h3⟩ := h
  refine ⟨_, h1, ?_, D.put Cd Cl, fun b o e hb1 hb2 => ?_, ys ++ [x], ?_, ?_, sm_snoc h3 hz⟩
  · rw [List.length_map, h2]
    exact Nat.lt_of_le_of_lt hn (by decide)
  · rw [upd_ne (ne_of_none e hC)]
    exact s _ _ e hb1 hb2
  · rw [upd_same, List.map_append]; rfl
  · rw [List.length_append, h2]; rfl
/-- a tuple of up to nine such -/
def TpL (H : Hp) (v : V) : Prop := ∃ (c : Addr) (ls : List (Int ⊕ Bool)), v = .ref c ∧ H c = some (.tup (ls.map lv)) ∧ ls.length ≤ 9 ∧ SmL ls
theorem TpL.but {d l : Addr} {H H' : Hp} {v : V} (h : TpL H v) (D : DeckAt H d l) (k : But d l H H') : TpL H' v := by
  obtain ⟨c, ls, e, h1, h⟩ := h
  exact ⟨c, ls, e, k _ _ h1 (D.offd h1) (D.offl h1), h⟩
theorem TpL.put {H : Hp} {C : Addr} {xs : List V} {o : HO} {v : V} (h : TpL H v) (hC : H C = some (.lst xs)) : TpL (upd H C o) v := by
  obtain ⟨c, ls, e, h1, h⟩ := h
  exact ⟨c, ls, e, by rw [upd_ne (L2.ne_of h1 hC (by intro z; cases z))]; exact h1, h⟩
def TlL (C : Addr) (n : Nat) (H : Hp) : Prop := ∃ vs : List V, H C = some (.lst vs) ∧ vs.length = n ∧ ∀ v ∈ vs, TpL H v
theorem TlL.nil {C : Addr} {H : Hp} : TlL C 0 (upd H C (.lst [])) := ⟨[], upd_same, rfl, fun _ h => absurd h (by simp)⟩
theorem TlL.but {d l C : Addr} {n : Nat} {H H' : Hp} (h : TlL C n H) (D : DeckAt H d l) (k : But d l H H') (Cd : C ≠ d) (Cl : C ≠ l) : TlL C n H' := by
  obtain ⟨vs, h1, h2, h3⟩ := h
  exact ⟨vs, k _ _ h1 Cd Cl, h2, fun v hv => (h3 v hv).but D k⟩
theorem tl_stepL {d l : Addr} {Hb H4 : Hp} {C : Addr} {n : Nat} {v : V} (hC : Hb C = none) (Cd : C ≠ d) (Cl : C ≠ l) (D : DeckAt H4 d l) (s : But d l Hb H4) (h : TlL C n H4) (hn : n ≤ 400) (hv : TpL H4 v) : ∃ acc, H4 C = some (.lst acc) ∧ acc.length < sizeLine ∧ DeckAt (upd H4 C (.lst (acc ++ [v]))) d l ∧ But d l Hb (upd H4 C (.lst (acc ++ [v]))) ∧ TlL C (n + 1) (upd H4 C (.lst (acc ++ [v]))) := by
  obtain ⟨ys, h1, h2, h3⟩ := h
  refine ⟨_, h1, ?_, D.put Cd Cl, fun b o e hb1 hb2 => ?_, ys ++ [v], upd_same, ?_, fun y hy => ?_⟩
  · rw [h2]
    exact Nat.lt_of_le_of_lt hn (by decide)
  · rw [upd_ne (ne_of_none e hC)]
    exact s _ _ e hb1 hb2
  · rw [List.length_append, h2]; rfl
  · rcases List.mem_append.mp hy with h | h
    · exact (h3 y h).put h1
    · rw [List.mem_singleton.mp h]; exact hv.put h1
theorem sqa_lv {ls : List (Int ⊕ Bool)} (h : SmL ls) : SqA 0 (ls.length * 3) (ls.map ld) := by
  have := sqa_all (k := 0) (m := 1) (ds := ls.map ld) fun e he => by
    obtain ⟨x, hx, rfl⟩ := List.mem_map.mp he
    cases x with
    | inl z => exact (rs_int (k := 0) (m := 0) (Nat.lt_trans (h z hx) (by decide))).q
    | inr b => cases b <;> exact ⟨by decide, by decide, by decide, by decide⟩
  rwa [List.length_map] at this
theorem tpl_dq {H : Hp} {d l : Addr} (D : DeckAt H d l) : ∀ {vs : List V}, (∀ v ∈ vs, TpL H v) → ∃ Ds, DqAll H (Off d l) vs Ds ∧ ∀ E ∈ Ds, Sq 1 29 E
  | [], _ => ⟨[], .nil, fun _ h => absurd h (by simp)⟩
  | v :: vs, h => by
    obtain ⟨c, ls, rfl, h1, h2, h3⟩ := h v List.mem_cons_self
    obtain ⟨Ds, t, k⟩ := tpl_dq D fun u hu => h u (List.mem_cons_of_mem _ hu)
    refine ⟨.tuple (ls.map ld) :: Ds, .cons (.tup ⟨D.offd h1, D.offl h1⟩ (.inl h1) (dqa_lv ls)) t, fun E hE => ?_⟩
    rcases List.mem_cons.mp hE with rfl | hE
    · exact (Sq.tup (sqa_lv h3)).mono (by decide) (by omega)
    · exact k E hE
/-- a tuple of up to nine such rows -/
theorem tab_dqL {H : Hp} {d l p : Addr} {vs : List V} (D : DeckAt H d l) (hp : H p = some (.tup vs)) (hl : vs.length ≤ 9) (h : ∀ v ∈ vs, TpL H v) : ∃ E, Dq H (Off d l) (.ref p) E ∧ Sq 8 4000 E := by
  obtain ⟨Ds, t, k⟩ := tpl_dq D h
  refine ⟨.tuple Ds, .tup ⟨D.offd hp, D.offl hp⟩ (.inl hp) t, (Sq.tup (sqa_all k)).mono (by decide) ?_⟩
  have := t.length
  omega
theorem tts_tpl {H : Hp} {b : Nat} (hb : b < 2 ^ 100) : ∀ {vs : List V} {rs : List (List Int)}, Tts H vs rs → (∀ r ∈ rs, r.length ≤ 9 ∧ ∀ x ∈ r, x.natAbs ≤ b) → ∀ v ∈ vs, TpL H v
  | _, _, .nil, _, v, hv => absurd hv (by simp)
  | _, _, .cons (r := r) h t, k, v, hv => by
    rcases List.mem_cons.mp hv with rfl | hv
    · exact ⟨_, r.map Sum.inl, rfl, by rw [lv_ints]; exact h, by rw [List.length_map]; exact (k r List.mem_cons_self).1, smL_ints fun x hx => Nat.lt_of_le_of_lt ((k r List.mem_cons_self).2 x hx) hb⟩
    · exact tts_tpl hb t (fun r hr => k r (List.mem_cons_of_mem _ hr)) v hv
end Ft

set_option exponentiation.threshold 9000
set_option maxHeartbeats 4000000
namespace Ft
open PySem L2 RZ
theorem dq_ld {H : Hp} {N : Addr → Prop} {v : V} : ∀ {x : Int ⊕ Bool}, Dq H N v (ld x) → v = lv x
  | .inl _, h => by cases h; rfl
  | .inr _, h => by cases h; rfl
theorem tts_dqP {H : Hp} {d l : Addr} (D : DeckAt H d l) : ∀ {ws : List V} {rows : List (List Int)}, Tts H ws rows → DqAll H (Off d l) ws (rows.map fun r => PyData.tuple (r.map PyData.int))
  | _, _, .nil => .nil
  | _, _, .cons h t => .cons (dq_intsT ⟨D.offd h, D.offl h⟩ h) (tts_dqP D t)
theorem eq2 {K : PySem.W.Frag} {H : Hp} {p1 p2 : Addr} {a b c e : Int} {Q : VK} (h1 : H p1 = some (.tup [.int a, .int b])) (h2 : H p2 = some (.tup [.int c, .int e])) (q : ∀ k : Bool, Q (.bl k) H) : rEqD K (.ref p1) (.ref p2) H Q :=
  ⟨_, _, .tup (SqT.of h1) (dp_ints [a, b]), .tup (SqT.of h2) (dp_ints [c, e]), shaped_tup [a, b], shaped_tup [c, e], q _⟩
theorem if_any {b : Bool} {A B : Prop} (h1 : A) (h2 : B) : if b = true then A else B := by cases b <;> assumption
def sp_other : Sp := fun vs H Q _ => ∃ (d l t : Addr) (rows : List (List Int)) (m : Nat), vs = [.ref d, .ref t] ∧ DeckAt H d l ∧ TabT H t rows ∧ TbB m (2 ^ 21) rows ∧ 2 ≤ m ∧ m ≤ 8 ∧ ∀ H' v D, DeckAt H' d l → But d l H H' → Dq H' (Off d l) v D → Sq 8 4000 D → Q v H'
section
variable {P : Program} {w : World} {K : PySem.W.Frag} {mg : Str → Option Value} {base : Heap}
theorem ok_other (D : Df K mg "_law_other" s__law_other ["_law_deck_here", "_law_form"]) (B : Bi mg) (c__law_draw : Cal P w K mg base 1 "_law_draw" sp_draw) (c__law_pick : Cal P w K mg base 2 "_law_pick" (sp_pick K)) (c__law_order : Cal P w K mg base 2 "_law_order" sp_order) (c__law_beside : Cal P w K mg base 1 "_law_beside" sp_beside) (c__law_bent : Cal P w K mg base 6 "_law_bent" sp_bgB) : Cal P w K mg base 7 "_law_other" sp_other := by
  obtain ⟨f, fd, F, m, b⟩ := D.ex
  have sc := sc__law_other
  refine ⟨f, fd, _, F.ok sc (fun _ _ _ _ ⟨_, _, _, _, _, e, _⟩ => by rw [e]; rfl) (fun cdv A outer s H vs Q E hr h => ?_), m, F.kp, b⟩
  obtain ⟨d, l, t, rows, m, rfl, D0, hT, hB, m2, m8, q⟩ := h
  have h64 : (A.deeper (PyProof.Rows.envOfC "_law_other" (defScope s__law_other) s.heap.objs.size f cdv)).units + 64 < cLine := by have := hr.un; omega
  refine ⟨_, (pss_cons (ps_par (i := 2) (j := 3) (by rfl) sc.nd rfl rfl (by decide) rfl rfl (pa_cons (pe_callB call_len_seq (by rfl) B.len_ (by decide +kernel) (pa_cons (pv 1) pa_nil)) (pa_cons (pe_c c__law_draw hr (by decide) (by rfl) (pa_cons (pv 0) (pa_cons pe_int pa_nil))) pa_nil)) (by rfl))
      (pss_cons (ps_asg (pe_tup (pa_cons (pe_c c__law_draw hr (by decide) (by rfl) (pa_cons (pv 0) (pa_cons (pv 2) pa_nil))) (pa_cons (pe_c c__law_draw hr (by decide) (by rfl) (pa_cons (pv 0) (pa_cons (pv 2) pa_nil))) pa_nil))) (pg_tup rfl (pgs_cons (pg_name (i := 4) sc.nd rfl (Or.inr rfl)) (pgs_cons (pg_name (i := 5) sc.nd rfl (Or.inr rfl)) pgs_nil))))
      (pss_cons (ps_if (pt_cmpR op_lt (pv 3) pe_int (nomark _))
      (pss_cons (ps_set (i := 6) sc.nd rfl (Or.inr rfl) (pe_c c__law_pick hr (by decide) (by rfl) (pa_cons (pv 0) (pa_cons (pe_lst (pa_cons (pe_op op_add (pe_ix (show IxR _ (rIx K) from ix_seq) (pe_ix (show IxR _ (rIx K) from ix_seq) (pv 1) (pv 4) (fun _ _ => rfl)) (pv 5) (fun _ _ => rfl)) pe_int) (pa_cons (pe_op op_sub (pe_ix (show IxR _ (rIx K) from ix_seq) (pe_ix (show IxR _ (rIx K) from ix_seq) (pv 1) (pv 4) (fun _ _ => rfl)) (pv 5) (fun _ _ => rfl)) pe_int) (pa_cons (pe_op op_add (pe_ix (show IxR _ (rIx K) from ix_seq) (pe_ix (show IxR _ (rIx K) from ix_seq) (pv 1) (pv 4) (fun _ _ => rfl)) (pv 5) (fun _ _ => rfl)) pe_int) (pa_cons (pe_un un_neg (pe_ix (show IxR _ (rIx K) from ix_seq) (pe_ix (show IxR _ (rIx K) from ix_seq) (pv 1) (pv 4) (fun _ _ => rfl)) (pv 5) (fun _ _ => rfl))) (pa_cons pe_int (pa_cons (pe_un un_neg pe_int) (pa_cons pe_int (pa_cons pe_int (pa_cons pe_bl (pa_cons pe_int pa_nil))))))))))) pa_nil))))
        (pss_cons (ps_set (i := 7) sc.nd rfl (Or.inr rfl) (pe_cmpR op_gt (pe_c c__law_draw hr (by decide) (by rfl) (pa_cons (pv 0) (pa_cons pe_int pa_nil))) pe_int (nomark _)))
        (pss_one (ps_ret (pe_callTy call_tuple_of (by rfl) B.tuple (by decide +kernel) (pa_cons (pe_lc (own := [("_law_a", 10), ("_law_row", 11)]) (g := gTup K 2 (gCons (gName 10) (gCons (gName 11) gNil))) (tt := tYes) (by rfl) sc.nd (pi_enumT (by rfl) B.enumerate (pa_cons (pv 1) pa_nil)) (blkOk_by (own := [("_law_a", 10), ("_law_row", 11)]) (N := N__law_other) (sc := defScope s__law_other) (by decide +kernel)) (fun _ _ _ _ _ => (pg_tup rfl (pgs_cons (pg_name (i := 10) sc.nd rfl (Or.inr rfl)) (pgs_cons (pg_name (i := 11) sc.nd rfl (Or.inl rfl) (Or.inr rfl)) pgs_nil)))) (fun _ _ _ _ _ => pts_nil) (fun _ _ _ _ _ => (pe_callTy (T := "tuple") (r := rTupQ K) call_tuple_of (by rfl) B.tuple (by decide +kernel) (pa_cons (pe_lc (own := [("_law_b", 8), ("_law_x", 9)]) (g := gTup K 2 (gCons (gName 8) (gCons (gName 9) gNil))) (tt := tYes) (by rfl) sc.nd (show PI _ _ _ (iEnumT K (tCons (tVar 11) tNil)) from pi_enumT (by rfl) B.enumerate (pa_cons (pv 11) pa_nil)) (blkOk_by (own := [("_law_b", 8), ("_law_x", 9)]) (N := N__law_other) (sc := { kind := ScopeKind.function, names := [(".0", NameKind.local), ("_law_a", NameKind.cell), ("_law_row", NameKind.local), ("tuple", NameKind.globalImplicit), ("enumerate", NameKind.globalImplicit), ("_law_both", NameKind.cell), ("_law_entry", NameKind.cell), ("_law_i", NameKind.cell), ("_law_j", NameKind.cell)], isGenerator := false, isCoroutine := false }) (by decide +kernel)) (fun _ _ _ _ _ => (pg_tup rfl (pgs_cons (pg_name (i := 8) sc.nd rfl (Or.inl rfl) (Or.inr rfl)) (pgs_cons (pg_name (i := 9) sc.nd rfl (Or.inl rfl) (Or.inr rfl)) pgs_nil)))) (fun _ _ _ _ _ => pts_nil) (fun _ _ _ _ _ => (pe_ifExp (PW.pt (pw_or (pt_cmpR (show OpR _ (compareOp .Eq) (rEqD K) from op_eqD h64) (pe_tup (pa_cons (pv 10) (pa_cons (pv 8) pa_nil))) (pe_tup (pa_cons (pv 4) (pa_cons (pv 5) pa_nil))) (nomark _)) (pw_or1 (PW.pt (pw_and (pt_val (pv 7)) (pw_and1 (pt_cmpR (show OpR _ (compareOp .Eq) (rEqD K) from op_eqD h64) (pe_tup (pa_cons (pv 8) (pa_cons (pv 10) pa_nil))) (pe_tup (pa_cons (pv 4) (pa_cons (pv 5) pa_nil))) (nomark _)))))))) (pv 6) (pv 9)))) pa_nil)))) pa_nil))))))
      pss_nil)
      (pss_cons (ps_if (pt_cmpR op_eq (pv 3) pe_int (nomark _))
      (pss_cons (ps_set (i := 13) sc.nd rfl (Or.inr rfl) (pe_lc (own := [("_law_at", 12)]) (g := gName 12)  (by rfl) sc.nd (pi_range1 rfl B.range (pa_cons (pv 2) pa_nil)) (blkOk_by (own := [("_law_at", 12)]) (N := N__law_other) (sc := defScope s__law_other) (by decide +kernel)) (fun _ _ _ _ _ => (pg_name (i := 12) sc.nd rfl (Or.inl rfl))) (fun _ _ _ _ _ => (pts_one (pt_cmpR (show OpR _ (compareOp .NotIn) (rIn K true) from op_notIn_seq) (pv 12) (pe_tup (pa_cons (pv 4) (pa_cons (pv 5) pa_nil))) (by rfl)))) (fun _ _ _ _ _ => (pv 12))))
        (pss_one (ps_ret (pe_callTy call_tuple_of (by rfl) B.tuple (by decide +kernel) (pa_cons (pe_lc (own := [("_law_a", 10)]) (g := gName 10) (tt := tYes) (by rfl) sc.nd (pi_list (pv 13)) (blkOk_by (own := [("_law_a", 10)]) (N := N__law_other) (sc := defScope s__law_other) (by decide +kernel)) (fun _ _ _ _ _ => (pg_name (i := 10) sc.nd rfl (Or.inr rfl))) (fun _ _ _ _ _ => pts_nil) (fun _ _ _ _ _ => (pe_callTy (T := "tuple") (r := rTupQ K) call_tuple_of (by rfl) B.tuple (by decide +kernel) (pa_cons (pe_lc (own := [("_law_b", 8)]) (g := gName 8) (tt := tYes) (by rfl) sc.nd (show PI _ _ _ (iList K (tVar 13)) from pi_list (pv 13)) (blkOk_by (own := [("_law_b", 8)]) (N := N__law_other) (sc := { kind := ScopeKind.function, names := [(".0", NameKind.local), ("_law_a", NameKind.cell), ("tuple", NameKind.globalImplicit), ("_law_form", NameKind.cell), ("_law_less", NameKind.cell)], isGenerator := false, isCoroutine := false }) (by decide +kernel)) (fun _ _ _ _ _ => (pg_name (i := 8) sc.nd rfl (Or.inl rfl))) (fun _ _ _ _ _ => pts_nil) (fun _ _ _ _ _ => (pe_ix (show IxR _ (rIx K) from ix_seq) (pe_ix (show IxR _ (rIx K) from ix_seq) (pv 1) (pv 10) (fun _ _ => rfl)) (pv 8) (fun _ _ => rfl)))) pa_nil)))) pa_nil)))))
      pss_nil)
      (pss_cons (ps_if (pt_cmpR op_eq (pv 3) pe_int (nomark _))
      (pss_one (ps_ret (pe_callTy call_tuple_of (by rfl) B.tuple (by decide +kernel) (pa_cons (pe_lc (own := [("_law_at", 12)]) (g := gName 12) (tt := tYes) (by rfl) sc.nd (pi_tup (pe_c c__law_order hr (by decide) (by rfl) (pa_cons (pv 0) (pa_cons (pv 2) pa_nil)))) (blkOk_by (own := [("_law_at", 12)]) (N := N__law_other) (sc := defScope s__law_other) (by decide +kernel)) (fun _ _ _ _ _ => (pg_name (i := 12) sc.nd rfl (Or.inl rfl))) (fun _ _ _ _ _ => pts_nil) (fun _ _ _ _ _ => (pe_ix (show IxR _ (rIx K) from ix_seq) (pv 1) (pv 12) (fun _ _ => rfl)))) pa_nil))))
      pss_nil)
      (pss_cons (ps_if (pt_cmpR op_eq (pv 3) pe_int (nomark _))
      (pss_one (ps_ret (pe_op op_catA (pe_callTy call_tuple_of (by rfl) B.tuple (by decide +kernel) (pa_cons (pe_lc (own := [("_law_row", 11)]) (g := gName 11) (tt := tYes) (by rfl) sc.nd (pi_tup (pv 1)) (blkOk_by (own := [("_law_row", 11)]) (N := N__law_other) (sc := defScope s__law_other) (by decide +kernel)) (fun _ _ _ _ _ => (pg_name (i := 11) sc.nd rfl (Or.inl rfl))) (fun _ _ _ _ _ => pts_nil) (fun _ _ _ _ _ => (pe_op (r := rCatA K) op_catA (pv 11) (pe_tup (pa_cons pe_int pa_nil))))) pa_nil)) (pe_tup (pa_cons (pe_op op_catA (pe_op (r := rRepT K) op_repT (pe_tup (pa_cons pe_int pa_nil)) (pv 2)) (pe_tup (pa_cons pe_int pa_nil))) pa_nil)))))
      pss_nil)
      (pss_cons (ps_if (pt_cmpR op_eq (pv 3) pe_int (nomark _))
      (pss_one (ps_ret (pe_callTy call_tuple_of (by rfl) B.tuple (by decide +kernel) (pa_cons (pe_lc (own := [("_law_a", 10), ("_law_row", 11)]) (g := gTup K 2 (gCons (gName 10) (gCons (gName 11) gNil))) (tt := tYes) (by rfl) sc.nd (pi_enumT (by rfl) B.enumerate (pa_cons (pv 1) pa_nil)) (blkOk_by (own := [("_law_a", 10), ("_law_row", 11)]) (N := N__law_other) (sc := defScope s__law_other) (by decide +kernel)) (fun _ _ _ _ _ => (pg_tup rfl (pgs_cons (pg_name (i := 10) sc.nd rfl (Or.inr rfl)) (pgs_cons (pg_name (i := 11) sc.nd rfl (Or.inl rfl) (Or.inr rfl)) pgs_nil)))) (fun _ _ _ _ _ => pts_nil) (fun _ _ _ _ _ => (pe_callTy (T := "tuple") (r := rTupQ K) call_tuple_of (by rfl) B.tuple (by decide +kernel) (pa_cons (pe_lc (own := [("_law_b", 8), ("_law_x", 9)]) (g := gTup K 2 (gCons (gName 8) (gCons (gName 9) gNil))) (tt := tYes) (by rfl) sc.nd (show PI _ _ _ (iEnumT K (tCons (tVar 11) tNil)) from pi_enumT (by rfl) B.enumerate (pa_cons (pv 11) pa_nil)) (blkOk_by (own := [("_law_b", 8), ("_law_x", 9)]) (N := N__law_other) (sc := { kind := ScopeKind.function, names := [(".0", NameKind.local), ("_law_a", NameKind.cell), ("_law_row", NameKind.local), ("tuple", NameKind.globalImplicit), ("enumerate", NameKind.globalImplicit), ("_law_deck_here", NameKind.cell)], isGenerator := false, isCoroutine := false }) (by decide +kernel)) (fun _ _ _ _ _ => (pg_tup rfl (pgs_cons (pg_name (i := 8) sc.nd rfl (Or.inl rfl) (Or.inr rfl)) (pgs_cons (pg_name (i := 9) sc.nd rfl (Or.inl rfl) (Or.inr rfl)) pgs_nil)))) (fun _ _ _ _ _ => pts_nil) (fun _ _ _ _ _ => (pe_ifExp (pt_cmpR op_eq (pv 10) (pv 8) (nomark _)) (pe_op op_mulW (pv 9) (pe_c c__law_pick hr (by decide) (by rfl) (pa_cons (pv 0) (pa_cons (pe_lst (pa_cons pe_int (pa_cons pe_int (pa_cons pe_int pa_nil)))) pa_nil)))) (pv 9)))) pa_nil)))) pa_nil))))
      pss_nil)
      (pss_cons (ps_if (PW.pt (pw_and (pt_cmpR op_eq (pv 3) pe_int (nomark _)) (pw_and1 (pt_cmpR op_gt (pv 2) pe_int (nomark _)))))
      (pss_cons (ps_set (i := 14) sc.nd rfl (Or.inl rfl) (pe_c c__law_beside hr (by decide) (by rfl) (pa_cons (pe_tup (pa_cons (pe_tup (pa_cons pe_int (pa_cons pe_int pa_nil))) (pa_cons (pe_tup (pa_cons pe_int (pa_cons pe_int pa_nil))) pa_nil))) (pa_cons (pe_tup (pa_cons (pe_tup (pa_cons pe_int (pa_cons pe_int pa_nil))) (pa_cons (pe_tup (pa_cons pe_int (pa_cons pe_int pa_nil))) pa_nil))) pa_nil))))
        (pss_one (ps_ret (pe_ifExp (pt_cmpR op_eq (pv 2) pe_int (nomark _)) (pe_c c__law_beside hr (by decide) (by rfl) (pa_cons (pv 14) (pa_cons (pv 1) pa_nil))) (pv 14)))))
      pss_nil)
      (pss_one (ps_ret (pe_ifExp (pt_cmpR op_eq (pv 3) pe_int (nomark _)) (pv 1) (pe_c c__law_bent hr (by decide) (by rfl) (pa_cons (pv 0) (pa_cons (pv 1) (pa_cons pe_int pa_nil))))))))))))))), ?_⟩
  obtain ⟨w1, ht, tw1⟩ := id hT
  have l1 : w1.length = m := by rw [tw1.len, hB.lm]
  refine ⟨_, rfl, t, _, rfl, .inr (SqT.of ht), _, rfl, d, l, 11, rfl, D0, by decide, by decide, fun H1 way D1 b1 v0 v1 => ?_⟩
  rw [show ((w1.length : Nat) : Int) = (m : Int) by omega]
  refine ⟨_, _, rfl, ?_⟩
  refine ⟨_, rfl, _, rfl, d, l, m, rfl, D1, by omega, by omega, fun H2 i0 D2 b2 i1 i2 => ⟨_, rfl, _, rfl, d, l, m, rfl, D2, by omega, by omega, fun H3 j0 D3 b3 j1 j2 => ⟨two_sz, fun T hT0 => ⟨T, _, rfl, SqT.of upd_same, rfl, ⟨_, _, rfl, _, _, rfl, rfl, ?_⟩⟩⟩⟩⟩
  have ks := Same.upd_new (o := .tup [V.int i0, V.int j0]) hT0
  have b04 := ((b1.trans b2).trans b3).trans (But.of ks)
  have D4 := D3.same ks
  generalize upd H3 T (.tup [V.int i0, V.int j0]) = H4 at b04 D4
  clear ks hT0 b1 b2 b3 D1 D2 D3
  have hT4 := hT.but D0 b04
  obtain ⟨i', rfl⟩ : ∃ k : Nat, i0 = (k : Int) := ⟨i0.toNat, by omega⟩
  obtain ⟨j', rfl⟩ : ∃ k : Nat, j0 = (k : Int) := ⟨j0.toNat, by omega⟩
  clear hT ht tw1
  obtain ⟨w1, ht, tw1⟩ := id hT4
  have l1 : w1.length = m := by rw [tw1.len, hB.lm]
  have offt := D4.offd ht
  have offl := D4.offl ht
  have bnd : ∀ {r : List Int}, r ∈ rows → ∀ {x : Int}, x ∈ r → x.natAbs ≤ 2 ^ 21 := fun hr _ hx => hB.bd _ hr _ hx
  have s40 : ∀ n : Nat, n ≤ 100 → n ≤ sizeLine := fun n h => Nat.le_trans h (by decide)
  have lm := hB.lm
  have finT : ∀ {H7 : Hp} {p : Addr} {vs : List V}, DeckAt H7 d l → But d l H H7 → (∀ v ∈ vs, TpL H7 v) → vs.length ≤ 9 → H7 p = none → Q (.ref p) (upd H7 p (.tup vs)) := fun {H7 p vs} D7 b7 hv hl hp => by
    have s8 := Same.upd_new (o := .tup vs) hp
    obtain ⟨E, dq, sq⟩ := tab_dqL (D7.same s8) upd_same hl fun v h => (hv v h).but D7 (But.of s8)
    exact q _ _ E (D7.same s8) (b7.trans (But.of s8)) dq sq
  have tpT : ∀ {H7 : Hp} {p : Addr} {ls : List (Int ⊕ Bool)}, H7 p = none → ls.length ≤ 9 → SmL ls → TpL (upd H7 p (.tup (ls.map lv))) (.ref p) := fun {H7 p ls} hp h1 h2 => ⟨p, ls, rfl, upd_same, h1, h2⟩
  have lrI : ∀ {r : List Int}, r ∈ rows → r.length = m := fun h => hB.lr _ h
  have tabQ : ∀ {H7 : Hp} {t7 : Addr} {rows7 : List (List Int)} {m7 : Nat}, DeckAt H7 d l → But d l H H7 → TabT H7 t7 rows7 → TbB m7 (2 ^ 21) rows7 → m7 ≤ 9 → Q (.ref t7) H7 := fun {H7 t7 rows7 m7} D7 b7 T7 B7 h9 => by
    obtain ⟨w7, a7, t7⟩ := T7
    obtain ⟨E, dq, sq⟩ := tab_dqL D7 a7 (by rw [t7.len, B7.lm]; exact h9) (tts_tpl (b := 2 ^ 21) (by decide) t7 fun r hr => ⟨by rw [B7.lr r hr]; exact h9, B7.bd r hr⟩)
    exact q _ _ E D7 b7 dq sq
  have sm21 : ∀ {y : Int}, y.natAbs ≤ 2 ^ 30 → ∀ z : Int, (Sum.inl y : Int ⊕ Bool) = .inl z → z.natAbs < 2 ^ 100 := fun h z e => by cases e; exact Nat.lt_of_le_of_lt h (by decide)
  refine at_state [some (.ref d), some (.ref t), some (.int m), some (.int way), some (.int (i' : Int)), some (.int (j' : Int)), none, none, none, none, none, none, none, none, none] rfl ?_
  refine ⟨_, rfl, _, _, rfl, rfl, _, rfl, ifD (fun _ => ?_) fun _ => ?_⟩
  · have nw : ∀ p, H4 p = none → Off d l p := fun p hp => D4.new hp
    have gr : rows.getD i' [] ∈ rows := mem_getD (by omega)
    have ge : (rows.getD i' []).getD j' 0 ∈ rows.getD i' [] := getD_memI (by rw [hB.lr _ gr]; omega)
    have eb := bnd gr ge
    obtain ⟨e, he⟩ : ∃ e : Int, (rows.getD i' []).getD j' 0 = e := ⟨_, rfl⟩
    rw [he] at eb
    have mkF : ∀ {σ : L2.St}, σ[1]? = some (some (.ref t)) → σ[4]? = some (some (.int (i' : Int))) → σ[5]? = some (some (.int (j' : Int))) → Mk (Off d l) σ H4 (tOp (rIx K) (tOp (rIx K) (tVar 1) (tVar 4)) (tVar 5)) (.int e) := fun h1 h4 h5 => by
      intro H5 Q5 s5 q5
      refine ⟨_, h1, _, h4, row_at (hT4.same s5) lm (by omega) fun c hc => ⟨_, h5, ent_of hc (by rw [hB.lr _ gr]; omega) ?_⟩⟩
      rw [he]
      exact q5 _ _ (Same.refl _) (.int _)
    refine pick_mk (Ds := [.int (e + 1), .int (e - 2), .int (e + 2), .int (-e), .int 100, .int (-100), .int 101, .int 0, .bool true, .int 1]) (mka_cons (mk_i0 (mkF rfl rfl rfl) mk_int) (mka_cons (mk_i0 (mkF rfl rfl rfl) mk_int) (mka_cons (mk_i0 (mkF rfl rfl rfl) mk_int) (mka_cons (mk_neg (mkF rfl rfl rfl)) (mka_cons mk_int (mka_cons (mk_neg mk_int) (mka_cons mk_int (mka_cons mk_int (mka_cons mk_bl (mka_cons mk_int mka_nil)))))))))) (s40 _ (Nat.le_of_ble_eq_true rfl)) (Nat.lt_of_lt_of_le (by decide : 0 < 10) (Nat.le_of_ble_eq_true rfl)) (Nat.lt_of_le_of_lt (Nat.le_of_ble_eq_true rfl : _ ≤ 10) (by decide)) rfl D4 fun H5 v DD D5 b5 dq hD => ?_
    obtain ⟨en, rfl, hen⟩ : ∃ x : Int ⊕ Bool, v = lv x ∧ ∀ z, x = .inl z → z.natAbs < 2 ^ 100 := by
      have key : ∃ x : Int ⊕ Bool, DD = ld x ∧ ∀ z, x = .inl z → z.natAbs < 2 ^ 100 := by
        simp only [List.mem_cons, List.not_mem_nil, or_false] at hD
        have sm : ∀ {y : Int}, y.natAbs ≤ 2 ^ 22 → ∀ z : Int, (Sum.inl y : Int ⊕ Bool) = .inl z → z.natAbs < 2 ^ 100 := fun h z e => by cases e; exact Nat.lt_of_le_of_lt h (by decide)
        rcases hD with rfl | rfl | rfl | rfl | rfl | rfl | rfl | rfl | rfl | rfl
        · exact ⟨.inl _, rfl, sm (by omega)⟩
        · exact ⟨.inl _, rfl, sm (by omega)⟩
        · exact ⟨.inl _, rfl, sm (by omega)⟩
        · exact ⟨.inl _, rfl, sm (by omega)⟩
        · exact ⟨.inl _, rfl, sm (by decide)⟩
        · exact ⟨.inl _, rfl, sm (by decide)⟩
        · exact ⟨.inl _, rfl, sm (by decide)⟩
        · exact ⟨.inl _, rfl, sm (by decide)⟩
        · exact ⟨.inr _, rfl, fun z e => by cases e⟩
        · exact ⟨.inl _, rfl, sm (by decide)⟩
      obtain ⟨x, rfl, hx⟩ := key
      exact ⟨x, dq_ld dq, hx⟩
    dsimp only [gName]
    refine ⟨_, rfl, d, l, 4, rfl, D5, by decide, by decide, fun H6 r0 D6 b6 _ _ => ⟨_, _, rfl, rfl, ?_⟩⟩
    have b06 := (b04.trans b5).trans b6
    have b46 := b5.trans b6
    have hT6 := hT4.but D4 b46
    have ht6 := b46 _ _ ht offt offl
    clear hD dq
    obtain ⟨w6, _, tw6⟩ := id hT6
    cases ht6.symm.trans ‹H6 t = some (.tup w6)›
    dsimp only [gName]
    refine at_state [some (.ref d), some (.ref t), some (.int m), some (.int way), some (.int (i' : Int)), some (.int (j' : Int)), some (lv en), some (.bl (decide (0 < r0))), none, none, none, none, none, none, none] rfl ?_
    refine ⟨_, rfl, t, _, rfl, SqT.of ht6, fun C hC => ?_⟩
    obtain ⟨Cd, Cl⟩ := D6.new hC
    refine lc_it (walk_enumT (K := K) (a := t) (xs := w1)) (fun i H' => DeckAt H' d l ∧ But d l H6 H' ∧ TlL C i H') ⟨D6.put Cd Cl, But.of (Same.upd_new hC), .nil⟩ (fun i H' _ ⟨_, z, _⟩ => SqT.of (z _ _ ht6 offt offl)) ?_ ?_
    · rintro i x Ha Hb hi ⟨Da, ba, ta⟩ ⟨Tp, x, y, rfl, hTp, rfl, hx1, hy1⟩
      cases hx1
      obtain ⟨c1, r, rfl, hr1, hc1⟩ := tw6.get hy1
      have rm := List.mem_of_getElem? hr1
      have k1 := Same.upd_new (o := .tup [V.int (i : Nat), V.ref c1]) hTp
      refine ⟨Tp, _, rfl, SqT.of upd_same, rfl, ?_⟩
      refine ⟨_, _, rfl, _, _, rfl, rfl, rfl, ?_⟩
      have Db := Da.same k1
      have bb := ba.trans (But.of k1)
      have tb := ta.but Da (But.of k1) Cd Cl
      generalize upd Ha Tp (.tup [V.int (i : Nat), V.ref c1]) = Hb at Db bb tb
      clear k1 ta ba Da hTp
      have hc2 := bb _ _ hc1 (D6.offd hc1) (D6.offl hc1)
      refine ⟨_, rfl, c1, _, rfl, SqT.of hc2, fun C2 hC2 => ?_⟩
      obtain ⟨C2d, C2l⟩ := Db.new hC2
      refine lc_it (walk_enumT (K := K) (a := c1) (xs := r.map V.int)) (fun i H' => DeckAt H' d l ∧ But d l Hb H' ∧ IlL C2 i H') ⟨Db.put C2d C2l, But.of (Same.upd_new hC2), .nil⟩ (fun i H' _ ⟨_, z, _⟩ => SqT.of (z _ _ hc2 (Db.offd hc2) (Db.offl hc2))) ?_ ?_
      · rintro k x Hc Hd hk ⟨Dc, bc, ic⟩ ⟨Tq, x, y, rfl, hTq, rfl, hx2, hy2⟩
        cases hx2
        obtain ⟨y, rfl, hy⟩ := int_at hy2
        have ym := List.mem_of_getElem? hy
        have kl := (List.getElem?_eq_some_iff.mp hy).1
        have k2 := Same.upd_new (o := .tup [V.int (k : Nat), V.int y]) hTq
        refine ⟨Tq, _, rfl, SqT.of upd_same, rfl, ?_⟩
        refine ⟨_, _, rfl, _, _, rfl, rfl, ?_⟩
        have Dd := Dc.same k2
        have bd := bc.trans (But.of k2)
        have id2 := ic.same k2
        generalize upd Hc Tq (.tup [V.int (k : Nat), V.int y]) = Hd at Dd bd id2
        have lr1 := lrI rm
        have finE : ∀ H', Same Hd H' → ∃ acc, H' C2 = some (.lst acc) ∧ acc.length < sizeLine ∧ DeckAt (upd H' C2 (.lst (acc ++ [lv en]))) d l ∧ But d l Hb (upd H' C2 (.lst (acc ++ [lv en]))) ∧ IlL C2 (k + 1) (upd H' C2 (.lst (acc ++ [lv en]))) := fun H' sd => il_stepL hC2 C2d C2l (Dd.same sd) (bd.trans (But.of sd)) (id2.same sd) (by omega) hen
        have finX : ∀ H', Same Hd H' → ∃ acc, H' C2 = some (.lst acc) ∧ acc.length < sizeLine ∧ DeckAt (upd H' C2 (.lst (acc ++ [V.int y]))) d l ∧ But d l Hb (upd H' C2 (.lst (acc ++ [V.int y]))) ∧ IlL C2 (k + 1) (upd H' C2 (.lst (acc ++ [V.int y]))) := fun H' sd => il_stepL (x := .inl y) hC2 C2d C2l (Dd.same sd) (bd.trans (But.of sd)) (id2.same sd) (by omega) (sm21 (Nat.le_trans (bnd rm ym) (by decide)))
        refine ⟨rfl, _, rfl, _, rfl, two_sz, fun p1 n1 => ⟨_, rfl, _, rfl, two_sz, fun p2 n2 => ?_⟩⟩
        have u1 := Same.upd_new (o := .tup [V.int (i : Nat), V.int (k : Nat)]) n1
        have u2 := Same.upd_new (o := .tup [V.int (i' : Int), V.int (j' : Int)]) n2
        refine eq2 (u2 _ _ upd_same) upd_same fun b1 => ⟨_, rfl, ?_⟩
        cases b1 with
        | true => exact iteT ⟨_, rfl, finE _ (u1.trans u2)⟩
        | false =>
        refine iteF ⟨_, rfl, _, rfl, ?_⟩
        have s2 := u1.trans u2
        cases hb2 : decide (0 < r0) with
        | true =>
          refine ⟨_, rfl, _, rfl, two_sz, fun p3 n3 => ⟨_, rfl, _, rfl, two_sz, fun p4 n4 => ?_⟩⟩
          have u3 := Same.upd_new (o := .tup [V.int (k : Nat), V.int (i : Nat)]) n3
          have u4 := Same.upd_new (o := .tup [V.int (i' : Int), V.int (j' : Int)]) n4
          refine eq2 (u4 _ _ upd_same) upd_same fun b2 => ⟨_, rfl, ?_⟩
          cases b2 with
          | true => exact ⟨_, rfl, finE _ (s2.trans (u3.trans u4))⟩
          | false => exact ⟨_, rfl, finX _ (s2.trans (u3.trans u4))⟩
        | false => exact ⟨_, rfl, finX _ s2⟩
      rintro Hc ⟨Dc, bc, ls, g1, g2, g3⟩
      rw [List.length_map, lrI rm] at g2
      refine ⟨C2, _, rfl, .inl ⟨SqL.of g1, fun p hp => ?_⟩⟩
      have kp := Same.upd_new (o := .tup (ls.map lv)) hp
      exact tl_stepL hC Cd Cl (Dc.same kp) ((bb.trans bc).trans (But.of kp)) ((tb.but Db bc Cd Cl).but Dc (But.of kp) Cd Cl) (by omega) (tpT hp (by omega) g3)
    rintro H7 ⟨D7, b7, vs, g1, g2, g3⟩
    exact ⟨C, _, rfl, .inl ⟨SqL.of g1, fun p hp => finT D7 (b06.trans b7) g3 (by omega) hp⟩⟩
  dsimp only [tNext]
  refine ⟨_, rfl, rfl, _, rfl, ifI (fun _ => ?_) fun _ => ?_⟩
  · refine ⟨_, rfl, m, rfl, by omega, by omega, fun C hC => ?_⟩
    refine lc_it (walk_range (lo := 0) (n := Int.toNat (m : Int))) (fun i H' => Same H4 H' ∧ ∃ ks : List Nat, H' C = some (.lst (ks.map fun k : Nat => V.int (k : Int))) ∧ ks.length ≤ i ∧ ∀ k ∈ ks, k < m) ⟨Same.upd_new hC, [], upd_same, Nat.le_refl _, fun _ h => absurd h (by simp)⟩ (fun _ _ _ _ => trivial) ?_ ?_
    · rintro i x Ha Hb hi ⟨ka, ks, g1, g2, g3⟩ y0
      obtain ⟨rfl, rfl⟩ := y0
      dsimp only [gName]
      refine ⟨rfl, _, rfl, _, rfl, _, rfl, two_sz, fun p hp => ⟨p, _, rfl, .inr (SqT.of upd_same), rfl, rfl, ⟨_, rfl, ?_⟩⟩⟩
      have s1 := Same.upd_new (o := .tup [V.int (i' : Int), V.int (j' : Int)]) hp
      have ks1 := ka.trans s1
      have g4 := s1 _ _ g1
      refine if_any ?_ ?_
      · refine ⟨_, rfl, _, g4, ?_, fun b o e => ?_, ks ++ [i], ?_, by rw [List.length_append]; show ks.length + 1 ≤ i + 1; omega, fun k hk => ?_⟩
        · rw [List.length_map]
          exact Nat.lt_of_le_of_lt (by omega : _ ≤ 400) (by decide)
        · rw [upd_ne (ne_of_none e hC)]
          exact ks1 _ _ e
        · rw [upd_same, List.map_append, Int.zero_add]; rfl
        · rcases List.mem_append.mp hk with h | h
          · exact g3 k h
          · rw [List.mem_singleton.mp h]; omega
      · exact ⟨ks1, ks, g4, by omega, g3⟩
    rintro H5 ⟨s5, ks, g1, g2, g3⟩
    have D5 := D4.same s5
    have b05 := b04.trans (But.of s5)
    have hT5 := hT4.same s5
    obtain ⟨Cd, Cl⟩ : C ≠ d ∧ C ≠ l := D4.new hC
    dsimp only [gName]
    refine at_state [some (.ref d), some (.ref t), some (.int m), some (.int way), some (.int (i' : Int)), some (.int (j' : Int)), none, none, none, none, none, none, none, some (.ref C), none] rfl ?_
    refine ⟨_, rfl, C, rfl, ⟨_, SqL.of g1⟩, fun C2 hC2 => ?_⟩
    obtain ⟨C2d, C2l⟩ := D5.new hC2
    refine lc_it (walk_list (K := K) (a := C) (xs := ks.map fun k : Nat => V.int (k : Int))) (fun i H' => DeckAt H' d l ∧ But d l H5 H' ∧ TlL C2 i H') ⟨D5.put C2d C2l, But.of (Same.upd_new hC2), .nil⟩ (fun i H' _ ⟨_, z, _⟩ => SqL.of (z _ _ g1 Cd Cl)) ?_ ?_
    · rintro i x Ha Hb hi ⟨Da, ba, ta⟩ ⟨rfl, hx0⟩
      have il := (List.getElem?_eq_some_iff.mp hx0).1
      rw [List.length_map] at il
      rw [List.getElem?_map, List.getElem?_eq_getElem il] at hx0
      cases hx0
      have ki := g3 _ (List.getElem_mem il)
      generalize ks[i] = kk at ki
      have g1b := ba _ _ g1 Cd Cl
      dsimp only [gName]
      refine ⟨rfl, _, rfl, C, rfl, ⟨_, SqL.of g1b⟩, fun C3 hC3 => ?_⟩
      obtain ⟨C3d, C3l⟩ := Da.new hC3
      refine lc_it (walk_list (K := K) (a := C) (xs := ks.map fun k : Nat => V.int (k : Int))) (fun i H' => DeckAt H' d l ∧ But d l Hb H' ∧ IlL C3 i H') ⟨Da.put C3d C3l, But.of (Same.upd_new hC3), .nil⟩ (fun i H' _ ⟨_, z, _⟩ => SqL.of (z _ _ g1b Cd Cl)) ?_ ?_
      · rintro j x Hc Hd hj ⟨Dc, bc, ic⟩ ⟨rfl, hx1⟩
        have jl := (List.getElem?_eq_some_iff.mp hx1).1
        rw [List.length_map] at jl
        rw [List.getElem?_map, List.getElem?_eq_getElem jl] at hx1
        cases hx1
        have kj := g3 _ (List.getElem_mem jl)
        generalize ks[j] = kl at kj
        have gr : rows.getD kk [] ∈ rows := mem_getD (by omega)
        dsimp only [gName]
        refine ⟨rfl, _, rfl, _, rfl, row_at ((hT5.but D5 ba).but Da bc) lm ki fun c hc => ⟨_, rfl, ent_of hc (by rw [hB.lr _ gr]; omega) ?_⟩⟩
        exact il_stepL (x := .inl _) hC3 C3d C3l Dc bc ic (by omega) (sm21 (Nat.le_trans (bnd gr (getD_memI (by rw [hB.lr _ gr]; omega))) (by decide)))
      rintro Hc ⟨Dc, bc, ls, f1, f2, f3⟩
      rw [List.length_map] at f2
      refine ⟨C3, _, rfl, .inl ⟨SqL.of f1, fun p hp => ?_⟩⟩
      have kp := Same.upd_new (o := .tup (ls.map lv)) hp
      exact tl_stepL hC2 C2d C2l (Dc.same kp) ((ba.trans bc).trans (But.of kp)) ((ta.but Da bc C2d C2l).but Dc (But.of kp) C2d C2l) (by omega) (tpT hp (by omega) f3)
    rintro H7 ⟨D7, b7, vs, f1, f2, f3⟩
    rw [List.length_map] at f2
    exact ⟨C2, _, rfl, .inl ⟨SqL.of f1, fun p hp => finT D7 (b05.trans b7) f3 (by omega) hp⟩⟩
  dsimp only [tNext]
  refine ⟨_, rfl, rfl, _, rfl, ifI (fun _ => ?_) fun _ => ?_⟩
  · refine ⟨_, rfl, _, rfl, d, l, m, rfl, D4, by omega, m8, fun H5 p xs D5 b5 hp lx bx => ⟨p, rfl, ⟨_, SqT.of hp⟩, fun C hC => ?_⟩⟩
    obtain ⟨Cd, Cl⟩ := D5.new hC
    have hT5 := hT4.but D4 b5
    obtain ⟨w5, ht5, tw5⟩ := id hT5
    have tp5 := tts_tpl (b := 2 ^ 21) (by decide) tw5 fun r hr => ⟨by rw [hB.lr r hr]; omega, hB.bd r hr⟩
    have l5 := tw5.len
    refine lc_it (walk_tup (K := K) (a := p) (xs := xs.map V.int)) (fun i H' => DeckAt H' d l ∧ But d l H5 H' ∧ TlL C i H') ⟨D5.put Cd Cl, But.of (Same.upd_new hC), .nil⟩ (fun i H' _ ⟨_, z, _⟩ => SqT.of (z _ _ hp (D5.offd hp) (D5.offl hp))) ?_ ?_
    · rintro i x Ha Hb hi ⟨Da, ba, ta⟩ ⟨rfl, hx0⟩
      obtain ⟨y, rfl, hy⟩ := int_at hx0
      have il := (List.getElem?_eq_some_iff.mp hy).1
      obtain ⟨y0, y1⟩ := bx y (List.mem_of_getElem? hy)
      obtain ⟨k, rfl⟩ : ∃ k : Nat, y = (k : Int) := ⟨y.toNat, by omega⟩
      have kl : k < w5.length := by omega
      dsimp only [gName]
      refine ⟨rfl, _, rfl, _, rfl, .inr (.inl ⟨t, w5, (k : Int), w5[k], rfl, rfl, SqT.of (ba _ _ ht5 (D5.offd ht5) (D5.offl ht5)), atI_nat (List.getElem?_eq_getElem kl), ?_⟩)⟩
      exact tl_stepL hC Cd Cl Da ba ta (by omega) ((tp5 _ (List.getElem_mem kl)).but D5 ba)
    rintro H7 ⟨D7, b7, vs, f1, f2, f3⟩
    rw [List.length_map, lx] at f2
    exact ⟨C, _, rfl, .inl ⟨SqL.of f1, fun p hp => finT D7 ((b04.trans b5).trans b7) f3 (by omega) hp⟩⟩
  dsimp only [tNext]
  refine ⟨_, rfl, rfl, _, rfl, ifI (fun _ => ?_) fun _ => ?_⟩
  · refine ⟨_, rfl, t, rfl, ⟨_, SqT.of ht⟩, fun C hC => ?_⟩
    obtain ⟨Cd, Cl⟩ := D4.new hC
    refine lc_it (walk_tup (K := K) (a := t) (xs := w1)) (fun i H' => DeckAt H' d l ∧ But d l H4 H' ∧ TlL C i H') ⟨D4.put Cd Cl, But.of (Same.upd_new hC), .nil⟩ (fun i H' _ ⟨_, z, _⟩ => SqT.of (z _ _ ht offt offl)) ?_ ?_
    · rintro i x Ha Hb hi ⟨Da, ba, ta⟩ ⟨rfl, hx0⟩
      obtain ⟨c1, r, rfl, hr1, hc1⟩ := tw1.get hx0
      have il := (List.getElem?_eq_some_iff.mp hx0).1
      have rm := List.mem_of_getElem? hr1
      have lr := lrI rm
      have hc2 := ba _ _ hc1 (D4.offd hc1) (D4.offl hc1)
      dsimp only [gName]
      refine ⟨rfl, _, rfl, one_sz, fun p1 n1 => ?_⟩
      have k1 := Same.upd_new (o := .tup [V.int 0]) n1
      refine ⟨c1, p1, _, _, rfl, rfl, SqT.of (k1 _ _ hc2), SqT.of upd_same, ?_, fun e => ?_, fun _ e => (by cases e), fun _ _ p3 n3 => ?_⟩
      · rw [List.length_map, lr]
        exact Nat.le_trans (show m + 1 ≤ 400 by omega) (by decide)
      · have := congrArg List.length e
        rw [List.length_map, lr] at this
        exact absurd this (by simp; omega)
      have k3 := Same.upd_new (o := .tup (r.map V.int ++ [V.int 0])) n3
      have k13 := k1.trans k3
      refine tl_stepL hC Cd Cl (Da.same k13) (ba.trans (But.of k13)) (ta.but Da (But.of k13) Cd Cl) (by omega) ⟨p3, (r ++ [0]).map Sum.inl, rfl, ?_, ?_, ?_⟩
      · rw [lv_ints, List.map_append]; exact upd_same
      · rw [List.length_map, List.length_append, lr]; show m + 1 ≤ 9; omega
      · refine smL_ints fun x hx => ?_
        rcases List.mem_append.mp hx with h | h
        · exact Nat.lt_of_le_of_lt (bnd rm h) (by decide)
        · rw [List.mem_singleton.mp h]; decide
    rintro H5 ⟨D5, b5, vs, f1, f2, f3⟩
    refine ⟨C, _, rfl, .inl ⟨SqL.of f1, fun p hp => ?_⟩⟩
    have kp := Same.upd_new (o := .tup vs) hp
    have gp : (upd H5 p (.tup vs)) p = some (.tup vs) := upd_same
    generalize upd H5 p (.tup vs) = H6 at kp gp
    have D6 := D5.same kp
    have f6 : ∀ v ∈ vs, TpL H6 v := fun v hv => (f3 v hv).but D5 (But.of kp)
    have b06 := (b04.trans b5).trans (But.of kp)
    refine ⟨one_sz, fun p1 n1 => ⟨_, rfl, p1, _, _, rfl, rfl, SqT.of upd_same, (by intro z; cases z), by omega, by omega, one_th, fun p2 n2 => ?_⟩⟩
    have k1 := Same.upd_new (o := .tup [V.int 0]) n1
    have e2 : (List.replicate (Int.toNat (m : Int)) [V.int 0]).flatten = (List.replicate m (0 : Int)).map V.int := by rw [Int.toNat_natCast, rep_zero]
    rw [e2]
    have k2 := Same.upd_new (o := .tup ((List.replicate m (0 : Int)).map V.int)) n2
    refine ⟨one_sz, fun p3 n3 => ?_⟩
    have k3 := Same.upd_new (o := .tup [V.int 2]) n3
    refine ⟨p2, p3, _, _, rfl, rfl, SqT.of (k3 _ _ upd_same), SqT.of upd_same, ?_, fun e => ?_, fun _ e => (by cases e), fun _ _ p4 n4 => ?_⟩
    · rw [List.length_map, List.length_replicate]
      exact Nat.le_trans (show m + 1 ≤ 400 by omega) (by decide)
    · have := congrArg List.length e
      rw [List.length_map, List.length_replicate] at this
      exact absurd this (by simp; omega)
    have k4 := Same.upd_new (o := .tup ((List.replicate m (0 : Int)).map V.int ++ [V.int 2])) n4
    have k64 := (k1.trans k2).trans (k3.trans k4)
    have tl4 : TpL (upd (upd (upd (upd H6 p1 (.tup [V.int 0])) p2 (.tup ((List.replicate m (0 : Int)).map V.int))) p3 (.tup [V.int 2])) p4 (.tup ((List.replicate m (0 : Int)).map V.int ++ [V.int 2]))) (.ref p4) := ⟨p4, (List.replicate m (0 : Int) ++ [2]).map Sum.inl, rfl, (by rw [lv_ints, List.map_append]; exact upd_same), by rw [List.length_map, List.length_append, List.length_replicate]; show m + 1 ≤ 9; omega, smL_ints fun x hx => by
      rcases List.mem_append.mp hx with h | h
      · rw [List.eq_of_mem_replicate h]; decide
      · rw [List.mem_singleton.mp h]; decide⟩
    refine ⟨one_sz, fun p5 n5 => ?_⟩
    have k5 := Same.upd_new (o := .tup [V.ref p4]) n5
    have k65 := k64.trans k5
    have D7 := D6.same k65
    have tl5 := tl4.but (D6.same k64) (But.of k5)
    refine ⟨p, p5, vs, [.ref p4], rfl, rfl, SqT.of (k65 _ _ gp), SqT.of upd_same, ?_, fun e => ?_, fun _ e => (by cases e), fun _ _ p6 n6 => ?_⟩
    · rw [f2]
      exact Nat.le_trans (show w1.length + 1 ≤ 400 by omega) (by decide)
    · have := congrArg List.length e
      rw [f2, l1] at this
      exact absurd this (by simp; omega)
    refine finT D7 (b06.trans (But.of k65)) (fun v hv => ?_) (by rw [List.length_append, f2]; show w1.length + 1 ≤ 9; omega) n6
    rcases List.mem_append.mp hv with h | h
    · exact (f6 v h).but D6 (But.of k65)
    · rw [List.mem_singleton.mp h]
      exact tl5
  dsimp only [tNext]
  refine ⟨_, rfl, rfl, _, rfl, ifI (fun _ => ?_) fun _ => ?_⟩
  · refine ⟨_, rfl, t, _, rfl, SqT.of ht, fun C hC => ?_⟩
    obtain ⟨Cd, Cl⟩ := D4.new hC
    refine lc_it (walk_enumT (K := K) (a := t) (xs := w1)) (fun i H' => DeckAt H' d l ∧ But d l H4 H' ∧ TlL C i H') ⟨D4.put Cd Cl, But.of (Same.upd_new hC), .nil⟩ (fun i H' _ ⟨_, z, _⟩ => SqT.of (z _ _ ht offt offl)) ?_ ?_
    · rintro i x Ha Hb hi ⟨Da, ba, ta⟩ ⟨Tp, x, y, rfl, hTp, rfl, hx1, hy1⟩
      cases hx1
      obtain ⟨c1, r, rfl, hr1, hc1⟩ := tw1.get hy1
      have rm := List.mem_of_getElem? hr1
      have k1 := Same.upd_new (o := .tup [V.int (i : Nat), V.ref c1]) hTp
      refine ⟨Tp, _, rfl, SqT.of upd_same, rfl, ?_⟩
      refine ⟨_, _, rfl, _, _, rfl, rfl, rfl, ?_⟩
      have Db := Da.same k1
      have bb := ba.trans (But.of k1)
      have tb := ta.but Da (But.of k1) Cd Cl
      generalize upd Ha Tp (.tup [V.int (i : Nat), V.ref c1]) = Hb at Db bb tb
      clear k1 ta ba Da hTp
      have hc2 := bb _ _ hc1 (D4.offd hc1) (D4.offl hc1)
      refine ⟨_, rfl, c1, _, rfl, SqT.of hc2, fun C2 hC2 => ?_⟩
      obtain ⟨C2d, C2l⟩ := Db.new hC2
      refine lc_it (walk_enumT (K := K) (a := c1) (xs := r.map V.int)) (fun i H' => DeckAt H' d l ∧ But d l Hb H' ∧ IlL C2 i H') ⟨Db.put C2d C2l, But.of (Same.upd_new hC2), .nil⟩ (fun i H' _ ⟨_, z, _⟩ => SqT.of (z _ _ hc2 (Db.offd hc2) (Db.offl hc2))) ?_ ?_
      · rintro k x Hc Hd hk ⟨Dc, bc, ic⟩ ⟨Tq, x, y, rfl, hTq, rfl, hx2, hy2⟩
        cases hx2
        obtain ⟨y, rfl, hy⟩ := int_at hy2
        have ym := List.mem_of_getElem? hy
        have yb := bnd rm ym
        have kl := (List.getElem?_eq_some_iff.mp hy).1
        have k2 := Same.upd_new (o := .tup [V.int (k : Nat), V.int y]) hTq
        refine ⟨Tq, _, rfl, SqT.of upd_same, rfl, ?_⟩
        refine ⟨_, _, rfl, _, _, rfl, rfl, ?_⟩
        have Dd := Dc.same k2
        have bd := bc.trans (But.of k2)
        have id2 := ic.same k2
        generalize upd Hc Tq (.tup [V.int (k : Nat), V.int y]) = Hd at Dd bd id2
        have lr1 := lrI rm
        refine ⟨rfl, _, rfl, _, rfl, rfl, _, rfl, ifI (fun _ => ?_) fun _ => ?_⟩
        · refine ⟨_, rfl, pick_mk (Ds := [.int 2, .int 3, .int 1]) (mka_cons mk_int (mka_cons mk_int (mka_cons mk_int mka_nil))) (s40 _ (Nat.le_of_ble_eq_true rfl)) (by show 0 < 3; decide) (by show 3 < 2 ^ 64; decide) rfl Dd fun He v DD De be dq hD => ?_⟩
          obtain ⟨g, rfl, hg⟩ : ∃ g : Int, v = .int g ∧ g.natAbs ≤ 3 := by
            simp only [List.mem_cons, List.not_mem_nil, or_false] at hD
            rcases hD with rfl | rfl | rfl <;> cases dq <;> exact ⟨_, rfl, by decide⟩
          refine ⟨_, _, rfl, rfl, mul8 (Nat.lt_of_le_of_lt yb (Nat.pow_lt_pow_right (by decide) (by decide))) (Nat.lt_of_le_of_lt hg (Nat.lt_of_lt_of_le (by decide : 3 < 2 ^ 2) (Nat.pow_le_pow_right (by decide) (by decide)))), ?_⟩
          refine il_stepL (x := .inl _) hC2 C2d C2l De (bd.trans be) (id2.but be C2d C2l) (by omega) (sm21 ?_)
          rw [Int.natAbs_mul]
          exact Nat.le_trans (Nat.mul_le_mul yb hg) (by decide)
        · exact ⟨_, rfl, il_stepL (x := .inl y) hC2 C2d C2l Dd bd id2 (by omega) (sm21 (Nat.le_trans yb (by decide)))⟩
      rintro Hc ⟨Dc, bc, ls, g1, g2, g3⟩
      rw [List.length_map, lrI rm] at g2
      refine ⟨C2, _, rfl, .inl ⟨SqL.of g1, fun p hp => ?_⟩⟩
      have kp := Same.upd_new (o := .tup (ls.map lv)) hp
      exact tl_stepL hC Cd Cl (Dc.same kp) ((bb.trans bc).trans (But.of kp)) ((tb.but Db bc Cd Cl).but Dc (But.of kp) Cd Cl) (by omega) (tpT hp (by omega) g3)
    rintro H7 ⟨D7, b7, vs, g1, g2, g3⟩
    exact ⟨C, _, rfl, .inl ⟨SqL.of g1, fun p hp => finT D7 (b04.trans b7) g3 (by omega) hp⟩⟩
  dsimp only [tNext]
  refine tSeq_join (fun (σ : St) H' => H' = H4 ∧ σ = [some (.ref d), some (.ref t), some (.int m), some (.int way), some (.int (i' : Int)), some (.int (j' : Int)), none, none, none, none, none, none, none, none, none]) ?_ ?_
  · intro N hN
    refine ⟨_, rfl, rfl, _, rfl, ifI (fun _ => ?_) fun _ => iteF (hN _ _ ⟨rfl, rfl⟩)⟩
    refine ⟨_, rfl, _, _, rfl, rfl, _, rfl, ifD (fun _ => ?_) fun _ => hN _ _ ⟨rfl, rfl⟩⟩
    have lit : ∀ {H5 : Hp} (p1 : Addr) (n1 : H5 p1 = none) (p2 : Addr) (n2 : upd H5 p1 (.tup [.int 2, .int 3]) p2 = none) (p3 : Addr) (n3 : upd (upd H5 p1 (.tup [.int 2, .int 3])) p2 (.tup [.int 3, .int 2]) p3 = none), Same H5 (upd (upd (upd H5 p1 (.tup [.int 2, .int 3])) p2 (.tup [.int 3, .int 2])) p3 (.tup [.ref p1, .ref p2])) ∧ TabT (upd (upd (upd H5 p1 (.tup [.int 2, .int 3])) p2 (.tup [.int 3, .int 2])) p3 (.tup [.ref p1, .ref p2])) p3 [[2, 3], [3, 2]] := fun {H5} p1 n1 p2 n2 p3 n3 => by
      have s1 : Same H5 (upd H5 p1 (.tup [.int 2, .int 3])) := Same.upd_new n1
      have s2 := Same.upd_new (o := .tup [.int 3, .int 2]) n2
      have s3 := Same.upd_new (o := .tup [.ref p1, .ref p2]) n3
      exact ⟨(s1.trans s2).trans s3, _, upd_same, .cons (s3 _ _ (s2 _ _ upd_same)) (.cons (s3 _ _ upd_same) .nil)⟩
    have litB : TbB 2 (2 ^ 21) [[2, 3], [3, 2]] := by
      refine ⟨rfl, fun r hr => ?_, fun r hr x hx => ?_⟩
      · simp only [List.mem_cons, List.not_mem_nil, or_false] at hr
        rcases hr with rfl | rfl <;> rfl
      · simp only [List.mem_cons, List.not_mem_nil, or_false] at hr
        rcases hr with rfl | rfl <;> simp only [List.mem_cons, List.not_mem_nil, or_false] at hx <;> rcases hx with rfl | rfl <;> decide
    refine ⟨two_sz, fun p1 n1 => ⟨two_sz, fun p2 n2 => ⟨two_sz, fun p3 n3 => ?_⟩⟩⟩
    obtain ⟨sA, TA⟩ := lit p1 n1 p2 n2 p3 n3
    generalize upd (upd (upd H4 p1 (.tup [.int 2, .int 3])) p2 (.tup [.int 3, .int 2])) p3 (.tup [.ref p1, .ref p2]) = H5 at sA TA
    refine ⟨two_sz, fun p4 n4 => ⟨two_sz, fun p5 n5 => ⟨two_sz, fun p6 n6 => ?_⟩⟩⟩
    obtain ⟨sB, TB⟩ := lit p4 n4 p5 n5 p6 n6
    generalize upd (upd (upd H5 p4 (.tup [.int 2, .int 3])) p5 (.tup [.int 3, .int 2])) p6 (.tup [.ref p4, .ref p5]) = H6 at sB TB
    refine ⟨p3, p6, _, _, 2, 2, 2 ^ 21, rfl, TA.same sB, TB, litB, litB, by decide, by decide, by decide, by decide, fun H7 t7 r7 s7 T7 B7 => ?_⟩
    have s47 := (sA.trans sB).trans s7
    have D7 := D4.same s47
    dsimp only [gName]
    refine ⟨_, rfl, rfl, _, rfl, ifI (fun e => ?_) fun _ => ?_⟩
    · have e4 : m = 4 := by omega
      subst e4
      refine ⟨_, rfl, _, rfl, t7, t, r7, rows, 4, 4, 2 ^ 21, rfl, T7, hT4.same s47, B7, hB, by decide, by decide, by decide, by decide, fun H8 t8 r8 s8 T8 B8 => ?_⟩
      exact tabQ (D7.same s8) (b04.trans (But.of (s47.trans s8))) T8 B8 (by decide)
    · exact ⟨_, rfl, tabQ D7 (b04.trans (But.of s47)) T7 B7 (by decide)⟩
  rintro σ H' ⟨rfl, rfl⟩
  refine ⟨_, rfl, rfl, _, rfl, ifI (fun _ => ?_) fun _ => ?_⟩
  · exact ⟨_, rfl, tabQ D4 b04 hT4 hB (by omega)⟩
  · refine ⟨_, rfl, _, rfl, d, l, .ref t, _, rfl, D4, .tup ⟨offt, offl⟩ (.inl ht) (tts_dqP D4 tw1), ⟨_, rfl, by rw [List.length_map]; omega, by rw [List.length_map]; omega, fun e he => ?_⟩, fun H5 v X D5 b5 dq be => q _ _ _ D5 (b04.trans b5) dq (be.sq.mono (by decide) (by decide))⟩
    obtain ⟨r, hr, rfl⟩ := List.mem_map.mp he
    refine ⟨_, rfl, by rw [List.length_map, lrI hr]; omega, by rw [List.length_map, lrI hr]; omega, fun e he => ?_⟩
    obtain ⟨x, hx, rfl⟩ := List.mem_map.mp he
    exact ⟨x, rfl, Nat.lt_of_le_of_lt (bnd hr hx) (by decide)⟩
end
end Ft

namespace Ft
open PySem L2
/-- a != b, the same plain data -/
def rNeP (K : PySem.W.Frag) : R2 := fun x y H Q => ∃ d, Dp K H x d ∧ Dp K H y d ∧ d.plain = true ∧ d.depth ≤ 60 ∧ Q (.bl false) H
theorem op_neP {X : Cx} (hu : X.A.units + 64 < cLine) : OpR X (compareOp .NotEq) (rNeP X.K) := by
  intro pins s σ H x y v u Q I rx ry h
  obtain ⟨d, hd, he, pl, dp, q⟩ := h
  obtain ⟨as, r1⟩ := Dp.reads I d x v hd rx
  obtain ⟨bs, r2⟩ := Dp.reads I d y u he ry
  refine SeqAt.ne_plain r1 r2 pl pl (by have := Nat.min_le_left d.depth d.depth; omega) ?_
  rw [SeqAt.eqv_refl_plain d pl]
  exact ⟨.bl false, H, I, rfl, q⟩
end Ft

set_option exponentiation.threshold 9000
namespace Ft
open PySem L2
theorem DeckAt.ext {H H' : Hp} {d l : Addr} (D : DeckAt H d l) (e : LamX.ExtN H H') : DeckAt H' d l := by
  obtain ⟨mx, dr, cs, h1, h2, h3⟩ := D
  exact ⟨mx, dr, cs, e _ _ h1 (by intro ps z; cases z), e _ _ h2 (by intro ps z; cases z), h3⟩
theorem tabs_but {T : List (Addr × Str)} {H H' : Hp} {d l : Addr} (t : LamX.Tabs T H) (D : DeckAt H d l) (b : But d l H H') : LamX.Tabs T H' := fun p hp => by
  obtain ⟨mx, dr, cs, d1, d2, _⟩ := D
  obtain ⟨ps, h1, h2, h3⟩ := t p hp
  refine ⟨ps, b _ _ h1 (ne_of h1 d1 (by intro z; cases z)) (ne_of h1 d2 (by intro z; cases z)), h2, fun pos cv hc => ?_⟩
  obtain ⟨c, e1, e2⟩ := h3 pos cv hc
  exact ⟨c, e1, b _ _ e2 (ne_of e2 d1 (by intro z; unfold LamX.CodeO at z; cases z)) (ne_of e2 d2 (by intro z; unfold LamX.CodeO at z; cases z))⟩
theorem tabs_put {T : List (Addr × Str)} {H : Hp} {l : Addr} {xs : List V} {o : HO} (t : LamX.Tabs T H) (e : H l = some (.lst xs)) : LamX.Tabs T (upd H l o) := fun p hp => by
  obtain ⟨ps, h1, h2, h3⟩ := t p hp
  refine ⟨ps, by rw [upd_ne (ne_of h1 e (by intro z; cases z))]; exact h1, h2, fun pos cv hc => ?_⟩
  obtain ⟨c, e1, e2⟩ := h3 pos cv hc
  exact ⟨c, e1, by rw [upd_ne (ne_of e2 e (by intro z; unfold LamX.CodeO at z; cases z))]; exact e2⟩
def idV : List V → List V → List V := fun us zs => match us, zs with
  | [], [a] => [a]
  | _, _ => []
def idU : List Value → List Value → List Value := fun us zs => match us, zs with
  | [], [a] => [a]
  | _, _ => []
theorem id_rel : ∀ {vs : List V} {us : List Value} {zs : List V} {ws : List Value}, Vals vs us → Vals zs ws → Vals (idV vs zs) (idU us ws)
  | _, _, _, _, .nil, .nil => .nil
  | _, _, _, _, .nil, .cons a .nil => .cons a .nil
  | _, _, _, _, .nil, .cons _ (.cons _ _) => .nil
  | _, _, _, _, .cons _ _, _ => .nil
/-- te tells a word and a text -/
def ToldS (T : List (Addr × Str)) (te : TE) (S : L2.St → Prop) (H0 : Hp) (wd tx : Str) : Prop := ∀ σ H Q, S σ → LamX.ExtN H0 H → LamX.Tabs T H → (∀ H' p, LamX.ExtN H H' → LamX.Tabs T H' → H' p = some (.tup [.str wd, .str tx, .bl true]) → Q (.ref p) H') → te σ H Q
theorem toldS_err {cl : List Kd} {T : List (Addr × Str)} {t : XK → TE} {S : L2.St → Prop} {H0 : Hp} {k : Kd} {N : Addr → Prop} {v : V} {D : PyData} (hk : k ∈ cl) (hv : Dq H0 N v D) (rep : RepQ D) (ht : ∀ σ E1 H1 Q1, S σ → LamX.ExtN H0 H1 → Rz E1 k.C k.f v H1 → t E1 σ H1 Q1) : ToldS T (LamX.tLam T (TTref cl) t) S H0 k.wd D.shown := by
  intro σ H Q hS x0 hT q
  refine ⟨hT, fun H1 x1 t1 E1 Q1 hE hQ => ht σ E1 H1 Q1 hS (x0.trans x1) fun H2 d s hd => ?_⟩
  have sa := s.trans (Same.upd_new (o := .xd [(k.f, v)]) hd)
  refine hE k hk d v D _ upd_same ((hv.ext (x0.trans (x1.trans (.of sa)))).move (fun _ _ _ e _ => e) fun _ _ _ _ _ => trivial) rep fun p hp => ?_
  have sb := sa.trans (Same.upd_new (o := .tup [.str k.wd, .str D.shown, .bl true]) hp)
  exact q _ p (x1.trans (.of sb)) (t1.ext sb) upd_same
theorem toldS_val {cl : List Kd} {T : List (Addr × Str)} {t : XK → TE} {S : L2.St → Prop} {H0 : Hp} {D : PyData} (rep : RepQ D) (ht : ∀ σ E1 H1 Q1, S σ → LamX.ExtN H0 H1 → (∀ r H', Same H1 H' → Dq H' All r D → Q1 r H') → t E1 σ H1 Q1) : ToldS T (LamX.tLam T (TTref cl) t) S H0 "told" D.shown := by
  intro σ H Q hS x0 hT q
  refine ⟨hT, fun H1 x1 t1 E1 Q1 hE hQ => ht σ E1 H1 Q1 hS (x0.trans x1) fun r H2 s hr => hQ r D H2 hr rep fun p hp => ?_⟩
  have sb := s.trans (Same.upd_new (o := .tup [.str "told", .str D.shown, .bl true]) hp)
  exact q _ p (x1.trans (.of sb)) (t1.ext sb) upd_same
def TT (H : Hp) (a : Addr) (wd tx : Str) : Prop := H a = some (.tup [.str wd, .str tx, .bl true])
theorem TT.ext {H H' : Hp} {a : Addr} {wd tx : Str} (h : TT H a wd tx) (x : LamX.ExtN H H') : TT H' a wd tx := x _ _ h (by intro ps z; cases z)
theorem tt_dp {K : PySem.W.Frag} {H : Hp} {a : Addr} {wd tx : Str} (h : TT H a wd tx) : Dp K H (.ref a) (.tuple [.str wd, .str tx, .bool true]) := .tup (SqT.of h) (.cons (.str _) (.cons (.str _) (.cons (.bl _) .nil)))
theorem minGo_bd : ∀ (f : Nat) (rows : List (List Int)) (last : Int), f ≤ 8 → (∀ r ∈ rows, ∀ x ∈ r, x.natAbs < 2 ^ bt f) → ∀ z ∈ minGo f rows last, z.natAbs < 2 ^ 1023
  | 0, _, _, _, _, z, hz => by unfold minGo at hz; cases hz
  | f + 1, [], _, _, _, z, hz => by unfold minGo at hz; cases hz
  | f + 1, top :: rest, last, h8, hr, z, hz => by
    have hv := hr top List.mem_cons_self
    unfold minGo at hz
    split at hz
    · rcases List.mem_cons.mp hz with rfl | hz
      · exact Nat.lt_of_lt_of_le (getD_lt' hv 0) (Nat.pow_le_pow_right (by decide) (bt_le (by omega)))
      · refine minGo_bd f _ _ (by omega) (fun r h x hx => ?_) z hz
        obtain ⟨row, hrow, rfl⟩ := List.mem_map.mp h
        have hw := hr row (List.mem_cons_of_mem _ hrow)
        unfold stepL at hx
        obtain ⟨i, _, rfl⟩ := List.mem_map.mp hx
        have := nxt_lt (q := last) (getD_lt' hv 0) (getD_lt' hw (i + 1)) (getD_lt' hw 0) (getD_lt' hv (i + 1))
        rwa [bt_step (by omega)] at this
    · cases hz
theorem detV_bd {m : Nat} {rows : List (List Int)} (fm : FmT m rows) : (detV m rows).natAbs < 2 ^ 1900 := by
  unfold detV
  have up : (2 : Nat) ^ 1023 < 2 ^ 1900 := Nat.pow_lt_pow_right (by decide) (by decide)
  have h : ∀ z ∈ (1 :: minGo m rows 1), z.natAbs < 2 ^ 1023 := fun z hz => by
    rcases List.mem_cons.mp hz with rfl | hz
    · exact Nat.lt_of_lt_of_le (by decide : (1 : Int).natAbs < 2 ^ 1) (Nat.pow_le_pow_right (by decide) (by decide))
    · exact minGo_bd m rows 1 fm.m8 (fun r hr x hx => Nat.lt_of_le_of_lt (fm.hx r hr x hx) (Nat.lt_of_lt_of_le (by decide : 100 < 2 ^ 7) (Nat.pow_le_pow_right (by decide) (bt_7 fm.m8)))) z hz
  refine Nat.lt_trans (h _ ?_) up
  rw [List.getLastD_cons]
  generalize minGo m rows 1 = l
  rcases List.eq_nil_or_concat l with rfl | ⟨as, a, rfl⟩
  · exact List.mem_cons_self
  · rw [List.concat_eq_append, List.getLastD_concat]
    simp
/-- what is due of determinant_of -/
def ExpD (D : PyData) (wd tx : Str) : Prop := (formD D = false ∧ wd = "BadForm" ∧ tx = D.shown) ∨ ∃ ds, D = .tuple ds ∧ formD D = true ∧ wd = "told" ∧ tx = (PyData.int (detV ds.length (rowsV ds))).shown
theorem det_told {C0 C1 : Addr} {T : List (Addr × Str)} {S : L2.St → Prop} {H0 : Hp} {v : V} {D : PyData} {wd tx : Str} {te : XK → TE} (hd : Dq H0 All v D) (rep : RepQ D) (ex : ExpD D wd tx) (hte : ∀ σ E1 H1 Q1, S σ → sp_detQ C0 [v] H1 Q1 E1 → te E1 σ H1 Q1) : ToldS T (LamX.tLam T (TTref (kds C0 C1)) te) S H0 wd tx := by
  rcases ex with ⟨pf, rfl, rfl⟩ | ⟨ds, rfl, ok, rfl, rfl⟩
  · exact toldS_err (k := ⟨C0, "thing", "BadForm"⟩) List.mem_cons_self hd rep fun σ E1 H1 Q1 hS x1 hz => hte σ E1 H1 Q1 hS ⟨v, D, All, rfl, hd.ext x1, fun _ => hz, fun ds e z => by rw [pf] at z; cases z⟩
  · obtain ⟨ds', e', fm, _, _⟩ := fmT_of ok
    cases e'
    exact toldS_val (rep_intK (detV_bd fm)) fun σ E1 H1 Q1 hS x1 hq => hte σ E1 H1 Q1 hS ⟨v, _, All, rfl, hd.ext x1, (fun z => by rw [ok] at z; cases z), fun ds' e' _ H' s => by
      cases e'
      exact hq _ H' s (.int _)⟩
/-- what is due of value_at -/
def ExpV (D X : PyData) (wd tx : Str) : Prop := (formD D = false ∧ wd = "BadForm" ∧ tx = D.shown) ∨ (formD D = true ∧ intsD (lenD D) X = false ∧ wd = "BadRow" ∧ tx = X.shown) ∨ ∃ ds es, D = .tuple ds ∧ X = .tuple es ∧ formD D = true ∧ intsD ds.length X = true ∧ wd = "told" ∧ tx = (PyData.int (valV ds.length (rowsV ds) (es.map intV))).shown
theorem val_told {C0 C1 : Addr} {T : List (Addr × Str)} {S : L2.St → Prop} {H0 : Hp} {v u : V} {D X : PyData} {wd tx : Str} {te : XK → TE} (hd : Dq H0 All v D) (hx : Dq H0 All u X) (rep : RepQ D) (repX : RepQ X) (sX : smallI X) (b2 : ∀ es, X = .tuple es → ∀ x ∈ es.map intV, x.natAbs < 2 ^ 200) (ex : ExpV D X wd tx) (hte : ∀ σ E1 H1 Q1, S σ → sp_valQ C0 C1 [v, u] H1 Q1 E1 → te E1 σ H1 Q1) : ToldS T (LamX.tLam T (TTref (kds C0 C1)) te) S H0 wd tx := by
  rcases ex with ⟨pf, rfl, rfl⟩ | ⟨ok, bad, rfl, rfl⟩ | ⟨ds, es, rfl, rfl, ok, ik, rfl, rfl⟩
  · exact toldS_err (k := ⟨C0, "thing", "BadForm"⟩) List.mem_cons_self hd rep fun σ E1 H1 Q1 hS x1 hz => hte σ E1 H1 Q1 hS ⟨v, u, D, X, All, All, rfl, hd.ext x1, hx.ext x1, sX, fun _ => hz, (fun z => by rw [pf] at z; cases z), fun ds es e1 e2 z => by rw [pf] at z; cases z⟩
  · exact toldS_err (k := ⟨C1, "thing", "BadRow"⟩) (List.mem_cons_of_mem _ List.mem_cons_self) hx repX fun σ E1 H1 Q1 hS x1 hz => hte σ E1 H1 Q1 hS ⟨v, u, D, X, All, All, rfl, hd.ext x1, hx.ext x1, sX, (fun z => by rw [ok] at z; cases z), fun _ _ => hz, fun ds es e1 e2 _ z => by
      subst e1
      rw [show lenD (.tuple ds) = ds.length from rfl, z] at bad
      cases bad⟩
  · obtain ⟨ds', e', fm, _, _⟩ := fmT_of ok
    cases e'
    have vb : (valV ds.length (rowsV ds) (es.map intV)).natAbs < 2 ^ 1900 := val_abs fm (b2 es rfl)
    exact toldS_val (rep_intK vb) fun σ E1 H1 Q1 hS x1 hq => hte σ E1 H1 Q1 hS ⟨v, u, _, _, All, All, rfl, hd.ext x1, hx.ext x1, sX, (fun z => by rw [ok] at z; cases z), (fun _ z => by rw [show intsD (lenD (.tuple ds)) (.tuple es) = true from ik] at z; cases z), fun ds' es' e1 e2 _ _ H' s => by
      cases e1
      cases e2
      exact hq _ H' s (.int _)⟩
end Ft

set_option exponentiation.threshold 9000
set_option maxHeartbeats 4000000
namespace Ft
open PySem L2
theorem at_last {m : Nat} {rows : List (List Int)} (fm : FmT m rows) : atI ((minGo m rows 1).map V.int) (-1) = some (V.int (detV m rows)) := by
  have hl := fm.mn
  have m2 := fm.m2
  unfold detV
  rw [List.getLastD_cons]
  generalize minGo m rows 1 = l at hl
  rcases List.eq_nil_or_concat l with rfl | ⟨as, a, rfl⟩
  · rw [List.length_nil] at hl; omega
  · rw [List.concat_eq_append, List.getLastD_concat]
    unfold atI ixN
    rw [List.map_append, List.length_append, List.length_map]
    rw [if_neg (by decide), if_pos (by simp; omega)]
    show (List.map V.int as ++ List.map V.int [a])[(-1 + ((as.length + 1 : Nat) : Int)).toNat]? = _
    rw [show (-1 + ((as.length + 1 : Nat) : Int)).toNat = as.length by omega, List.getElem?_append_right (by rw [List.length_map]; exact Nat.le_refl _), List.length_map, Nat.sub_self]
    rfl
def sp_lawT (K : PySem.W.Frag) (T : List (Addr × Str)) : Sp := fun vs H Q _ => ∃ (a : Addr) (ns : List Int), vs = [.ref a] ∧ SqL K H a (ns.map V.int) ∧ ns.length ≤ 63 ∧ (∀ p ∈ T, H p.1 = some (.tbl #[])) ∧ ∀ H', Q (.bl true) H'
section
variable {P : Program} {w : World} {K : PySem.W.Frag} {mg : Str → Option Value} {base : Heap}
set_option maxHeartbeats 0 in
theorem fn_law {f : Addr} {fd : FuncData} {C0 C1 CT c Pt : Addr} {T : List (Addr × Str)} (F : Fun K "law" "law" s_law f fd) (hc : fd.code = .ref c) (B : Bi mg) (U : ErsU K C0 C1 CT) (L : LamE K mg base C0 C1 CT c Pt T "law")
    (c__law_deck : Cal P w K mg base 1 "_law_deck" (sp_deck K)) (c__law_any_form : Cal P w K mg base 5 "_law_any_form" sp_any) (c__law_other : Cal P w K mg base 7 "_law_other" sp_other) (c__law_unknowns : Cal P w K mg base 6 "_law_unknowns" sp_unk) (c__law_is_form : Cal P w K mg base 3 "_law_is_form" sp_formQ) (c_is_form : Cal P w K mg base 4 "is_form" sp_formQ) (k_is_form : CalK P w K mg base 4 "is_form" ["thing"] idV sp_formQ) (c__law_minors : Cal P w K mg base 1 "_law_minors" sp_minors) (c__law_are_integers : Cal P w K mg base 2 "_law_are_integers" sp_tupQ) (c__law_value : Cal P w K mg base 1 "_law_value" sp_lvalue)
    (x_determinant_of : CalX P w K mg base 6 "determinant_of" (sp_detQ C0)) (x_value_at : CalL P w K mg base 6 "value_at" ["form", "x"] ["x", "form"] swapU swapV (sp_valQ C0 C1)) (g_vt : CalG P w K mg base 8 "_law_is_value_told" sp_vtold) : FnG P w K mg base 9 f fd ["_law_script"] (sp_lawT K T) := by
  have sc := sc_law
  obtain ⟨fD, fdD, psD, FD, hmD, kpD, bD⟩ := x_determinant_of.ex
  obtain ⟨fV, fdV, FV, hmV, kpV, bV, _⟩ := x_value_at.ex
  refine fun_gC F sc (fun _ _ _ _ ⟨_, _, e, _⟩ => by rw [e]; rfl) (fun cdv ec A outer s H vs Q E hgd hr h => ?_)
  obtain rfl : cdv = .ref c := ec.symm.trans hc
  obtain ⟨a, ns, rfl, hS, hlen, hT, q⟩ := h
  have h64 : (A.deeper (PyProof.Rows.envOfC "law" (defScope s_law) s.heap.objs.size f (.ref c))).units + 64 < cLine := by have := hr.un; omega
  refine ⟨_, (pss_cons (ps_set (i := 1) sc.nd rfl (Or.inl rfl) (pe_c c__law_deck hr (by decide) (by rfl) (pa_cons (pv 0) pa_nil)))
      (pss_cons (ps_for PassesOwn.never rfl (pi_range1 rfl B.range (pa_cons pe_int pa_nil)) (pg_name (i := 2) sc.nd rfl (Or.inl rfl))
      (pss_cons (ps_set (i := 3) sc.nd rfl (Or.inl rfl) (pe_c c__law_any_form hr (by decide) (by rfl) (pa_cons (pv 1) pa_nil)))
        (pss_cons (ps_set (i := 4) sc.nd rfl (Or.inr rfl) (pe_c c__law_other hr (by decide) (by rfl) (pa_cons (pv 1) (pa_cons (pv 3) pa_nil))))
        (pss_cons (ps_set (i := 5) sc.nd rfl (Or.inr rfl) (pe_c c__law_unknowns hr (by decide) (by rfl) (pa_cons (pv 1) (pa_cons (pe_callB call_len_seq (by rfl) B.len_ (by decide +kernel) (pa_cons (pv 3) pa_nil)) pa_nil))))
        (pss_cons (ps_set (i := 6) sc.nd rfl (Or.inl rfl) (pe_c c__law_is_form hr (by decide) (by rfl) (pa_cons (pv 4) pa_nil)))
        (pss_cons (ps_if (PW.pt (pw_or (pt_cmpR op_ne (pe_callB (call_reprQ hgd hr) (by rfl) B.repr (by decide +kernel) (pa_cons (pe_c c_is_form hr (by decide) (by rfl) (pa_cons (pv 4) pa_nil)) pa_nil)) (pe_callB (call_reprQ hgd hr) (by rfl) B.repr (by decide +kernel) (pa_cons (pv 6) pa_nil)) (nomark _)) (pw_or1 (pt_cmpR op_ne (pe_callB (call_reprQ hgd hr) (by rfl) B.repr (by decide +kernel) (pa_cons (pe_k0 k_is_form hr (by decide) (by rfl) (pk_cons (pv 4) pk_nil)) pa_nil)) (pe_callB (call_reprQ hgd hr) (by rfl) B.repr (by decide +kernel) (pa_cons (pv 6) pa_nil)) (nomark _)))))
        (pss_one (ps_ret pe_bl))
        pss_nil)
        (pss_cons (ps_par (i := 7) (j := 8) (by rfl) sc.nd rfl rfl (by decide) rfl rfl (pa_cons (pe_tup (pa_cons pe_str (pa_cons (pe_callB (call_reprQ hgd hr) (by rfl) B.repr (by decide +kernel) (pa_cons (pv 4) pa_nil)) (pa_cons pe_bl pa_nil)))) (pa_cons (pe_tup (pa_cons pe_str (pa_cons (pe_callB (call_reprQ hgd hr) (by rfl) B.repr (by decide +kernel) (pa_cons (pv 4) pa_nil)) (pa_cons pe_bl pa_nil)))) pa_nil)) (by rfl))
        (pss_cons (ps_if (pt_val (pv 6))
        (pss_cons (ps_set (i := 8) sc.nd rfl (Or.inl rfl) (pe_tup (pa_cons pe_str (pa_cons (pe_callB (call_reprQ hgd hr) (by rfl) B.repr (by decide +kernel) (pa_cons (pe_ix (show IxR _ (rIx K) from ix_seq) (pe_c c__law_minors hr (by decide) (by rfl) (pa_cons (pv 4) pa_nil)) (pe_un un_neg pe_int) (fun _ _ => rfl)) pa_nil)) (pa_cons pe_bl pa_nil)))))
          (pss_cons (ps_set (i := 7) sc.nd rfl (Or.inl rfl) (pe_tup (pa_cons pe_str (pa_cons (pe_callB (call_reprQ hgd hr) (by rfl) B.repr (by decide +kernel) (pa_cons (pv 5) pa_nil)) (pa_cons pe_bl pa_nil)))))
          (pss_one (ps_if (pt_val (pe_c c__law_are_integers hr (by decide) (by rfl) (pa_cons (pv 5) (pa_cons (pe_callB call_len_seq (by rfl) B.len_ (by decide +kernel) (pa_cons (pv 4) pa_nil)) pa_nil))))
          (pss_one (ps_set (i := 7) sc.nd rfl (Or.inl rfl) (pe_tup (pa_cons pe_str (pa_cons (pe_callB (call_reprQ hgd hr) (by rfl) B.repr (by decide +kernel) (pa_cons (pe_c c__law_value hr (by decide) (by rfl) (pa_cons (pv 4) (pa_cons (pv 5) pa_nil))) pa_nil)) (pa_cons pe_bl pa_nil))))))
          pss_nil))))
        pss_nil)
        (pss_cons (ps_if (pt_cmpR (op_neP h64) (pe_lamR (k := 6) (T := T) (t := fun E => tCall (sp_detQ C0) [] E (tCons (tVar 4) tNil)) (by rfl) L.r L.e U B hgd L.t rfl L.m L.u hr (by decide) (LamX.lamS_by (sc := defScope s_law) (by decide +kernel)) rfl (fun _ _ _ _ _ => rfl) (fun A outer s H E f' c' hr2 => pe_call FD hr2 (by rfl) hmD kpD bD .nil passL (pa_cons (pv 4) pa_nil))) (pv 8) (nomark _))
        (pss_one (ps_ret pe_bl))
        pss_nil)
        (pss_cons (ps_if (pt_cmpR (op_neP h64) (pe_lamR (k := 6) (T := T) (t := fun E => tCall (sp_valQ C0 C1) [] E (tCons (tVar 4) (tCons (tVar 5) tNil))) (by rfl) L.r L.e U B hgd L.t rfl L.m L.u hr (by decide) (LamX.lamS_by (sc := defScope s_law) (by decide +kernel)) rfl (fun _ _ _ _ _ => rfl) (fun A outer s H E f' c' hr2 => pe_call FV hr2 (by rfl) hmV kpV bV .nil passL (pa_cons (pv 4) (pa_cons (pv 5) pa_nil)))) (pv 7) (nomark _))
        (pss_one (ps_ret pe_bl))
        pss_nil)
        (pss_one (ps_if (PW.pt (pw_and (pt_val (pv 6)) (pw_and (pt_cmpR op_eq (pe_ix (show IxR _ (rIx K) from ix_seq) (pv 7) pe_int (fun _ _ => rfl)) pe_str (nomark _)) (pw_and1 (pt_not (pt_val (pe_g g_vt hgd hr (by decide) (by rfl) (pa_cons (pv 4) (pa_cons (pv 5) pa_nil)))))))))
        (pss_one (ps_ret pe_bl))
        pss_nil))))))))))))
      (pss_one (ps_ret pe_bl)))), ?_⟩
  refine ⟨_, rfl, a, ns, rfl, hS, hlen, ?_⟩
  intro H1 d l D1 s1 _ _
  have t1 : LamX.Tabs T H1 := fun p hp => LamX.TabS.nil (s1 _ _ (hT p hp))
  clear s1 hT hS
  dsimp only [gName]
  refine ⟨6, rfl, by decide, by decide, for_range (lo := 0) (n := Int.toNat 6) (fun i σ H' => DeckAt H' d l ∧ LamX.Tabs T H' ∧ ∃ o2 o3 o4 o5 o6 o7 o8 : Option V, σ = [some (.ref a), some (.ref d), o2, o3, o4, o5, o6, o7, o8]) ⟨D1, t1, none, none, none, none, none, none, none, rfl⟩ ?_ ?_⟩
  case refine_2 =>
    rintro σ H2 ⟨D2, t2, o2, o3, o4, o5, o6, o7, o8, rfl⟩
    exact q _
  rintro i σ H2 hi ⟨D2, t2, o2, o3, o4, o5, o6, o7, o8, rfl⟩
  clear D1 t1
  dsimp only [gName]
  refine ⟨_, rfl, d, l, rfl, D2, fun H3 tf m rows D3 b3 hTf m2 m8 hBf => ?_⟩
  have T3 := tabs_but t2 D2 b3
  dsimp only [gName]
  refine ⟨_, rfl, _, rfl, d, l, tf, rows, m, rfl, D3, hTf, hBf, m2, m8, fun H4 tv D D4 b4 dq sq => ?_⟩
  have T4 := tabs_but T3 D3 b4
  obtain ⟨w4, ht4, tw4⟩ := hTf.but D3 b4
  have l4 : w4.length = m := by rw [tw4.len, hBf.lm]
  dsimp only [gName]
  refine ⟨_, rfl, _, rfl, tf, _, rfl, .inr (SqT.of ht4), ?_⟩
  refine ⟨d, l, m, (by rw [l4]; rfl), D4, m2, m8, fun H5 uv X D5 b5 dx be => ?_⟩
  have T5 := tabs_but T4 D4 b5
  have dq5 := dq.but b5
  clear D2 t2 b3 D3 T3 hTf hBf b4 dq D4 T4 ht4 tw4 b5
  have rD : RepQ D := sq.rep (by decide) (by decide)
  have rX : RepQ X := be.sq.rep (by decide) (by decide)
  have sX : smallI X := fun ds z e hz => Nat.lt_trans (be.tup ds z e hz) (Nat.pow_lt_pow_right (by decide) (by decide))
  have bX : ∀ es, X = .tuple es → ∀ x ∈ es.map intV, x.natAbs < 2 ^ 200 := fun es e x hx => by
    obtain ⟨e0, he, rfl⟩ := List.mem_map.mp hx
    subst e
    cases e0 with
    | int z => exact Nat.lt_trans (be.tup es z rfl he) (Nat.pow_lt_pow_right (by decide) (by decide))
    | _ => exact (by decide : (0 : Int).natAbs < 2 ^ 200)
  dsimp only [gName]
  refine ⟨_, rfl, tv, D, Off d l, rfl, dq5, fun H6 s6 => ?_⟩
  dsimp only [gName]
  have R0 : RepQ (.bool (formD D)) := by cases formD D <;> exact (sq_of (by decide +kernel)).rep (by decide) (by decide)
  have sw : ∀ {a : Str}, decide (V.str a = V.str a) = true := decide_eq_true rfl
  have dq6 := dq5.same s6
  refine ⟨_, rfl, tv, D, Off d l, rfl, dq6, fun H7 s7 => ?_⟩
  refine ⟨_, .bool (formD D), All, rfl, .bl _, R0, _, rfl, _, .bool (formD D), All, rfl, .bl _, R0, rfl, _, rfl, ?_⟩
  rw [sw]
  refine iteF ?_
  have dq7 := dq6.same s7
  refine ⟨_, rfl, tv, D, Off d l, rfl, dq7, fun H8 s8 => ?_⟩
  refine ⟨_, .bool (formD D), All, rfl, .bl _, R0, _, rfl, _, .bool (formD D), All, rfl, .bl _, R0, rfl, _, rfl, ?_⟩
  rw [sw]
  refine iteF ?_
  dsimp only [tNext]
  have s58 := s6.trans (s7.trans s8)
  have D8 := D5.same s58
  have T8 := T5.ext s58
  have dq8 := dq7.same s8
  have dx8 := dx.same s58
  clear D5 T5 dq5 dx s6 dq6 s7 dq7 s8 s58
  refine ⟨_, rfl, tv, D, Off d l, rfl, dq8, rD, (by show (3 : Nat) ≤ sizeLine; decide), fun pd hpd => ?_⟩
  have s9 : Same H8 (upd H8 pd (.tup [.str "BadForm", .str D.shown, .bl true])) := Same.upd_new hpd
  have g9 : TT (upd H8 pd (.tup [.str "BadForm", .str D.shown, .bl true])) pd "BadForm" D.shown := upd_same
  generalize upd H8 pd (.tup [.str "BadForm", .str D.shown, .bl true]) = H9 at s9 g9
  refine ⟨_, rfl, tv, D, Off d l, rfl, dq8.same s9, rD, (by show (3 : Nat) ≤ sizeLine; decide), fun pe hpe => ?_⟩
  have s10 : Same H9 (upd H9 pe (.tup [.str "BadForm", .str D.shown, .bl true])) := Same.upd_new hpe
  have g10 : TT (upd H9 pe (.tup [.str "BadForm", .str D.shown, .bl true])) pe "BadForm" D.shown := upd_same
  generalize upd H9 pe (.tup [.str "BadForm", .str D.shown, .bl true]) = H10 at s10 g10
  refine ⟨_, _, rfl, ?_⟩
  have s810 := s9.trans s10
  have D10 := D8.same s810
  have T10 := T8.ext s810
  have dq10 := dq8.same s810
  have dx10 := dx8.same s810
  have gd10 := g9.ext (.of s10)
  clear D8 T8 dq8 dx8 s9 g9 s10 s810 hpd hpe
  refine at_state [some (.ref a), some (.ref d), some (.int (0 + (i : Int))), some (.ref tf), some tv, some uv, some (.bl (formD D)), some (.ref pd), some (.ref pe)] rfl ?_
  dsimp only
  refine tSeq_join (fun σ H' => ∃ pd' pe' wv txv wd tx, DeckAt H' d l ∧ LamX.Tabs T H' ∧ Dq H' (Off d l) tv D ∧ Dq H' (Off d l) uv X ∧ TT H' pd' wv txv ∧ ExpV D X wv txv ∧ TT H' pe' wd tx ∧ ExpD D wd tx ∧ σ = [some (.ref a), some (.ref d), some (.int (0 + (i : Int))), some (.ref tf), some tv, some uv, some (.bl (formD D)), some (.ref pd'), some (.ref pe')]) (fun Nx hN => ?_) ?_
  · refine ⟨_, rfl, _, rfl, ?_⟩
    cases hf : formD D with
    | false => exact iteF (hN _ _ ⟨pd, pe, _, _, _, _, D10, T10, dq10, dx10, gd10, .inl ⟨hf, rfl, rfl⟩, g10, .inl ⟨hf, rfl, rfl⟩, by rw [hf]⟩)
    | true =>
    refine iteT ?_
    obtain ⟨ds, rfl, fm, ht1, _⟩ := fmT_of hf
    obtain ⟨t, rfl, hTt⟩ := tab_T dq10 ht1
    obtain ⟨wt, htt, twt⟩ := id hTt
    refine ⟨_, rfl, t, rowsV ds, ds.length, rfl, hTt, fm.lm, fm.lr, fm.m8, fm.hx, fun H11 p11 s11 g11 => ?_⟩
    refine ⟨_, rfl, .inl ⟨p11, _, -1, V.int (detV ds.length (rowsV ds)), rfl, rfl, SqL.of g11, at_last fm, ?_⟩⟩
    refine ⟨_, .int (detV ds.length (rowsV ds)), All, rfl, .int _, rep_intK (detV_bd fm), (by show (3 : Nat) ≤ sizeLine; decide), fun p12 hp12 => ?_⟩
    have s12 : Same H11 (upd H11 p12 (.tup [.str "told", .str (PyData.int (detV ds.length (rowsV ds))).shown, .bl true])) := Same.upd_new hp12
    have g12 : TT (upd H11 p12 (.tup [.str "told", .str (PyData.int (detV ds.length (rowsV ds))).shown, .bl true])) p12 "told" (PyData.int (detV ds.length (rowsV ds))).shown := upd_same
    have exD : ExpD (.tuple ds) "told" (PyData.int (detV ds.length (rowsV ds))).shown := .inr ⟨ds, rfl, hf, rfl, rfl⟩
    generalize upd H11 p12 (.tup [.str "told", .str (PyData.int (detV ds.length (rowsV ds))).shown, .bl true]) = H12 at s12 g12
    have s1012 := s11.trans s12
    dsimp only [gName]
    refine ⟨_, rfl, uv, X, Off d l, rfl, dx10.same s1012, rX, (by show (3 : Nat) ≤ sizeLine; decide), fun p13 hp13 => ?_⟩
    have s13 : Same H12 (upd H12 p13 (.tup [.str "BadRow", .str X.shown, .bl true])) := Same.upd_new hp13
    have g13 : TT (upd H12 p13 (.tup [.str "BadRow", .str X.shown, .bl true])) p13 "BadRow" X.shown := upd_same
    generalize upd H12 p13 (.tup [.str "BadRow", .str X.shown, .bl true]) = H13 at s13 g13
    have s1013 := s1012.trans s13
    have g12' := g12.ext (.of s13)
    dsimp only [gName]
    refine ⟨_, rfl, _, rfl, t, _, rfl, .inr (SqT.of (s1013 _ _ htt)), ?_⟩
    refine ⟨uv, X, Off d l, ds.length, (by rw [show wt.length = ds.length by rw [twt.len, fm.lm]]; rfl), dx10.same s1013, Nat.le_trans fm.m8 (by decide), fun H14 s14 => ⟨_, rfl, ?_⟩⟩
    have s1014 := s1013.trans s14
    have D14 := D10.same s1014
    have T14 := T10.ext s1014
    have dq14 := dq10.same s1014
    have dx14 := dx10.same s1014
    have g12'' := g12'.ext (.of s14)
    have g13' := g13.ext (.of s14)
    cases hi : intsD ds.length X with
    | false => exact iteF (hN _ _ ⟨p13, p12, _, _, _, _, D14, T14, dq14, dx14, g13', .inr (.inl ⟨hf, hi, rfl, rfl⟩), g12'', exD, by rw [hf]; rfl⟩)
    | true =>
    refine iteT ?_
    obtain ⟨es, rfl⟩ : ∃ es, X = .tuple es := by
      cases X with
      | tuple es => exact ⟨es, rfl⟩
      | _ => cases hi
    have b200 := bX es rfl
    obtain ⟨pu, us, rfl, nu, ru, hu⟩ := dx14.tup_inv
    have hi' : (decide (es.length = ds.length) && es.all isIntD) = true := hi
    obtain ⟨hl, hal⟩ := Bool.and_eq_true_iff.mp hi'
    have hl := of_decide_eq_true hl
    have eus := ints_dq hu (by rw [List.all_map]; exact hal)
    subst eus
    have hpu : H14 pu = some (.tup ((es.map intV).map V.int)) := by cases ru; assumption
    refine ⟨_, rfl, _, rfl, t, pu, rowsV ds, es.map intV, ds.length, rfl, hTt.same s1014, fm.lm, fm.lr, fm.m8, fm.hx, hpu, by rw [List.length_map]; exact hl, fun x hx => Nat.lt_trans (b200 x hx) (Nat.pow_lt_pow_right (by decide) (by decide)), fun H15 s15 => ?_⟩
    refine ⟨_, .int (valV ds.length (rowsV ds) (es.map intV)), All, rfl, .int _, rep_intK (val_abs fm b200), (by show (3 : Nat) ≤ sizeLine; decide), fun p16 hp16 => ?_⟩
    have s16 := s15.trans (Same.upd_new (o := .tup [.str "told", .str (PyData.int (valV ds.length (rowsV ds) (es.map intV))).shown, .bl true]) hp16)
    exact hN _ _ ⟨p16, p12, _, _, _, _, D14.same s16, T14.ext s16, dq14.same s16, dx14.same s16, upd_same, .inr (.inr ⟨ds, es, rfl, rfl, hf, hi, rfl, rfl⟩), g12''.ext (.of s16), exD, by rw [hf]; rfl⟩
  rintro σ H11 ⟨pd', pe', wv, txv, wd, tx, D11, T11, dq11, dx11, gv, exv, gd, exd, rfl⟩
  clear D10 T10 dq10 dx10 gd10 g10
  refine det_told (C0 := C0) (C1 := C1) (T := T) (S := fun σ => σ[4]? = some (some tv)) dq11.any rD exd (fun σ E1 H1 Q1 hS h => ⟨_, hS, h⟩) _ H11 _ rfl (LamX.ExtN.refl _) T11 fun H12 p12 x12 T12 g12 => ?_
  refine ⟨_, rfl, _, tt_dp g12, tt_dp (gd.ext x12), rfl, (by show (1 : Nat) ≤ 60; decide), _, rfl, iteF ?_⟩
  dsimp only [tNext]
  refine val_told (C0 := C0) (C1 := C1) (T := T) (S := fun σ => σ[4]? = some (some tv) ∧ σ[5]? = some (some uv)) (H0 := H12) (dq11.ext x12).any (dx11.ext x12).any rD rX sX bX exv (fun σ E1 H1 Q1 hS h => ⟨_, hS.1, _, hS.2, h⟩) _ H12 _ ⟨rfl, rfl⟩ (LamX.ExtN.refl _) T12 fun H13 p13 x13 T13 g13 => ?_
  have x23 := x12.trans x13
  refine ⟨_, rfl, _, tt_dp g13, tt_dp (gv.ext x23), rfl, (by show (1 : Nat) ≤ 60; decide), _, rfl, iteF ?_⟩
  dsimp only [tNext]
  have D13 := D11.ext x23
  have T13' := T13
  have gv13 := gv.ext x23
  have dq13 := (dq11.ext x23).any
  have dx13 := (dx11.ext x23).any
  refine ⟨_, rfl, _, rfl, ?_⟩
  cases hf : formD D with
  | false => exact iteF (iteF ⟨D13, T13', _, _, _, _, _, _, _, rfl⟩)
  | true =>
  refine iteT ⟨_, rfl, .inr (.inl ⟨pd', _, 0, .str wv, rfl, rfl, SqT.of gv13, atI_nat (j := 0) rfl, ?_⟩)⟩
  refine ⟨rfl, _, rfl, ?_⟩
  rcases exv with ⟨pf, _⟩ | ⟨_, _, rfl, _⟩ | ⟨ds, es, rfl, rfl, ok, ik, rfl, _⟩
  · rw [hf] at pf
    cases pf
  · rw [decide_eq_false (by decide)]
    exact iteF (iteF ⟨D13, T13', _, _, _, _, _, _, _, rfl⟩)
  · rw [decide_eq_true rfl]
    refine iteT ⟨_, rfl, _, rfl, tv, uv, ds, es, rfl, dq13, dx13, ok, ik, bX es rfl, fun H14 s14 => ⟨_, rfl, iteF ⟨D13.same s14, T13'.ext s14, _, _, _, _, _, _, _, rfl⟩⟩⟩
end
end Ft

namespace Ft
open PySem L2
/-- the program's SIZES, as the top has left it -/
theorem sz_mk {K : PySem.W.Frag} {h : Heap} {mg : Str → Option Value} {a : Addr} {od : Option Addr} {osl : Array (Option Value)} {t0 t1 t2 t3 : Tok} {n : Nat} (X : K.In h) (G : h.Ns mainGlobals mg)
    (e : PySem.W.nsIn K mainGlobals "SIZES" = some (some (.ref a)))
    (l : K.lookup a = some ⟨.type "tuple", od, .seq #[.int 2 t0, .int 4 t1, .int 6 t2, .int 8 t3] n, osl⟩) : Sz K mg := by
  refine ⟨a, PySem.W.mg_of X G e, fun H => Or.inr ⟨_, _, n, l, rfl, rfl, ?_, ?_⟩⟩
  · show 4 ≤ sizeLine
    decide
  · exact .cons ⟨_, rfl⟩ (.cons ⟨_, rfl⟩ (.cons ⟨_, rfl⟩ (.cons ⟨_, rfl⟩ .nil)))
theorem kb_is_form {K : PySem.W.Frag} {f : Addr} {fd : FuncData} (F : Fun K "is_form" "is_form" s_is_form f fd) : KBinds K fd ["thing"] ["thing"] idU idV := by
  obtain ⟨oc, od, kV, doc, pm, an, cdv, ct, osl, rfl, lk, hcd⟩ := F.ex
  refine ⟨fun s us ws _ hl => ?_, id_rel⟩
  match us, ws, hl with
  | [], [a], _ => exact .of_eq rfl
theorem kb_value_at {K : PySem.W.Frag} {f : Addr} {fd : FuncData} (F : Fun K "value_at" "value_at" s_value_at f fd) : KBinds K fd ["form", "x"] ["x", "form"] swapU swapV := by
  obtain ⟨oc, od, kV, doc, pm, an, cdv, ct, osl, rfl, lk, hcd⟩ := F.ex
  refine ⟨fun s us ws _ hl => ?_, swap_rel⟩
  match us, ws, hl with
  | [], [a, b], _ => exact .of_eq rfl
end Ft

set_option exponentiation.threshold 9000
namespace Ft
open PySem L2
theorem df_mk {K : PySem.W.Frag} {h : Heap} {mg : Str → Option Value} {x : Str} {st : Stmt} {ps : List Str} {f : Addr} {oc kV doc pm cdv ct : Value} {od an : Option Addr} {osl : Array (Option Value)} (X : K.In h) (G : h.Ns mainGlobals mg)
    (a : PySem.W.nsIn K mainGlobals x = some (some (.ref f))) (l : K.lookup f = some ⟨oc, od, .func (PySem.W.fnOf x x (defArgs st) (defBody st) (defScope st) .none kV doc pm an cdv ct), osl⟩) (c : PySem.W.codeIn K cdv x = true) (k : PySem.W.keepIn K (.ref f) = true)
    (hb : ∀ (kV doc pm : Value) (an : Option Addr) (cdv ct : Value) (us : List Value), us.length = ps.length → bindArgs (PySem.W.fnOf x x (defArgs st) (defBody st) (defScope st) .none kV doc pm an cdv ct) ⟨us, []⟩ = pure (ps.zip us)) : Df K mg x st ps :=
  have F := fun_mk (st := st) l c k
  ⟨f, _, F, PySem.W.mg_of X G a, F.binds hb⟩
theorem b0 {x : Str} {st : Stmt} (h : ∀ (kV doc pm : Value) (an : Option Addr) (cdv ct : Value), bindArgs (PySem.W.fnOf x x (defArgs st) (defBody st) (defScope st) .none kV doc pm an cdv ct) ⟨[], []⟩ = pure []) :
    ∀ (kV doc pm : Value) (an : Option Addr) (cdv ct : Value) (us : List Value), us.length = ([] : List Str).length → bindArgs (PySem.W.fnOf x x (defArgs st) (defBody st) (defScope st) .none kV doc pm an cdv ct) ⟨us, []⟩ = pure (([] : List Str).zip us) :=
  fun kV doc pm an cdv ct us hl => match us, hl with | [], _ => h kV doc pm an cdv ct
theorem b1 {x : Str} {st : Stmt} {p0 : Str} (h : ∀ (kV doc pm : Value) (an : Option Addr) (cdv ct u0 : Value), bindArgs (PySem.W.fnOf x x (defArgs st) (defBody st) (defScope st) .none kV doc pm an cdv ct) ⟨[u0], []⟩ = pure [(p0, u0)]) :
    ∀ (kV doc pm : Value) (an : Option Addr) (cdv ct : Value) (us : List Value), us.length = [p0].length → bindArgs (PySem.W.fnOf x x (defArgs st) (defBody st) (defScope st) .none kV doc pm an cdv ct) ⟨us, []⟩ = pure ([p0].zip us) :=
  fun kV doc pm an cdv ct us hl => match us, hl with | [u0], _ => h kV doc pm an cdv ct u0
theorem b2 {x : Str} {st : Stmt} {p0 p1 : Str} (h : ∀ (kV doc pm : Value) (an : Option Addr) (cdv ct u0 u1 : Value), bindArgs (PySem.W.fnOf x x (defArgs st) (defBody st) (defScope st) .none kV doc pm an cdv ct) ⟨[u0, u1], []⟩ = pure [(p0, u0), (p1, u1)]) :
    ∀ (kV doc pm : Value) (an : Option Addr) (cdv ct : Value) (us : List Value), us.length = [p0, p1].length → bindArgs (PySem.W.fnOf x x (defArgs st) (defBody st) (defScope st) .none kV doc pm an cdv ct) ⟨us, []⟩ = pure ([p0, p1].zip us) :=
  fun kV doc pm an cdv ct us hl => match us, hl with | [u0, u1], _ => h kV doc pm an cdv ct u0 u1
theorem b3 {x : Str} {st : Stmt} {p0 p1 p2 : Str} (h : ∀ (kV doc pm : Value) (an : Option Addr) (cdv ct u0 u1 u2 : Value), bindArgs (PySem.W.fnOf x x (defArgs st) (defBody st) (defScope st) .none kV doc pm an cdv ct) ⟨[u0, u1, u2], []⟩ = pure [(p0, u0), (p1, u1), (p2, u2)]) :
    ∀ (kV doc pm : Value) (an : Option Addr) (cdv ct : Value) (us : List Value), us.length = [p0, p1, p2].length → bindArgs (PySem.W.fnOf x x (defArgs st) (defBody st) (defScope st) .none kV doc pm an cdv ct) ⟨us, []⟩ = pure ([p0, p1, p2].zip us) :=
  fun kV doc pm an cdv ct us hl => match us, hl with | [u0, u1, u2], _ => h kV doc pm an cdv ct u0 u1 u2
theorem b4 {x : Str} {st : Stmt} {p0 p1 p2 p3 : Str} (h : ∀ (kV doc pm : Value) (an : Option Addr) (cdv ct u0 u1 u2 u3 : Value), bindArgs (PySem.W.fnOf x x (defArgs st) (defBody st) (defScope st) .none kV doc pm an cdv ct) ⟨[u0, u1, u2, u3], []⟩ = pure [(p0, u0), (p1, u1), (p2, u2), (p3, u3)]) :
    ∀ (kV doc pm : Value) (an : Option Addr) (cdv ct : Value) (us : List Value), us.length = [p0, p1, p2, p3].length → bindArgs (PySem.W.fnOf x x (defArgs st) (defBody st) (defScope st) .none kV doc pm an cdv ct) ⟨us, []⟩ = pure ([p0, p1, p2, p3].zip us) :=
  fun kV doc pm an cdv ct us hl => match us, hl with | [u0, u1, u2, u3], _ => h kV doc pm an cdv ct u0 u1 u2 u3
section
variable {P : Program} {w : World} {K : PySem.W.Frag} {mg : Str → Option Value} {base : Heap} {k : Nat} {x : Str} {st : Stmt} {ps ks : List Str} {sp : Sp} {gU : List Value → List Value → List Value} {gV : List V → List V → List V} {c : Addr}
theorem cal_of (D : Df K mg x st ps) (h : ∀ {f : Addr} {fd : FuncData}, Fun K x x st f fd → FnOk P w K mg base CX0 k f fd ps sp) : Cal P w K mg base k x sp := by
  obtain ⟨f, fd, F, m, b⟩ := D.ex
  exact ⟨f, fd, _, h F, m, F.kp, b⟩
theorem calG_of (D : Df K mg x st ps) (h : ∀ {f : Addr} {fd : FuncData}, Fun K x x st f fd → FnG P w K mg base k f fd ps sp) : CalG P w K mg base k x sp := by
  obtain ⟨f, fd, F, m, b⟩ := D.ex
  exact ⟨f, fd, _, h F, m, F.kp, b⟩
theorem calG_ofC (D : DfC K mg x st ps c) (h : ∀ {f : Addr} {fd : FuncData}, Fun K x x st f fd → fd.code = .ref c → FnG P w K mg base k f fd ps sp) : CalG P w K mg base k x sp := by
  obtain ⟨f, fd, F, m, b, hc⟩ := D.ex
  exact ⟨f, fd, _, h F hc, m, F.kp, b⟩
theorem calK_of (D : Df K mg x st ps) (h : ∀ {f : Addr} {fd : FuncData}, Fun K x x st f fd → FnOk P w K mg base CX0 k f fd ps sp) (kb : ∀ {f : Addr} {fd : FuncData}, Fun K x x st f fd → KBinds K fd ps ks gU gV) : CalK P w K mg base k x ks gV sp := by
  obtain ⟨f, fd, F, m, b⟩ := D.ex
  exact ⟨f, fd, _, _, h F, m, F.kp, kb F⟩
theorem calX_of (D : Df K mg x st ps) (h : ∀ {f : Addr} {fd : FuncData}, Fun K x x st f fd → FnOk P w K mg base (L2.CX P w) k f fd ps sp) : CalX P w K mg base k x sp := by
  obtain ⟨f, fd, F, m, b⟩ := D.ex
  exact ⟨f, fd, _, h F, m, F.kp, b⟩
theorem calL_of (D : Df K mg x st ps) (h : ∀ {f : Addr} {fd : FuncData}, Fun K x x st f fd → FnOk P w K mg base (L2.CX P w) k f fd ps sp) (kb : ∀ {f : Addr} {fd : FuncData}, Fun K x x st f fd → KBinds K fd ps ks gU gV) : CalL P w K mg base k x ps ks gU gV sp := by
  obtain ⟨f, fd, F, m, b⟩ := D.ex
  exact ⟨f, fd, h F, m, F.kp, b, kb F⟩
end
/-- the tables of the lambdas -/
abbrev tabT (P0 : Addr) : List (Addr × Str) := [(P0, ("law" : Str) ++ (".<locals>." : Str) ++ ("<lambda>" : Str))]
/-- the defs of the text, as the top has left them -/
structure Dfs (K : PySem.W.Frag) (mg : Str → Option Value) : Prop where
  is_integer : Df K mg "is_integer" s_is_integer ["thing"]
  is_between : Df K mg "is_between" s_is_between ["thing", "least", "most"]
  is_table_of_integers : Df K mg "is_table_of_integers" s_is_table_of_integers ["thing", "many"]
  reduced : Df K mg "reduced" s_reduced ["rows", "many"]
  cleared : Df K mg "cleared" s_cleared ["rows", "many"]
  first_row_with : Df K mg "first_row_with" s_first_row_with ["table", "k", "least"]
  without : Df K mg "without" s_without ["row", "pivot", "k", "last"]
  determinant : Df K mg "determinant" s_determinant ["rows"]
  stair : Df K mg "stair" s_stair ["rows"]
  is_form : Df K mg "is_form" s_is_form ["thing"]
  is_small_and_even : Df K mg "is_small_and_even" s_is_small_and_even ["table"]
  check_form : Df K mg "check_form" s_check_form ["form"]
  value_at : Df K mg "value_at" s_value_at ["form", "x"]
  determinant_of : Df K mg "determinant_of" s_determinant_of ["form"]
  ldeck : Df K mg "_law_deck" s__law_deck ["_law_script"]
  ldraw : Df K mg "_law_draw" s__law_draw ["_law_deck_here", "_law_below"]
  lpick : Df K mg "_law_pick" s__law_pick ["_law_deck_here", "_law_some"]
  lorder : Df K mg "_law_order" s__law_order ["_law_deck_here", "_law_n"]
  lis_integer : Df K mg "_law_is_integer" s__law_is_integer ["_law_thing"]
  lare_integers : Df K mg "_law_are_integers" s__law_are_integers ["_law_thing", "_law_many"]
  lminors : Df K mg "_law_minors" s__law_minors ["_law_table"]
  lis_form : Df K mg "_law_is_form" s__law_is_form ["_law_thing"]
  lvalue : Df K mg "_law_value" s__law_value ["_law_form", "_law_x"]
  lbeside : Df K mg "_law_beside" s__law_beside ["_law_one", "_law_other_here"]
  lchanged : Df K mg "_law_changed" s__law_changed ["_law_form", "_law_table"]
  lunimodular : Df K mg "_law_unimodular" s__law_unimodular ["_law_deck_here", "_law_m", "_law_many"]
  ltwo : Df K mg "_law_two" s__law_two ["_law_deck_here", "_law_most"]
  lnamed_forms : Df K mg "_law_named_forms" s__law_named_forms []
  lbent : Df K mg "_law_bent" s__law_bent ["_law_deck_here", "_law_thing", "_law_depth"]
  lturned_form : Df K mg "_law_turned_form" s__law_turned_form ["_law_deck_here", "_law_form", "_law_many"]
  lany_form : Df K mg "_law_any_form" s__law_any_form ["_law_deck_here"]
  lother : Df K mg "_law_other" s__law_other ["_law_deck_here", "_law_form"]
  lunknowns : Df K mg "_law_unknowns" s__law_unknowns ["_law_deck_here", "_law_m"]
  ltold : Df K mg "_law_told" s__law_told ["_law_call"]
  lis_value_told : Df K mg "_law_is_value_told" s__law_is_value_told ["_law_form", "_law_x"]
  law : Df K mg "law" s_law ["_law_script"]
theorem law_all {P : Program} {w : World} {K : PySem.W.Frag} {mg : Str → Option Value} {base : Heap} {f : Addr} {fd : FuncData} {C0 C1 CT c0 P0 : Addr} (T0 : ErrT K mg "BadForm" "thing" "BadForm.__init__" i_BadForm C0) (T1 : ErrT K mg "BadRow" "thing" "BadRow.__init__" i_BadRow C1) (E : Ers K mg C0 C1 CT) (DC0 : DfC K mg "law" s_law ["_law_script"] c0) (TB0 : LamX.TabB base mg c0 P0) (D : Dfs K mg) (B : Bi mg) (U : ErsU K C0 C1 CT) (S : Sz K mg) (F : Fun K "law" "law" s_law f fd) (hc : fd.code = .ref c0) : FnG P w K mg base 9 f fd ["_law_script"] (sp_lawT K (tabT P0)) := by
  have L0 : LamE K mg base C0 C1 CT c0 P0 (tabT P0) "law" := by
    refine ⟨E, D.ltold, TB0, List.mem_cons_self, fun p hp e => ?_⟩
    rw [List.mem_singleton.mp hp] at e ⊢
  have c1__law_deck := ok_deck (P := P) (w := w) (base := base) D.ldeck B
  have c3__law_draw := ok_draw (P := P) (w := w) (base := base) D.ldraw B
  have c4__law_two := ok_two (P := P) (w := w) (base := base) D.ltwo B c3__law_draw
  have c7__law_order := ok_order (P := P) (w := w) (base := base) D.lorder B c3__law_draw
  have c6__law_unimodular := ok_uni (P := P) (w := w) (base := base) D.lunimodular B c3__law_draw c7__law_order
  have c8__law_changed := ok_changed (P := P) (w := w) (base := base) D.lchanged B
  have c5__law_turned_form := ok_turned (P := P) (w := w) (base := base) D.lturned_form B c6__law_unimodular c8__law_changed
  have c9__law_named_forms := ok_named (P := P) (w := w) (base := base) D.lnamed_forms B
  have c10__law_pick := ok_pick (P := P) (w := w) (base := base) D.lpick B c3__law_draw
  have c11__law_beside := ok_beside (P := P) (w := w) (base := base) D.lbeside B
  have c2__law_any_form := ok_any (P := P) (w := w) (base := base) D.lany_form B c3__law_draw c4__law_two c5__law_turned_form c9__law_named_forms c10__law_pick c11__law_beside
  have c16__law_bent := ok_bent0 (P := P) (w := w) (base := base) D.lbent
  have c17__law_is_integer := ok_lisint (P := P) (w := w) (base := base) D.lis_integer B
  have c15__law_bent := ok_bgO (P := P) (w := w) (base := base) D.lbent B c3__law_draw c16__law_bent c17__law_is_integer c10__law_pick
  have c14__law_bent := ok_bgA (P := P) (w := w) (base := base) D.lbent B c3__law_draw c15__law_bent c17__law_is_integer c10__law_pick
  have c13__law_bent := ok_bgB (P := P) (w := w) (base := base) D.lbent B c3__law_draw c14__law_bent c17__law_is_integer c10__law_pick
  have c12__law_other := ok_other (P := P) (w := w) (base := base) D.lother B c3__law_draw c10__law_pick c7__law_order c11__law_beside c13__law_bent
  have c18__law_unknowns := ok_unk (P := P) (w := w) (base := base) D.lunknowns B c3__law_draw c10__law_pick c14__law_bent
  have c20__law_are_integers := ok_lints (P := P) (w := w) (base := base) D.lare_integers B c17__law_is_integer
  have c21__law_minors := ok_minors (P := P) (w := w) (base := base) D.lminors B
  have c19__law_is_form := ok_lisForm (P := P) (w := w) (base := base) D.lis_form B c20__law_are_integers c21__law_minors
  have c24_is_integer := ok_isIntQ (P := P) (w := w) (base := base) D.is_integer B
  have c23_is_table_of_integers := ok_tabQ (P := P) (w := w) (base := base) D.is_table_of_integers B c24_is_integer
  have c26_without := ok_without (P := P) (w := w) (base := base) D.without B
  have c25_stair := ok_stairT (P := P) (w := w) (base := base) D.stair B c26_without
  have c29_is_integer := ok_is_integer (P := P) (w := w) (base := base) D.is_integer B
  have c28_is_between := ok_is_between (P := P) (w := w) (base := base) D.is_between c29_is_integer
  have c27_is_small_and_even := ok_evenQ (P := P) (w := w) (base := base) D.is_small_and_even B c28_is_between
  have c22_is_form := cal_of (P := P) (w := w) (base := base) D.is_form (fun F => fn_formQ F B S c23_is_table_of_integers c25_stair c27_is_small_and_even)
  have k30_is_form := calK_of (P := P) (w := w) (base := base) D.is_form (fun F => fn_formQ F B S c23_is_table_of_integers c25_stair c27_is_small_and_even) (fun F => kb_is_form F)
  have c31__law_value := ok_lvalue (P := P) (w := w) (base := base) D.lvalue B
  have x33_check_form := cx_checkFormQ (P := P) (w := w) (base := base) D.check_form (err_BadForm T0) c22_is_form
  have c37_first_row_with := ok_frw (P := P) (w := w) (base := base) D.first_row_with B
  have c36_reduced := ok_reduced (P := P) (w := w) (base := base) D.reduced B c37_first_row_with c26_without
  have c35_cleared := ok_cleared (P := P) (w := w) (base := base) D.cleared B c36_reduced
  have c34_determinant := ok_det (P := P) (w := w) (base := base) D.determinant B c35_cleared
  have x32_determinant_of := calX_of (P := P) (w := w) (base := base) D.determinant_of (fun F => fx_detQ F x33_check_form c34_determinant)
  have l38_value_at := calL_of (P := P) (w := w) (base := base) D.value_at (fun F => fx_valueQ F B (err_BadRow T1) x33_check_form c24_is_integer) (fun F => kb_value_at F)
  have g39__law_is_value_told := calG_of (P := P) (w := w) (base := base) D.lis_value_told (fun F => fn_vtold F B c31__law_value l38_value_at)
  exact fn_law F hc B U L0 c1__law_deck c2__law_any_form c12__law_other c18__law_unknowns c19__law_is_form c22_is_form k30_is_form c21__law_minors c20__law_are_integers c31__law_value x32_determinant_of l38_value_at g39__law_is_value_told
theorem law_at {q : Program} {loose : List Str} {XP : (Str → Option Value) → Heap → Prop} {s0 : Shared} {mb : Str → Option Value} {l : PySem.W.OpenLaw} {w : World} {K : PySem.W.Frag} {mg : Str → Option Value} {h : Heap} {fa f f0 C0 C1 CT c0 P0 : Addr} {oc kV doc pm cdv ct oc0 kV0 doc0 pm0 ct0 cls0 : Value} {od an od0 an0 odc0 : Option Addr} {osl osl0 slc0 : Array (Option Value)} {vs0 : Array Value}
    (X : K.In h) (G : PySem.W.Ground q loose [] XP w s0 mg mb h) (hfa : mg "law" = some (.ref fa))
    (a : PySem.W.nsIn K mainGlobals "law" = some (some (.ref f))) (lk : K.lookup f = some ⟨oc, od, .func (PySem.W.fnOf "law" "law" (defArgs s_law) (defBody s_law) (defScope s_law) .none kV doc pm an cdv ct), osl⟩) (cl : PySem.W.codeIn K cdv "law" = true) (k : PySem.W.keepIn K (.ref f) = true)
    (a0 : PySem.W.nsIn K mainGlobals "law" = some (some (.ref f0))) (l0 : K.lookup f0 = some ⟨oc0, od0, .func (PySem.W.fnOf "law" "law" (defArgs s_law) (defBody s_law) (defScope s_law) .none kV0 doc0 pm0 an0 (.ref c0) ct0), osl0⟩)
    (d0 : PySem.W.codeIn K (.ref c0) "law" = true) (k0 : PySem.W.keepIn K (.ref f0) = true) (e0 : K.lookup c0 = some ⟨cls0, odc0, .fields vs0, slc0⟩) (v0 : vs0[11]? = some (.ref P0)) (o0 : K.lookup P0 = none) (h0 : PySem.W.CodeHd h c0 P0 ∧ h.get? P0 = some (PySem.W.tabObj #[]))
   
    (T0 : ErrT K mg "BadForm" "thing" "BadForm.__init__" i_BadForm C0) (ic0 : PySem.W.isClsIn K C0 = true) (s0_0 : PySem.W.subIn K (.ref C0) (.ref C0) = some true)
    (T1 : ErrT K mg "BadRow" "thing" "BadRow.__init__" i_BadRow C1) (ic1 : PySem.W.isClsIn K C1 = true) (s1_0 : PySem.W.subIn K (.ref C1) (.ref C0) = some false) (s1_1 : PySem.W.subIn K (.ref C1) (.ref C1) = some true)
    (gT : PySem.W.nsIn K mainGlobals "TermError" = some (some (.ref CT))) (D : Dfs K mg) (B : Bi mg) (U : ErsU K C0 C1 CT) (S : Sz K mg) : LawT l.prog w K 9 63 "_law_script" mg fa h := by
  have e := hfa.symm.trans (PySem.W.mg_of X G.T.g a)
  cases e
  have ea := a.symm.trans a0
  cases ea
  have F0 := fun_mk (st := s_law) l0 d0 k0
  have DC0 : DfC K mg "law" s_law ["_law_script"] c0 := ⟨_, _, F0, PySem.W.mg_of X G.T.g a0, F0.binds (b1 fun _ _ _ _ _ _ _ => rfl), rfl⟩
  have E : Ers K mg C0 C1 CT := ⟨T0.c, T1.c, T0.g, T1.g, PySem.W.mg_of X G.T.g gT, exm_own T0.c.xf.exC ic0 T0.c.ty s0_0, exm_own T0.c.xf.exC ic0 T0.c.ty s1_0, exm_own T1.c.xf.exC ic1 T1.c.ty s1_1⟩
  refine ⟨_, [(c0, P0)], sp_lawT K (tabT P0), fun p hp => ?_, fun p hp => ?_, fun s u => .of_eq rfl, fun H a ns hl hH hS => ⟨a, ns, rfl, hS, hl, fun p hp => ?_, fun _ => rfl⟩,
    fun base _ _ tb => law_all T0 T1 E DC0 (tb (c0, P0) (List.mem_cons_self))  D B U S F0 rfl⟩
  · rw [List.mem_singleton.mp hp]
    exact h0
  · rw [List.mem_singleton.mp hp]
    exact o0
  · rw [List.mem_singleton.mp hp]
    exact hH (c0, P0) (List.mem_cons_self)
end Ft

open PySem PySem.W PyProof.Rows in
set_option maxRecDepth 100000 in
set_option maxHeartbeats 0 in
theorem PySem.Challenge.cw_firstterms_k41_any_value_as_a_form_holds : PySem.Challenge.rw_firstterms_k41_any_value_as_a_form.Holds := by
  w_on; o_law; k_head; (case hw => w_witness2)
  k_fill
  refine Ft.walk_gT (l := PySem.Challenge.rw_firstterms_k41_any_value_as_a_form) (n := 63) (k := 9) (x := "_law_script") rfl (by decide) rfl ⟨rfl, by decide, by decide⟩ (fun w h Y => PySem.W.km_in_of Y) ?F
  case F =>
    intro w s0 mg mb fa h Y KX GG hmg
    have G := GG.T.g
    refine' Ft.law_at KX GG hmg ?a ?lk ?cl ?k ?a0 ?l0 ?d0 ?k0 ?e0 ?v0 ?o0 ?h0  ?T0 ?ic0 ?s0_0 ?T1 ?ic1 ?s1_0 ?s1_1 ?gT ?D ?B ?U ?S
    (case a => k_is); (case lk => k_is); (case cl => k_is); (case k => k_is)
    (case a0 => k_is); (case l0 => k_is); (case d0 => k_is); (case k0 => k_is); (case e0 => k_is)
    (case v0 => rfl)
    (case o0 => first | k_is | rfl | kernel_rfl)
    case h0 =>
      refine' ⟨PySem.W.codeHd_of_K KX ?ch, PySem.W.km_tabs_of Y _ ?cm⟩
      (case ch => first | k_is | kx_is | kernel_rfl)
      (case cm => first | exact List.mem_cons_self | decide)
    case T0 =>
      refine' Ft.err_mk KX G ?ea ?em ?eov ?esa ?ega ?egg ?eex ?ehd ?ety ?ekp ?eno ?ei ?etI ?el ?ec ?ek (fun _ _ _ _ _ _ us hl => match us, hl with | [_, _], _ => rfl)
      (case ea => k_is)
      (case em => kx_is)
      (case eov => kx_is)
      (case esa => k_is)
      (case ega => k_is)
      (case egg => k_is)
      (case eex => k_is)
      (case ehd => k_is)
      (case ety => k_is)
      (case ekp => k_is)
      (case eno => k_is)
      (case ei => k_is)
      (case etI => k_is)
      (case el => k_is)
      (case ec => k_is)
      (case ek => k_is)
    (case ic0 => k_is)
    (case s0_0 => first | rfl | k_is)
    case T1 =>
      refine' Ft.err_mk KX G ?ea ?em ?eov ?esa ?ega ?egg ?eex ?ehd ?ety ?ekp ?eno ?ei ?etI ?el ?ec ?ek (fun _ _ _ _ _ _ us hl => match us, hl with | [_, _], _ => rfl)
      (case ea => k_is)
      (case em => kx_is)
      (case eov => kx_is)
      (case esa => k_is)
      (case ega => k_is)
      (case egg => k_is)
      (case eex => k_is)
      (case ehd => k_is)
      (case ety => k_is)
      (case ekp => k_is)
      (case eno => k_is)
      (case ei => k_is)
      (case etI => k_is)
      (case el => k_is)
      (case ec => k_is)
      (case ek => k_is)
    (case ic1 => k_is)
    (case s1_0 => first | rfl | k_is)
    (case s1_1 => first | rfl | k_is)
    (case gT => k_is)
    case D =>
      refine ⟨?d0, ?d1, ?d2, ?d3, ?d4, ?d5, ?d6, ?d7, ?d8, ?d9, ?d10, ?d11, ?d12, ?d13, ?d14, ?d15, ?d16, ?d17, ?d18, ?d19, ?d20, ?d21, ?d22, ?d23, ?d24, ?d25, ?d26, ?d27, ?d28, ?d29, ?d30, ?d31, ?d32, ?d33, ?d34, ?d35⟩
      (case d0 => refine' Ft.df_mk KX G ?a0 ?l0 ?c0 ?k0 (Ft.b1 fun _ _ _ _ _ _ _ => rfl); (case a0 => k_is); (case l0 => k_is); (case c0 => k_is); (case k0 => k_is))
      (case d1 => refine' Ft.df_mk KX G ?a1 ?l1 ?c1 ?k1 (Ft.b3 fun _ _ _ _ _ _ _ _ _ => rfl); (case a1 => k_is); (case l1 => k_is); (case c1 => k_is); (case k1 => k_is))
      (case d2 => refine' Ft.df_mk KX G ?a2 ?l2 ?c2 ?k2 (Ft.b2 fun _ _ _ _ _ _ _ _ => rfl); (case a2 => k_is); (case l2 => k_is); (case c2 => k_is); (case k2 => k_is))
      (case d3 => refine' Ft.df_mk KX G ?a3 ?l3 ?c3 ?k3 (Ft.b2 fun _ _ _ _ _ _ _ _ => rfl); (case a3 => k_is); (case l3 => k_is); (case c3 => k_is); (case k3 => k_is))
      (case d4 => refine' Ft.df_mk KX G ?a4 ?l4 ?c4 ?k4 (Ft.b2 fun _ _ _ _ _ _ _ _ => rfl); (case a4 => k_is); (case l4 => k_is); (case c4 => k_is); (case k4 => k_is))
      (case d5 => refine' Ft.df_mk KX G ?a5 ?l5 ?c5 ?k5 (Ft.b3 fun _ _ _ _ _ _ _ _ _ => rfl); (case a5 => k_is); (case l5 => k_is); (case c5 => k_is); (case k5 => k_is))
      (case d6 => refine' Ft.df_mk KX G ?a6 ?l6 ?c6 ?k6 (Ft.b4 fun _ _ _ _ _ _ _ _ _ _ => rfl); (case a6 => k_is); (case l6 => k_is); (case c6 => k_is); (case k6 => k_is))
      (case d7 => refine' Ft.df_mk KX G ?a7 ?l7 ?c7 ?k7 (Ft.b1 fun _ _ _ _ _ _ _ => rfl); (case a7 => k_is); (case l7 => k_is); (case c7 => k_is); (case k7 => k_is))
      (case d8 => refine' Ft.df_mk KX G ?a8 ?l8 ?c8 ?k8 (Ft.b1 fun _ _ _ _ _ _ _ => rfl); (case a8 => k_is); (case l8 => k_is); (case c8 => k_is); (case k8 => k_is))
      (case d9 => refine' Ft.df_mk KX G ?a9 ?l9 ?c9 ?k9 (Ft.b1 fun _ _ _ _ _ _ _ => rfl); (case a9 => k_is); (case l9 => k_is); (case c9 => k_is); (case k9 => k_is))
      (case d10 => refine' Ft.df_mk KX G ?a10 ?l10 ?c10 ?k10 (Ft.b1 fun _ _ _ _ _ _ _ => rfl); (case a10 => k_is); (case l10 => k_is); (case c10 => k_is); (case k10 => k_is))
      (case d11 => refine' Ft.df_mk KX G ?a11 ?l11 ?c11 ?k11 (Ft.b1 fun _ _ _ _ _ _ _ => rfl); (case a11 => k_is); (case l11 => k_is); (case c11 => k_is); (case k11 => k_is))
      (case d12 => refine' Ft.df_mk KX G ?a12 ?l12 ?c12 ?k12 (Ft.b2 fun _ _ _ _ _ _ _ _ => rfl); (case a12 => k_is); (case l12 => k_is); (case c12 => k_is); (case k12 => k_is))
      (case d13 => refine' Ft.df_mk KX G ?a13 ?l13 ?c13 ?k13 (Ft.b1 fun _ _ _ _ _ _ _ => rfl); (case a13 => k_is); (case l13 => k_is); (case c13 => k_is); (case k13 => k_is))
      (case d14 => refine' Ft.df_mk KX G ?a14 ?l14 ?c14 ?k14 (Ft.b1 fun _ _ _ _ _ _ _ => rfl); (case a14 => k_is); (case l14 => k_is); (case c14 => k_is); (case k14 => k_is))
      (case d15 => refine' Ft.df_mk KX G ?a15 ?l15 ?c15 ?k15 (Ft.b2 fun _ _ _ _ _ _ _ _ => rfl); (case a15 => k_is); (case l15 => k_is); (case c15 => k_is); (case k15 => k_is))
      (case d16 => refine' Ft.df_mk KX G ?a16 ?l16 ?c16 ?k16 (Ft.b2 fun _ _ _ _ _ _ _ _ => rfl); (case a16 => k_is); (case l16 => k_is); (case c16 => k_is); (case k16 => k_is))
      (case d17 => refine' Ft.df_mk KX G ?a17 ?l17 ?c17 ?k17 (Ft.b2 fun _ _ _ _ _ _ _ _ => rfl); (case a17 => k_is); (case l17 => k_is); (case c17 => k_is); (case k17 => k_is))
      (case d18 => refine' Ft.df_mk KX G ?a18 ?l18 ?c18 ?k18 (Ft.b1 fun _ _ _ _ _ _ _ => rfl); (case a18 => k_is); (case l18 => k_is); (case c18 => k_is); (case k18 => k_is))
      (case d19 => refine' Ft.df_mk KX G ?a19 ?l19 ?c19 ?k19 (Ft.b2 fun _ _ _ _ _ _ _ _ => rfl); (case a19 => k_is); (case l19 => k_is); (case c19 => k_is); (case k19 => k_is))
      (case d20 => refine' Ft.df_mk KX G ?a20 ?l20 ?c20 ?k20 (Ft.b1 fun _ _ _ _ _ _ _ => rfl); (case a20 => k_is); (case l20 => k_is); (case c20 => k_is); (case k20 => k_is))
      (case d21 => refine' Ft.df_mk KX G ?a21 ?l21 ?c21 ?k21 (Ft.b1 fun _ _ _ _ _ _ _ => rfl); (case a21 => k_is); (case l21 => k_is); (case c21 => k_is); (case k21 => k_is))
      (case d22 => refine' Ft.df_mk KX G ?a22 ?l22 ?c22 ?k22 (Ft.b2 fun _ _ _ _ _ _ _ _ => rfl); (case a22 => k_is); (case l22 => k_is); (case c22 => k_is); (case k22 => k_is))
      (case d23 => refine' Ft.df_mk KX G ?a23 ?l23 ?c23 ?k23 (Ft.b2 fun _ _ _ _ _ _ _ _ => rfl); (case a23 => k_is); (case l23 => k_is); (case c23 => k_is); (case k23 => k_is))
      (case d24 => refine' Ft.df_mk KX G ?a24 ?l24 ?c24 ?k24 (Ft.b2 fun _ _ _ _ _ _ _ _ => rfl); (case a24 => k_is); (case l24 => k_is); (case c24 => k_is); (case k24 => k_is))
      (case d25 => refine' Ft.df_mk KX G ?a25 ?l25 ?c25 ?k25 (Ft.b3 fun _ _ _ _ _ _ _ _ _ => rfl); (case a25 => k_is); (case l25 => k_is); (case c25 => k_is); (case k25 => k_is))
      (case d26 => refine' Ft.df_mk KX G ?a26 ?l26 ?c26 ?k26 (Ft.b2 fun _ _ _ _ _ _ _ _ => rfl); (case a26 => k_is); (case l26 => k_is); (case c26 => k_is); (case k26 => k_is))
      (case d27 => refine' Ft.df_mk KX G ?a27 ?l27 ?c27 ?k27 (Ft.b0 fun _ _ _ _ _ _ => rfl); (case a27 => k_is); (case l27 => k_is); (case c27 => k_is); (case k27 => k_is))
      (case d28 => refine' Ft.df_mk KX G ?a28 ?l28 ?c28 ?k28 (Ft.b3 fun _ _ _ _ _ _ _ _ _ => rfl); (case a28 => k_is); (case l28 => k_is); (case c28 => k_is); (case k28 => k_is))
      (case d29 => refine' Ft.df_mk KX G ?a29 ?l29 ?c29 ?k29 (Ft.b3 fun _ _ _ _ _ _ _ _ _ => rfl); (case a29 => k_is); (case l29 => k_is); (case c29 => k_is); (case k29 => k_is))
      (case d30 => refine' Ft.df_mk KX G ?a30 ?l30 ?c30 ?k30 (Ft.b1 fun _ _ _ _ _ _ _ => rfl); (case a30 => k_is); (case l30 => k_is); (case c30 => k_is); (case k30 => k_is))
      (case d31 => refine' Ft.df_mk KX G ?a31 ?l31 ?c31 ?k31 (Ft.b2 fun _ _ _ _ _ _ _ _ => rfl); (case a31 => k_is); (case l31 => k_is); (case c31 => k_is); (case k31 => k_is))
      (case d32 => refine' Ft.df_mk KX G ?a32 ?l32 ?c32 ?k32 (Ft.b2 fun _ _ _ _ _ _ _ _ => rfl); (case a32 => k_is); (case l32 => k_is); (case c32 => k_is); (case k32 => k_is))
      (case d33 => refine' Ft.df_mk KX G ?a33 ?l33 ?c33 ?k33 (Ft.b1 fun _ _ _ _ _ _ _ => rfl); (case a33 => k_is); (case l33 => k_is); (case c33 => k_is); (case k33 => k_is))
      (case d34 => refine' Ft.df_mk KX G ?a34 ?l34 ?c34 ?k34 (Ft.b2 fun _ _ _ _ _ _ _ _ => rfl); (case a34 => k_is); (case l34 => k_is); (case c34 => k_is); (case k34 => k_is))
      (case d35 => refine' Ft.df_mk KX G ?a35 ?l35 ?c35 ?k35 (Ft.b1 fun _ _ _ _ _ _ _ => rfl); (case a35 => k_is); (case l35 => k_is); (case c35 => k_is); (case k35 => k_is))
    case B =>
      refine' ⟨PySem.W.mg_none_of KX G ?z0, PySem.W.mg_none_of KX G ?z1, PySem.W.mg_none_of KX G ?z2, PySem.W.mg_none_of KX G ?z3, PySem.W.mg_none_of KX G ?z4, PySem.W.mg_none_of KX G ?z5, PySem.W.mg_none_of KX G ?z6, PySem.W.mg_none_of KX G ?z7, PySem.W.mg_none_of KX G ?z8, PySem.W.mg_none_of KX G ?z9, PySem.W.mg_none_of KX G ?z10, PySem.W.mg_none_of KX G ?z11, PySem.W.mg_none_of KX G ?z12, PySem.W.mg_none_of KX G ?z13, PySem.W.mg_none_of KX G ?z14, PySem.W.mg_none_of KX G ?z15, PySem.W.mg_none_of KX G ?z16, PySem.W.mg_none_of KX G ?z17, PySem.W.mg_none_of KX G ?z18, PySem.W.mg_none_of KX G ?z19, PySem.W.mg_none_of KX G ?z20, PySem.W.mg_none_of KX G ?z21, PySem.W.mg_none_of KX G ?z22⟩
      (case z0 => k_is)
      (case z1 => k_is)
      (case z2 => k_is)
      (case z3 => k_is)
      (case z4 => k_is)
      (case z5 => k_is)
      (case z6 => k_is)
      (case z7 => k_is)
      (case z8 => k_is)
      (case z9 => k_is)
      (case z10 => k_is)
      (case z11 => k_is)
      (case z12 => k_is)
      (case z13 => k_is)
      (case z14 => k_is)
      (case z15 => k_is)
      (case z16 => k_is)
      (case z17 => k_is)
      (case z18 => k_is)
      (case z19 => k_is)
      (case z20 => k_is)
      (case z21 => k_is)
      (case z22 => k_is)
    case U =>
      refine' ⟨?uhn, ?uht, ?utc, ?utt, ?ua0, ?um0, ?up0, ?ua1, ?um1, ?up1⟩
      (case uhn => first | k_is | rfl)
      (case uht => first | k_is | rfl)
      (case utc => first | k_is | rfl)
      (case utt => first | k_is | rfl)
      (case ua0 => first | k_is | rfl)
      (case um0 => first | k_is | rfl)
      (case up0 => first | k_is | rfl)
      (case ua1 => first | k_is | rfl)
      (case um1 => first | k_is | rfl)
      (case up1 => first | k_is | rfl)
    case S =>
      refine' Ft.sz_mk KX G ?sa ?sl
      (case sa => k_is); (case sl => k_is)

