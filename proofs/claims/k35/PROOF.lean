import PyProof.Rows.All
import Wide.All
import OpenK.AllK
import Wide.FinOn
import HandS.ForMost
import HandS.Flow
import HandS.Wide
import HandS.Gcd
import HandS.IsInst
import HandS.Zip
import HandS.Ends
import HandS.Walk
import KE.KMathGC
import HandS.ExcInit
import HandS.ExcField
import HandS.TryMany
import HandS.TryOnly
import HandS.ExcOwn
import HandS.WordsExc
import KE.KExcInit
import KE.KExcPX
import HandS.EndTab
import HandS.Lambda
import KE.KNestM
import Flt.RightSqrt
import HandS.Style
import PyProof.ReprBulk
import PyProof.Rows.StrJoinMade
import HandS.Dict
import PyProof.ReprRoads
import PyProof.CallFns
import HandS.ExcIs
import HandS.SetFor
import PyProof.Rows.CountFlat
import PyProof.EqKinds
import PyProof.FactsAll.dict
import PyProof.NeKinds
import PyProof.FactsAll.dict_2
import HandS.WideBits
import HandS.Iter
import HandS.TupAny
import KE.DataEq
import KE.KExcLine
import PySem.Challenge.RW_firstterms_k35_any_value_as_a_divisor_pi
set_option Elab.async false
set_option maxRecDepth 100000
namespace Ft
open PySem L2

/-! ### general: what a def may be called for -/
structure Cal (P : Program) (w : World) (K : PySem.W.Frag) (mg : Str → Option Value) (base : Heap) (k : Nat) (x : Str) (sp : Sp) : Prop where
  ex : ∃ (f : Addr) (fd : FuncData) (ps : List Str), FnOk P w K mg base CX0 k f fd ps sp ∧ mg x = some (.ref f) ∧ PySem.W.keepIn K (.ref f) = true ∧ Binds K fd ps []
/-- a def of the top: its text stands, its name leads to it, its arguments bind -/
structure Df (K : PySem.W.Frag) (mg : Str → Option Value) (x : Str) (st : Stmt) (ps : List Str) : Prop where
  ex : ∃ (f : Addr) (fd : FuncData), Fun K x x st f fd ∧ mg x = some (.ref f) ∧ Binds K fd ps []
section
variable {X : Cx} {k j : Nat} {x : Str} {sp : Sp} {p pos : Pos} {e : Expr} {es : List Expr} {t : TA}
theorem pe_c (c : Cal X.prog X.w X.K X.mg X.base k x sp) (hr : Room j X.A) (hk : k ≤ j) (hg : Gl X x) (ha : PA X (e :: es) t)
    (hdb : (x == ("__debug__" : Str)) = false := by decide) (he : starEach (e :: es) X.env = (false, eval e X.env) :: starEach es X.env := by rfl) (hpl : (backTo pos (starEach es X.env)).any (·.1) = false := by rfl) :
    PE X (.Call (.Name x p) (e :: es) [] pos) (tCall sp [] E0 t) := by
  obtain ⟨f, fd, ps, F, hm, kp, b⟩ := c.ex
  exact pe_call F (hr.mono hk) hg hm kp b .nil pass0 ha hdb he hpl
end
/-- what may be called for by keywords alone, in this order -/
structure CalK (P : Program) (w : World) (K : PySem.W.Frag) (mg : Str → Option Value) (base : Heap) (k : Nat) (x : Str) (ks : List Str) (gV : List V → List V → List V) (sp : Sp) : Prop where
  ex : ∃ (f : Addr) (fd : FuncData) (ps : List Str) (g : List Value → List Value → List Value), FnOk P w K mg base CX0 k f fd ps sp ∧ mg x = some (.ref f) ∧ PySem.W.keepIn K (.ref f) = true ∧ KBinds K fd ps ks g gV
section
variable {X : Cx} {k j : Nat} {x : Str} {ks : List Str} {gV : List V → List V → List V} {sp : Sp} {p pos : Pos} {kws : List Keyword} {tk : TA}
theorem pe_k0 (c : CalK X.prog X.w X.K X.mg X.base k x ks gV sp) (hr : Room j X.A) (hk : k ≤ j) (hg : Gl X x) (hkw : PK X kws tk)
    (hall : (backToKw pos (keywordEach kws X.env)).all (·.1.isSome) = true := by rfl) (hks : (backToKw pos (keywordEach kws X.env)).filterMap (·.1) = ks := by rfl) (hdb : (x == ("__debug__" : Str)) = false := by decide)
    (hpl : ((backTo pos (starEach [] X.env)).any (·.1) || (backToKw pos (keywordEach kws X.env)).any (·.1.isNone)) = false := by rfl) :
    PE X (.Call (.Name x p) [] kws pos) (tCallK sp gV E0 tNil tk) := by
  obtain ⟨f, fd, ps, g, F, hm, kp, b⟩ := c.ex
  refine ⟨fun pins s σ H Q I h => wpAny_Call_Name_kw (ld_glob I hg hm ?_ hdb)⟩
  refine PySem.W.callWith_KW0 (h₀ := X.base) I.ok.mod.kin kp hall (thn (hkw.run pos pins s σ H _ I h) fun ws s2 ⟨zs, H2, I2, rz, q2⟩ => ⟨I2.kIn, ?_⟩) hpl
  rw [hks]
  exact run_fnk F (hr.mono hk) b pass0 I2 .nil rz q2
end
section
variable {X : Cx}
theorem pe_ty {x : Str} {n : String} {pos : Pos} (hg : Gl X x) (hm : X.mg x = none) (hv : bootBuiltins x = some (.type n)) (hn : x ≠ "__name__" := by decide) (hd : (x == ("__debug__" : Str)) = false := by decide) : PE X (.Name x pos) (tC (.ty n)) := pe_bltn hg hm hv rfl hn hd
end
theorem kit_int_int {K : PySem.W.Frag} : PySem.W.kitOne K (.type "int") (.type "int") = some true := kit_ty (by decide +kernel)
theorem kit_int_bool {K : PySem.W.Frag} : PySem.W.kitOne K (.type "int") (.type "bool") = some false := kit_ty (by decide +kernel)
theorem ifD {c A B : Prop} [Decidable c] (h1 : c → A) (h2 : ¬ c → B) : if decide c = true then A else B := by
  by_cases h : c
  · rw [decide_eq_true h]; exact iteT (h1 h)
  · rw [decide_eq_false h]; exact iteF (h2 h)
theorem ifI {i j : Int} {A B : Prop} (h1 : i = j → A) (h2 : i ≠ j → B) : if decide (V.int i = V.int j) = true then A else B :=
  ifD (fun h => h1 (V.int.inj h)) fun h => h2 fun e => h (congrArg V.int e)
theorem ifN {c A B : Prop} [Decidable c] (h1 : ¬ c → A) (h2 : c → B) : if (!decide c) = true then A else B := by
  by_cases h : c
  · rw [decide_eq_true h]; exact iteF (h2 h)
  · rw [decide_eq_false h]; exact iteT (h1 h)
theorem ifNI {i j : Int} {A B : Prop} (h1 : i ≠ j → A) (h2 : i = j → B) : if (!decide (V.int i = V.int j)) = true then A else B :=
  ifN (fun h => h1 fun e => h (congrArg V.int e)) fun h => h2 (V.int.inj h)
/-- what follows, said once for all ways that lead there -/
theorem tSeq_join {a b : TS} {D : Ends} {σ : L2.St} {H : Hp} (J : L2.St → Hp → Prop) (h1 : ∀ N : L2.St → Hp → Prop, (∀ σ H, J σ H → N σ H) → a { D with nx := N } σ H) (h2 : ∀ σ H, J σ H → b D σ H) : tSeq a b D σ H := h1 (b D) h2
/-- while, by an invariant and a measure -/
theorem while_go {c : TT} {tb : TS} {D : Ends} {σ : L2.St} {H : Hp} (Pv : L2.St → Hp → Prop) (μ : L2.St → Hp → Nat) (h0 : Pv σ H)
    (hs : ∀ σ H, Pv σ H → c σ H fun b H1 => if b = true then ∃ N : L2.St → Hp → Prop, (∀ σ' H', N σ' H' → ∃ m', m' < μ σ H ∧ m' = μ σ' H' ∧ Pv σ' H') ∧ tb { D with nx := N, ct := N, bk := D.nx } σ H1 else D.nx σ H1) :
    tWhile c tb D σ H := by
  refine ⟨fun m σ H => m = μ σ H ∧ Pv σ H, ⟨_, rfl, h0⟩, ?_⟩
  rintro m σ H ⟨rfl, p⟩
  exact hs σ H p
/-- math.isqrt below 2 ^ 64 -/
def rIsqrt : List V → Hp → VK → Prop := fun vs H Q => ∃ a : Int, vs = [.int a] ∧ 0 ≤ a ∧ a < 2 ^ 64 ∧ Q (.int ((Float64.isqrt a.toNat : Nat) : Int)) H
theorem cr_isqrt {X : Cx} : CallR X (.builtin "math.isqrt") rIsqrt := by
  intro pins s σ H vs us Q I r h
  obtain ⟨a, rfl, h0, h1, q⟩ := h
  obtain ⟨u, rfl, t, rfl⟩ := vals1 r
  exact PySem.W.mg_isqrt h0 h1 ⟨.int _, H, I.tok _, ⟨_, rfl⟩, q⟩
/-- the built-ins of the text -/
structure Bi (mg : Str → Option Value) : Prop where
  TypeError : mg "TypeError" = none
  abs : mg "abs" = none
  bool : mg "bool" = none
  comb : mg "comb" = some (.builtin "math.comb")
  dict : mg "dict" = none
  enumerate : mg "enumerate" = none
  gcd : mg "gcd" = some (.builtin "math.gcd")
  int : mg "int" = none
  int_ : mg "int" = none
  isinstance : mg "isinstance" = none
  isqrt : mg "isqrt" = some (.builtin "math.isqrt")
  len : mg "len" = none
  len_ : mg "len" = none
  list : mg "list" = none
  max : mg "max" = none
  max_ : mg "max" = none
  min : mg "min" = none
  min_ : mg "min" = none
  range : mg "range" = none
  repr : mg "repr" = none
  reversed : mg "reversed" = none
  str : mg "str" = none
  sum : mg "sum" = none
  tuple : mg "tuple" = none
  zip : mg "zip" = none
/-- math.comb of ints from 0 to 18000 -/
def rComb : List V → Hp → VK → Prop := fun vs H Q => ∃ a b : Int, vs = [.int a, .int b] ∧ 0 ≤ a ∧ 0 ≤ b ∧ a ≤ 18000 ∧ Q (.int (PySem.W.mcComb a b)) H
theorem cr_comb {X : Cx} : CallR X (.builtin "math.comb") rComb := by
  intro pins s σ H vs us Q I r h
  obtain ⟨a, b, rfl, h0, h1, h2, q⟩ := h
  obtain ⟨t, u, rfl⟩ := Vals.int2 r
  exact PySem.W.mc_comb h0 h1 (by omega) (.inr h2) fun _ => ⟨.int _, H, I.tok _, ⟨_, rfl⟩, q⟩
end Ft

namespace Ft
open PySem L2
/-! ### own errors over Exception, whose __init__ stores one field -/
abbrev excBm : List Value := [.type "Exception", .type "BaseException", .type "object"]
/-- what the top has left of an error's class at C; f: the field that it stores -/
structure ErrC (K : PySem.W.Frag) (C : Addr) (f : Str) : Prop where
  made : PySem.W.excInitIn K C excBm "Exception.__new__" = true
  ov : PySem.W.excOver K C excBm = true
  sa : PySem.W.findIn K (.ref C) "__setattr__" = some (some (.builtin "object.__setattr__"))
  xf : XfC K C
  ty : PySem.W.typeIn K (.ref C) = some (.type "type")
  kp : PySem.W.keepIn K (.ref C) = true
  no : PySem.W.findIn K (.ref C) f = some none
section
variable {prog : Program} {w : World} {A : Around} {R : Result → Shared → Prop} {hp : Heap} {g : Array GenState} {d : Drawn} {t : Nat} {os : OsState} {K : PySem.W.Frag} {C x t1 : Addr} {f : Str} {tk : Tok} {v : Value}
/-- the first field of a new error, in the heap -/
theorem err_store (T : ErrC K C f) (X : K.In hp) (hx : hp.get? x = some (PySem.HandSPX.excO C t1))
    (q : ∀ h' tk', h'.Ns1 hp.objs.size (fun y => if y = f then some v else none) → h'.get? x = some { cls := .ref C, dict := some hp.objs.size, data := .fields #[.ref t1, .none, .none, .none, .bool false, .none] } →
      (∀ b o, b ≠ x → hp.get? b = some o → h'.get? b = some o) → R (.ok (.ret .none)) ⟨h', g, d, tk', os⟩) :
    codeAny (model prog w) A (.call (.builtin "object.__setattr__") ⟨[.ref x, .str f tk, v], []⟩) R ⟨hp, g, d, t, os⟩ := by
  obtain ⟨cd, hc, hd⟩ := PySem.W.any_some T.xf.hdC
  have ht : PySem.W.takerIn K C f = some none := by unfold PySem.W.takerIn; rw [T.no]; rfl
  have lt : x < hp.objs.size := Heap.lt_size hx
  refine PySem.W.osa_openX (s := ⟨hp, g, d, t, os⟩) (od := none) F.store_Exception X ⟨hx, rfl, rfl, trivial⟩ T.ov ht fun b => ?_
  refine wpAny_bind (wpAny_pure (wpAny_bind (PySem.W.instanceDict_exc (s := ⟨hp, g, d, t, os⟩) hx (PySem.W.looks_clsIn X hc) hd ?_)))
  refine PySem.HandSPX.store_in_new ?_ fun h' tk' hn hs => ?_
  · exact ⟨PySem.W.dictOf [] 0, #[], 0, (Heap.get?_update_ne _ _ _ _ (Nat.ne_of_gt lt)).trans (Heap.get?_push_at (o := PySem.W.dictOf [] 0) rfl rfl), rfl, fun e he => absurd he (by simp), fun _ => rfl⟩
  · refine q h' tk' hn ?_ fun b o nb ho => ?_
    · exact (hs.2 x (Nat.ne_of_lt lt)).trans (Heap.get?_update_self _ (Heap.get?_push_of_some _ hx) rfl)
    · exact (hs.2 b (Nat.ne_of_lt (Heap.lt_size ho))).trans ((Heap.get?_update_ne _ _ _ _ nb).trans (Heap.get?_push_of_some _ ho))
end
/-- self.f = e, self an error that is being made -/
def tErr (K : PySem.W.Frag) (f : Str) (to te : TE) : TS := fun D σ H => te σ H fun y H1 => to σ H1 fun x H2 => ∃ a C, x = .ref a ∧ ErrC K C f ∧ H2 a = some (exo a C none) ∧ ∀ dx, H2 dx = none → dx ≠ a → D.nx σ (upd (upd H2 dx (exd dx [(f, y)])) a (exo a C (some dx)))
section
variable {X : Cx} {o e : Expr} {to te : TE} {f : Str} {p' pos : Pos}
theorem ps_err (ho : PE X o to) (he : PE X e te) (hs : swapsWith e (some (.Attribute o f p')) pos.line X.env = pure false := by rfl) : PS X (.Assign [.Attribute o f p'] e pos) (tErr X.K f to te) := by
  refine ⟨fun pins s σ H D I h => ?_⟩
  refine plainObj_wpAny_Assign_Attribute (thn (he.run pins s σ H _ I h) fun v s1 ⟨y, H1, I1, r1, q1⟩ => thn (ho.run pins s1 σ H1 _ I1 q1) fun u s2 ⟨x, H2, I2, r2, a, C, ex, T, ea, q⟩ => ?_) hs
  subst ex
  obtain rfl : u = Value.ref a := r2
  obtain ⟨t1, hx⟩ := exo_at I2.hok ea
  obtain ⟨hp, g, d, t, os⟩ := s2
  refine PySem.W.set_plain (s := ⟨hp, g, d, t, os⟩) I2.kIn (od := none) ⟨hx, rfl, rfl, trivial⟩ T.sa ?_
  refine err_store T I2.kIn hx fun h' tk' hn hx' k => ?_
  have nd : H2 hp.objs.size = none := I2.hok.fresh (Nat.le_refl _)
  have da : hp.objs.size ≠ a := Nat.ne_of_gt (Heap.lt_size hx)
  have off : ∀ {b : Addr}, b ≠ a → b ≠ hp.objs.size → upd (upd H2 hp.objs.size (exd hp.objs.size [(f, y)])) a (exo a C (some hp.objs.size)) b = H2 b := fun n1 n2 => by rw [upd_ne n1, upd_ne n2]
  have old : ∀ {b : Addr} {ob : Obj}, hp.get? b = some ob → b ≠ hp.objs.size := fun z => Nat.ne_of_lt (Heap.lt_size z)
  have unk : ∀ {b : Addr}, H2 b = none → b ≠ a := fun n z => by rw [z, ea] at n; cases n
  have oth : ∀ {b : Addr} {u : HO}, H2 b = some u → exo a C none ≠ u → b ≠ a ∧ b ≠ hp.objs.size := fun z n => ⟨at_ne ea z n, ne_of_none z nd⟩
  have U : Un X.fs [] H2 (upd (upd H2 hp.objs.size (exd hp.objs.size [(f, y)])) a (exo a C (some hp.objs.size))) hp h' := by
    refine ⟨fun b ob z n _ _ => k b ob (unk n) z, fun b ob z n _ _ => ⟨ob.slots, k b ob (unk n) z⟩, fun b ob z n _ => (off (unk n) (old z)).trans n, fun b ob z _ => ?_,
      fun b xs z => (off (oth z exo_tup).1 (oth z exo_tup).2).trans z, fun b ob v z => (off (oth z exo_frz).1 (oth z exo_frz).2).trans z, fun b ps z => ⟨#[], by rw [off (oth z exo_tbl).1 (oth z exo_tbl).2, z]; simp⟩⟩
    by_cases hb : b = a
    · exact ⟨_, hb ▸ hx'⟩
    · exact ⟨ob, k b ob hb z⟩
  refine ⟨σ, _, I2.un (t' := tk') U fun b ob z => ?_, q _ nd da⟩
  · by_cases hb : b = a
    · subst hb
      rw [upd_same] at z
      cases z
      exact exo_ok hx'
    by_cases hd : b = hp.objs.size
    · subst hd
      rw [upd_ne hb, upd_same] at z
      cases z
      exact exd_ok hn (relO_put (fs := []) r1 fun _ => True.intro)
    · rw [off hb hd] at z
      refine (I2.hok b ob z).stay (fun c v hc y => k c v ?_ y) (fun c hc => ?_) fun c xs hc => ?_
      · rcases hc with hc | hc
        · exact hc ▸ hb
        · exact (oth hc exo_own).1
      · rw [off (oth hc exo_own).1 (oth hc exo_own).2]; exact hc
      · rw [off (oth hc exo_tup).1 (oth hc exo_tup).2]; exact hc
end
/-- what an error's own __init__ keeps: it stores its argument -/
def sp_init (K : PySem.W.Frag) (f : Str) : Sp := fun vs H Q _ => ∃ (a C : Addr) (y : V), vs = [.ref a, y] ∧ ErrC K C f ∧ H a = some (exo a C none) ∧ ∀ dx, H dx = none → dx ≠ a → Q .non (upd (upd H dx (exd dx [(f, y)])) a (exo a C (some dx)))
/-- the class of an error with its __init__ -/
structure Err (P : Program) (w : World) (K : PySem.W.Frag) (mg : Str → Option Value) (base : Heap) (x : Str) (C : Addr) (f : Str) : Prop where
  c : ErrC K C f
  g : mg x = some (.ref C)
  ini : ∃ (fI : Addr) (fd : FuncData) (ps : List Str), PySem.W.findIn K (.ref C) "__init__" = some (some (.ref fI)) ∧ PySem.W.typeIn K (.ref fI) = some (.type "function") ∧ FnOk P w K mg base CX0 2 fI fd ps (sp_init K f) ∧ Binds K fd ps []
/-- C(e) -/
def tNew (C : Addr) (f : Str) (ta : TA) : St → Hp → XK → Prop := fun σ H Q => ta σ H fun vs H1 => ∃ y, vs = [y] ∧ ∀ d, H1 d = none → Q (.ref C) (some d) (upd H1 d (.xd [(f, y)]))
theorem made_heap {H : Hp} {a d C : Addr} {f : Str} {y : V} (n : H a = none) : upd (del (upd (upd (upd H a (exo a C none)) d (exd d [(f, y)])) a (exo a C (some d))) a) d (.xd [(f, y)]) = upd H d (.xd [(f, y)]) := funext fun b => by
  by_cases hd : b = d
  · subst hd; rw [upd_same, upd_same]
  · rw [upd_ne hd, upd_ne hd]
    by_cases ha : b = a
    · subst ha; rw [del_same, n]
    · rw [del_ne ha, upd_ne ha, upd_ne hd, upd_ne ha]
section
variable {X : Cx} {C : Addr} {x f : Str} {e : Expr} {ta : TA} {p pos : Pos} {j : Nat}
theorem pmk_err (T : Err X.prog X.w X.K X.mg X.base x C f) (hr : Room j X.A) (hj : 3 ≤ j) (hg : Gl X x) (ha : PA X [e] ta)
    (hdb : (x == ("__debug__" : Str)) = false := by decide) (he : starEach [e] X.env = (false, eval e X.env) :: starEach [] X.env := by rfl) (hpl : (backTo pos (starEach [] X.env)).any (·.1) = false := by rfl) :
    PMk X (.Call (.Name x p) [e] [] pos) (tNew C f ta) := by
  intro pins s σ H Q I h
  obtain ⟨fI, fd, ps, iC, tI, F1, hb⟩ := T.ini
  refine wpAny_Call_Name_kw (ld_glob I hg T.g ?_ hdb)
  refine PySem.W.callWith_K (h₀ := X.base) I.ok.mod.kin T.c.kp (thn (ha.run pos pins s σ H _ I h) fun us s1 ⟨vs, H1, I1, r1, y, ev, q⟩ => ⟨I1.kIn, ?_⟩) he hpl
  subst ev
  show wpAny _ _ (call (.ref C) us) _ _ _
  obtain ⟨nm, N, qn, bs, bm, hdct, sn, sub, ab, col, dd, k0, k1, k2, k3, k5, hC, hT⟩ := PySem.W.excInit_of I1.kIn T.c.made
  obtain ⟨hp, g, dr, tk, os⟩ := s1
  have hsz : hp.objs.size ≤ hp.objs.size + 1 := Nat.le_succ _
  have n1 : H1 (hp.objs.size + 1) = none := I1.hok.fresh hsz
  have kk : ∀ b o, hp.get? b = some o → ((hp.push (PySem.W.kdv_tup us)).push (PySem.HandSPX.excO C hp.objs.size)).get? b = some o := fun b o z => Heap.get?_push_of_some _ (Heap.get?_push_of_some _ z)
  have I2 := I1.laid (t' := tk) (a := hp.objs.size + 1) (o := exo (hp.objs.size + 1) C none) (h' := (hp.push (PySem.W.kdv_tup us)).push (PySem.HandSPX.excO C hp.objs.size)) kk hsz (exo_ok (t1 := hp.objs.size) (by heap_get))
  have r2 : Vals [V.ref (hp.objs.size + 1), y] (Value.ref (hp.objs.size + 1) :: us) := .cons rfl r1
  have sp1 : sp_init X.K f [V.ref (hp.objs.size + 1), y] (upd H1 (hp.objs.size + 1) (exo (hp.objs.size + 1) C none)) (fun v H2 => v = .non ∧ ∃ d, H1 d = none ∧ H2 = upd (upd (upd H1 (hp.objs.size + 1) (exo (hp.objs.size + 1) C none)) d (exd d [(f, y)])) (hp.objs.size + 1) (exo (hp.objs.size + 1) C (some d)) ∧ d ≠ hp.objs.size + 1) (fun _ _ _ => False) :=
    ⟨_, C, y, rfl, T.c, upd_same, fun dx n ne => ⟨rfl, dx, by rwa [upd_ne ne] at n, rfl, ne⟩⟩
  have hl : (Value.ref (hp.objs.size + 1) :: us).length = ps.length := r2.length.symm.trans (F1.len _ _ _ _ sp1)
  have hus : us.length ≤ sizeLine := by
    rw [← Paired.length r1]
    show 1 ≤ sizeLine
    decide
  have hb' := hb ⟨(hp.push (PySem.W.kdv_tup us)).push (PySem.HandSPX.excO C hp.objs.size), g, dr, tk, os⟩ (Value.ref (hp.objs.size + 1) :: us) I2.kIn (by rw [List.append_nil]; exact hl)
  rw [List.append_nil] at hb'
  refine wpAny_call (PySem.PX.call_own F.excBase_Exception hT hC (PySem.W.looks_findIn I1.kIn iC) (fun self => PySem.W.bind_fn I1.kIn self tI) hus
    (codeAny_mono (F1.run _ X.stack _ _ ⟨Value.ref (hp.objs.size + 1) :: us, []⟩ (Value.ref (hp.objs.size + 1) :: us) _ _ (fun _ _ _ => False) ((hr.mono hj).make C us []) (I2.env0.make C us []) hb' r2 sp1) fun r s' hq' => ?_))
  cases r with
  | error er => exact pass0 pins σ _ _ er s' I2 hq'
  | ok fl =>
    cases fl with
    | ret u =>
      obtain ⟨v, H2, os2, bare2, un2, hok2, rv, ev, d, nd, eH, ne⟩ := hq'
      subst ev
      subst eH
      obtain ⟨h2, g2, d2, t2, os'⟩ := s'
      refine ⟨rv, mk_end (fs := [(f, y)]) (raises_own T.c.xf.exC T.c.ty) I1 hsz kk un2 hok2 os2 bare2 upd_same (by rw [upd_ne ne, upd_same]) nd ?_⟩
      rw [made_heap n1]
      exact q d nd
    | next => exact False.elim hq'
    | brk => exact False.elim hq'
    | cont => exact False.elim hq'
end
def clsBody : Stmt → List Stmt
  | .ClassDef _ _ _ b _ _ _ _ _ _ _ => b
  | _ => []
/-- the __init__ of a class statement whose body is that alone -/
def initOf (c : Stmt) : Stmt := (clsBody c).getD 0 (.Pass ⟨0, 0, 0, 0⟩)
/-- what the top has left of an error's class: the class, its __init__ -/
structure ErrT (K : PySem.W.Frag) (mg : Str → Option Value) (x f q : Str) (st : Stmt) (C : Addr) : Prop where
  c : ErrC K C f
  g : mg x = some (.ref C)
  i : ∃ (fI : Addr) (fd : FuncData), PySem.W.findIn K (.ref C) "__init__" = some (some (.ref fI)) ∧ PySem.W.typeIn K (.ref fI) = some (.type "function") ∧ Fun K "__init__" q st fI fd ∧ Binds K fd ["self", f] []
theorem err_mk {K : PySem.W.Frag} {h : Heap} {mg : Str → Option Value} {x f q : Str} {st : Stmt} {C fI : Addr} {oc kV doc pm cdv ct : Value} {od an : Option Addr} {osl : Array (Option Value)} (X : K.In h) (G : h.Ns mainGlobals mg)
    (a : PySem.W.nsIn K mainGlobals x = some (some (.ref C))) (m : PySem.W.excInitIn K C excBm "Exception.__new__" = true) (ov : PySem.W.excOver K C excBm = true)
    (sa : PySem.W.findIn K (.ref C) "__setattr__" = some (some (.builtin "object.__setattr__"))) (ga : PySem.W.findIn K (.ref C) "__getattribute__" = some (some (.builtin "BaseException.__getattribute__"))) (gg : PySem.W.findIn K (.ref C) "__getattr__" = some none)
    (ex : PySem.W.subIn K (.ref C) (.type "BaseException") = some true) (hd : PySem.W.hasDictIn K C = true) (ty : PySem.W.typeIn K (.ref C) = some (.type "type")) (kp : PySem.W.keepIn K (.ref C) = true) (no : PySem.W.findIn K (.ref C) f = some none)
    (i : PySem.W.findIn K (.ref C) "__init__" = some (some (.ref fI))) (tI : PySem.W.typeIn K (.ref fI) = some (.type "function"))
    (l : K.lookup fI = some ⟨oc, od, .func (PySem.W.fnOf "__init__" q (defArgs st) (defBody st) (defScope st) .none kV doc pm an cdv ct), osl⟩) (c : PySem.W.codeIn K cdv q = true) (k : PySem.W.keepIn K (.ref fI) = true)
    (hb : ∀ (kV doc pm : Value) (an : Option Addr) (cdv ct : Value) (us : List Value), us.length = (["self", f] : List Str).length → bindArgs (PySem.W.fnOf "__init__" q (defArgs st) (defBody st) (defScope st) .none kV doc pm an cdv ct) ⟨us, []⟩ = pure ((["self", f] : List Str).zip us)) : ErrT K mg x f q st C :=
  have F := fun_mk (st := st) l c k
  ⟨⟨m, ov, sa, ⟨ga, gg, ex, hd⟩, ty, kp, no⟩, PySem.W.mg_of X G a, ⟨fI, _, i, tI, F, F.binds hb⟩⟩
/-- an error's own class in an except clause -/
theorem exm_own {K : PySem.W.Frag} {C D : Addr} {b : Bool} (h1 : PySem.W.subIn K (.ref D) (.type "BaseException") = some true) (h2 : PySem.W.isClsIn K D = true) (h3 : PySem.W.typeIn K (.ref D) = some (.type "type")) (h4 : PySem.W.subIn K (.ref C) (.ref D) = some b) :
    PySem.W.exmOne K (.ref C) (.ref D) = some b := by
  have e2 : ((PySem.W.clsIn K D).isSome && PySem.W.typeIn K (.ref D) == some (.type "type")) = true := by
    rw [h3]
    show (PySem.W.isClsIn K D && _) = true
    rw [h2]
    rfl
  show (if (PySem.W.subIn K (.ref D) (.type "BaseException") == some true) = true then (if ((PySem.W.clsIn K D).isSome && PySem.W.typeIn K (.ref D) == some (.type "type")) = true then PySem.W.subIn K (.ref C) (.ref D) else none) else none) = some b
  rw [h1, if_pos (by rfl), if_pos e2]
  exact h4
theorem cut_on {A B : Prop} (a : A) (h : A → B) : B := h a
end Ft

namespace Ft
open PySem L2 PySem.Spec PyProof.Rows
/-! ### several except clauses, some with a name -/
abbrev Clause := Value × Option Nat × (Addr → Value → Option Addr → TS)
/-- the ends behind a clause whose name stands in slot i -/
def gone (i : Nat) (D : Ends) : Ends := { nx := fun σ H => D.nx (σ.set i none) H, rt := D.rt, bk := fun σ H => D.bk (σ.set i none) H, ct := fun σ H => D.ct (σ.set i none) H }
def endsOf (D : Ends) : Option Nat → Ends
  | none => D
  | some i => gone i D
def slotOf (σ : L2.St) (a : Addr) : Option Nat → L2.St
  | none => σ
  | some i => σ.set i (some (.ref a))
def wN (K : PySem.W.Frag) (Wout : WX) (D : Ends) : List Clause → WX
  | [] => Wout
  | (c, i, ts) :: r => fun cls d σ H => ∃ b, PySem.W.exmOne K cls c = some b ∧ (b = true → ∀ a, H a = none → ts a cls d (endsOf D i) (slotOf σ a i) H) ∧ (b = false → wN K Wout D r cls d σ H)
inductive HdN (X : Cx) : List ExceptHandler → List Clause → Prop
  | nil : HdN X [] []
  | plain {x : Str} {c : Value} {ts : Addr → Value → Option Addr → TS} {b : Stmt} {bs : List Stmt} {p q : Pos} {hs : List ExceptHandler} {l : List Clause} (hc : Names X x c)
      (hb : ∀ (a : Addr) (oe : Obj) (cls : Value) (d : Option Addr) (pn : List (Addr × Obj)), Zc cls d oe → (∃ vs, oe.data = .fields vs) → PSs (X.suite a ((a, oe) :: pn)) (b :: bs) (ts a cls d)) (r : HdN X hs l) :
      HdN X (.ExceptHandler (some (.Name x p)) none (b :: bs) q :: hs) ((c, none, ts) :: l)
  | named {x n : Str} {i : Nat} {c : Value} {ts : Addr → Value → Option Addr → TS} {b : Stmt} {bs : List Stmt} {p q : Pos} {hs : List ExceptHandler} {l : List Clause} (hc : Names X x c) (hi : X.N[i]? = some n) (hn : X.env.kindOf n = some .local)
      (hb : ∀ (a : Addr) (oe : Obj) (cls : Value) (d : Option Addr) (pn : List (Addr × Obj)), Zc cls d oe → (∃ vs, oe.data = .fields vs) → PSs (X.suite a ((a, oe) :: pn)) (b :: bs) (ts a cls d)) (r : HdN X hs l) :
      HdN X (.ExceptHandler (some (.Name x p)) (some n) (b :: bs) q :: hs) ((c, some i, ts) :: l)
/-- an error that came down to this frame -/
structure Down (X : Cx) (pins : List (Addr × Obj)) (a : Addr) (cls : Value) (d : Option Addr) (σ : L2.St) (H : Hp) (sI s : Shared) (B h : Heap) : Prop where
  J : Inv X pins σ H sI
  nb : ∀ b o, sI.heap.get? b = some o → b ∉ frs X.stack → B.get? b = some o
  up : sI.heap.UpToSlots h
  fl : HandSPX.FlyingZ B (X.env :: X.outer) a (Zc cls d) h
  na : H a = none
  os : s.os = sI.os
  ag : AllBare s.gens
section
variable {X : Cx} {pins : List (Addr × Obj)} {a : Addr} {cls : Value} {d : Option Addr} {σ : L2.St} {H : Hp} {sI s : Shared} {B h : Heap}
theorem Down.now (x : Down X pins a cls d σ H sI s B h) : Inv X pins σ H { s with heap := h } := x.J.landed x.nb x.fl.1 x.up x.os x.ag
/-- the state of a suite -/
theorem Down.suite (x : Down X pins a cls d σ H sI s B h) (hf : X.env.frame = some X.env.locals) : ∃ oe, Zc cls d oe ∧ (∃ vs, oe.data = .fields vs) ∧ h.get? a = some oe ∧ Inv (X.suite a ((a, oe) :: (X.pn ++ pins))) [] σ H { s with heap := h } := by
  obtain ⟨oe, vs, he, hz, hd⟩ := x.fl.there
  have out : a ∉ frs (X.env :: X.outer) := fun z => by
    obtain ⟨_, o, e, n⟩ := x.fl.2.2.1.mem z
    rw [he] at e
    cases e
    exact n _ hd
  have inF : ∀ e ∈ X.env :: X.outer, e.frame ≠ some a := fun e m z => out (List.mem_filterMap.mpr ⟨e, m, z⟩)
  refine ⟨oe, hz, ⟨vs, hd⟩, he, x.now.suite he hd x.na (fun z => inF _ List.mem_cons_self (by rw [hf, z])) fun z => ?_⟩
  obtain ⟨e, m, q⟩ := List.mem_filterMap.mp z
  exact inF e (List.mem_cons_of_mem _ m) q
theorem Down.again (x : Down X pins a cls d σ H sI s B h) {h' : Heap} (f : HandSPX.FlyingZ B (X.env :: X.outer) a (Zc cls d) h') (u : h.UpToSlots h') : Down X pins a cls d σ H sI s B h' := ⟨x.J, x.nb, x.up.trans u, f, x.na, x.os, x.ag⟩
/-- the clause's test -/
theorem Down.test (x : Down X pins a cls d σ H sI s B h) (hf : X.env.frame = some X.env.locals) {n : Str} {c : Value} {b : Bool} {p : Pos} {Q : Bool → Shared → Prop} {E E' : Value → Shared → Prop} (hc : Names X n c) (e : PySem.W.exmOne X.K cls c = some b) (q : Q b { s with heap := h }) :
    wpAny (model X.prog X.w) (X.A.mark (some (.ref a))) (eval (.Name n p) X.env) (fun c s1 => wpAny (model X.prog X.w) (X.A.mark (some (.ref a))) (excMatches (.ref a) c) Q E s1) E' { s with heap := h } := by
  obtain ⟨oe, hz, _, he, S⟩ := x.suite hf
  have T : PySem.W.Looks (model X.prog X.w) h (typeOf (.ref a)) cls := fun A Q E s k q => wpAny_typeOf_ref (k _ _ he) (by rw [hz.1]; exact q)
  have m := PySem.W.exm_one (M := model X.prog X.w) x.now.kIn T e
  obtain ⟨g, db, y | ⟨y, v, nn⟩⟩ := hc
  · exact ld_glob (X := X.suite a ((a, oe) :: (X.pn ++ pins))) S g y (m.here q) db
  · exact ld_blt (X := X.suite a ((a, oe) :: (X.pn ++ pins))) S g y v (m.here q) nn db
/-- the state behind a suite goes on as the frame's own -/
theorem sp_back {q : Addr × Obj} {D : Ends} {f : Flow} {s' : Shared} (ok : X.Ok) (z : SP (X.suite a (q :: (X.pn ++ pins))) [] D f s') : SP X pins D f s' := by
  cases f with
  | ret u =>
    obtain ⟨v, σ', H', I, r, z⟩ := z
    exact ⟨v, σ', H', I.unsuite ok, r, z⟩
  | next =>
    obtain ⟨σ', H', I, z⟩ := z
    exact ⟨σ', H', I.unsuite ok, z⟩
  | brk =>
    obtain ⟨σ', H', I, z⟩ := z
    exact ⟨σ', H', I.unsuite ok, z⟩
  | cont =>
    obtain ⟨σ', H', I, z⟩ := z
    exact ⟨σ', H', I.unsuite ok, z⟩
/-- behind a named clause the name goes -/
theorem sp_gone {D : Ends} {f : Flow} {i : Nat} {n : Str} {p : Pos} {s' : Shared} {A : Around} {E : Value → Shared → Prop} (hN : X.N.Nodup) (hi : X.N[i]? = some n) (hl : X.env.kindOf n = some .local) (z : SP X pins (gone i D) f s') :
    wpAny (model X.prog X.w) A (do bindName X.env n .none; unbindBehindTheSuite X.env n p) (fun _ s3 => SP X pins D f s3) E s' := by
  cases f with
  | ret u =>
    obtain ⟨v, σ', H', I, r, z⟩ := z
    exact gone_ok I hN hi hl fun s3 J => ⟨v, _, H', J, r, z⟩
  | next =>
    obtain ⟨σ', H', I, z⟩ := z
    exact gone_ok I hN hi hl fun s3 J => ⟨_, H', J, z⟩
  | brk =>
    obtain ⟨σ', H', I, z⟩ := z
    exact gone_ok I hN hi hl fun s3 J => ⟨_, H', J, z⟩
  | cont =>
    obtain ⟨σ', H', I, z⟩ := z
    exact gone_ok I hN hi hl fun s3 J => ⟨_, H', J, z⟩
theorem handleN (hs : X.stack = X.env :: X.outer) (hf : X.env.frame = some X.env.locals) (hN : X.N.Nodup) {Wout : WX} (tk : Takes X Wout) {D : Ends} {hds : List ExceptHandler} {l : List Clause} (k : HdN X hds l) (x : Down X pins a cls d σ H sI s B h) (w : wN X.K Wout D l cls d σ H) :
    wpAny (model X.prog X.w) X.A (handleBy (.ref a) X.env hds) (SP X pins D) X.xe { s with heap := h } := by
  have ok := x.J.ok
  induction k generalizing h with
  | nil =>
    refine wpAny_handleBy_nil ?_
    obtain ⟨_, _, _, oe, vs, T, _, _, he, _, hd, h1, _⟩ := id x.fl
    unfold PySem.passOn
    refine wpAny_bind (wpAny_field he hd h1 ?_)
    rw [if_neg (show ¬ ((Value.ref T == Value.none) = true) from by simp)]
    have fin : wpAny (model X.prog X.w) X.A (setFlight (.ref a) X.env.frame) (fun _ s4 => wpAny (model X.prog X.w) X.A (throw (.ref a) : Sem Flow) (SP X pins D) X.xe s4) X.xe { s with heap := h } := by
      rw [hf]
      exact HandSPX.setFlight_upZ x.fl fun h4 f4 u4 => wpAny_throw (tk _ _ ⟨a, B, sI, pins, σ, H, cls, d, rfl, x.J, x.nb, x.up.trans u4, .inr (.inr (by rw [hs]; exact f4)), x.na, x.os, x.ag, w⟩)
    first
      | exact wpAny_bind (wpAny_pure (wpAny_bind fin))
      | exact wpAny_bind fin
  | plain hc hb r ih =>
    obtain ⟨b, e, y, n⟩ := w
    refine wpAny_handleBy_cons (codeAny_handlers_test (x.test hf hc e ?_)) (by intro q; cases q)
    cases b with
    | false => exact ih x (n rfl)
    | true =>
      refine codeAny_handlers_suite (HandSPX.lands_againZ x.fl fun h4 f4 u4 => ?_)
      have x4 := x.again f4 u4
      obtain ⟨oe, hz, hd, _, S⟩ := x4.suite hf
      exact wpAny_mono ((hb a oe cls d _ hz hd).run [] _ _ H _ S (y rfl a x.na)) (fun f s6 z => sp_back ok z) (fun _ _ z => False.elim z)
  | named hc hi hn hb r ih =>
    obtain ⟨b, e, y, n⟩ := w
    refine wpAny_handleBy_cons (codeAny_handlers_test (x.test hf hc e ?_)) (by intro q; cases q)
    cases b with
    | false => exact ih x (n rfl)
    | true =>
      refine codeAny_handlers_suite_as (HandSPX.lands_againZ x.fl fun h4 f4 u4 => ?_)
      have x4 := x.again f4 u4
      obtain ⟨oe, hz, hd, _, S⟩ := x4.suite hf
      refine store_ok (X := X.suite a ((a, oe) :: (X.pn ++ pins))) (v := .ref a) S hN hi (.inl hn) rfl (fun s5 S5 => ?_) (.inr hn)
      exact wpAny_mono ((hb a oe cls d _ hz hd).run [] s5 _ H _ S5 (y rfl a x.na)) (fun f s6 z => sp_gone hN hi hn (sp_back ok z)) (fun _ _ z => False.elim z)
end
section
variable {X : Cx} {body : List Stmt} {hds : List ExceptHandler} {h0 : ExceptHandler} {l : List Clause} {pos : Pos} {tb : WX → TS} {Wout : WX}
theorem ps_tryN (hs : X.stack = X.env :: X.outer) (hf : X.env.frame = some X.env.locals) (hN : X.N.Nodup) (tk : Takes X Wout)
    (hb : ∀ (W : WX) (pn : List (Addr × Obj)) (xe : Value → Shared → Prop), Takes (X.tr pn xe) W → PassesOwn (model X.prog X.w) X.A X.env xe → PSs (X.tr pn xe) body (tb W)) (k : HdN X (h0 :: hds) l) :
    PS X (.Try body (h0 :: hds) [] [] pos) (fun D σ H => tb (wN X.K Wout D l) D σ H) := by
  refine ⟨fun pins s σ H D I h => wpAny_Try_except (wpAny_mono ((hb (wN X.K Wout D l) (X.pn ++ pins) (fun e s1 => wpAny (model X.prog X.w) X.A (noteFrame e X.env) (fun _ s2 => wpAny (model X.prog X.w) X.A (setFlight e none) (fun _ s3 =>
    wpAny (model X.prog X.w) X.A (handleBy e X.env (h0 :: hds)) (SP X pins D) X.xe s3) X.xe s2) X.xe s1) (fun u s' z => ?_) PassesOwn.looking).run [] s σ H D (I.toTry _) h) (fun f s1 z => ?_) fun _ _ z => z)⟩
  · have ok := I.ok
    obtain ⟨a, B, sI, _, σ', H', cls, d, rfl, J, nb, up, sky, na, os, ag, w⟩ := z
    refine Sky.land Zc.steady (by rw [ok.frames, hs]) hf (by rw [← hs]; exact sky) fun h3 f3 u3 => ?_
    exact handleN hs hf hN tk k ⟨J.ofTry ok, nb, up.trans u3, f3, na, os, ag⟩ w
  · have ok := I.ok
    cases f with
    | ret u =>
      obtain ⟨v, σ', H', J, r, q⟩ := z
      exact ⟨v, σ', H', J.ofTry ok, r, q⟩
    | next =>
      obtain ⟨σ', H', J, q⟩ := z
      exact wpAny_execs_nil ⟨σ', H', J.ofTry ok, q⟩
    | brk =>
      obtain ⟨σ', H', J, q⟩ := z
      exact ⟨σ', H', J.ofTry ok, q⟩
    | cont =>
      obtain ⟨σ', H', J, q⟩ := z
      exact ⟨σ', H', J.ofTry ok, q⟩
end
end Ft

/-! Defs that are called where no repr is under way (A.guards = some []): their texts may say repr of a list or a tuple. -/
namespace Ft
open PySem L2 PySem.Spec PyProof.Rows

structure FnG (P : Program) (w : World) (K : PySem.W.Frag) (mg : Str → Option Value) (base : Heap) (k : Nat) (f : Addr) (fd : FuncData) (ps : List Str) (sp : Sp) : Prop where
  len : ∀ vs H Q E, sp vs H Q E → vs.length = ps.length
  go : ∀ (A : Around) (outer : List Env) (s : Shared) (H : Hp) (args : Args) (us : List Value) (vs : List V) (Q : VK) (E : XK), A.guards = some [] → Room k A →
    Env0 P w K mg base A outer s H → BindsTo s fd args (ps.zip us) → Vals vs us → sp vs H Q E → codeAny (model P w) A (.call (.ref f) args) (CR CX0 outer P w H s Q E) s
theorem FnG.of {P : Program} {w : World} {K : PySem.W.Frag} {mg : Str → Option Value} {base : Heap} {k : Nat} {f : Addr} {fd : FuncData} {ps : List Str} {sp : Sp} (F : FnOk P w K mg base CX0 k f fd ps sp) : FnG P w K mg base k f fd ps sp :=
  ⟨F.len, fun A outer s H args us vs Q E _ => F.run A outer s H args us vs Q E⟩
/-- what may be called for, where no repr is under way -/
structure CalG (P : Program) (w : World) (K : PySem.W.Frag) (mg : Str → Option Value) (base : Heap) (k : Nat) (x : Str) (sp : Sp) : Prop where
  ex : ∃ (f : Addr) (fd : FuncData) (ps : List Str), FnG P w K mg base k f fd ps sp ∧ mg x = some (.ref f) ∧ PySem.W.keepIn K (.ref f) = true ∧ Binds K fd ps []
section
variable {X : Cx} {k j : Nat} {x : Str} {sp : Sp} {p pos : Pos} {e : Expr} {es : List Expr} {t : TA}
theorem pe_g (c : CalG X.prog X.w X.K X.mg X.base k x sp) (hgd : X.A.guards = some []) (hr : Room j X.A) (hk : k ≤ j) (hg : Gl X x) (ha : PA X (e :: es) t)
    (hdb : (x == ("__debug__" : Str)) = false := by decide) (he : starEach (e :: es) X.env = (false, eval e X.env) :: starEach es X.env := by rfl) (hpl : (backTo pos (starEach es X.env)).any (·.1) = false := by rfl) :
    PE X (.Call (.Name x p) (e :: es) [] pos) (tCall sp [] E0 t) := by
  obtain ⟨f, fd, ps, F, hm, kp, b⟩ := c.ex
  refine ⟨fun pins s σ H Q I h => wpAny_Call_Name_kw (ld_glob I hg hm ?_ hdb)⟩
  refine PySem.W.callWith_K (h₀ := X.base) I.ok.mod.kin kp (thn (ha.run pos pins s σ H _ I h) fun us s1 ⟨vs, H1, I1, rv, q1⟩ => ⟨I1.kIn, ?_⟩) he hpl
  have rv' : Vals (vs ++ []) us := by rw [List.append_nil]; exact rv
  have hl : us.length = ps.length := by
    have z := F.len _ _ _ _ q1
    rw [rv'.length] at z
    exact z
  have bd := b s1 us I1.kIn (by rw [List.append_nil]; exact hl)
  rw [List.append_nil] at bd
  refine wpAny_call (codeAny_mono (F.go X.A X.stack s1 H1 ⟨us, []⟩ us (vs ++ []) Q E0 hgd (hr.mono hk) I1.env0 bd rv' q1) fun r s2 hq => ?_)
  match r, hq with
  | .error _, hq => exact (hq : False).elim
  | .ok (.ret _), hq => exact I1.after hq
  | .ok .next, hq => exact (hq : False).elim
  | .ok .brk, hq => exact (hq : False).elim
  | .ok .cont, hq => exact (hq : False).elim
end
/-- a def by its body, where no repr is under way -/
theorem fun_g {P : Program} {w : World} {K : PySem.W.Frag} {mg : Str → Option Value} {base : Heap} {x qual : Str} {st : Stmt} {f : Addr} {fd : FuncData} {N ps : List Str} {k : Nat} {sp : Sp} (F : Fun K x qual st f fd) (S : FnScope N ps (defScope st))
    (len : ∀ vs H Q E, sp vs H Q E → vs.length = ps.length)
    (body : ∀ (cdv : Value) (A : Around) (outer : List Env) (s : Shared) (H : Hp) (vs : List V) (Q : VK) (E : XK), (A.deeper (envOfC qual (defScope st) s.heap.objs.size f cdv)).guards = some [] →
      Room k (A.deeper (envOfC qual (defScope st) s.heap.objs.size f cdv)) → sp vs H Q E →
      ∃ t, PSs (cxOf CX0 P w K mg base N qual (defScope st) f cdv A outer s H E).nox (defBody st) t ∧ t { nx := fun _ H' => Q .non H', rt := Q } (start N vs) H) : FnG P w K mg base (k + 1) f fd ps sp := by
  obtain ⟨oc, od, kV, doc, pm, an, cdv, ct, osl, rfl, lk, hcd⟩ := F.ex
  refine ⟨len, fun A outer s H args us vs Q E hgd hr e0 hb rv hsp => ?_⟩
  have inK : K.In s.heap := e0.mod.kin.keeps fun b o e => (e0.bs b o e).1
  have noL : s.heap.NoLimit := e0.mod.nolimit.keeps fun b o e => (e0.bs b o e).1
  have kinds : ∀ y ∈ ps.zip us, (defScope st).names.lookup y.1 = some .local ∨ ((defScope st).names.lookup y.1 = some .cell ∧ ((cellsFrom (s.heap.objs.size + 1) (defScope st).names []).lookup y.1).isSome = true) := by
    intro y hy
    rcases S.par y.1 (List.of_mem_zip hy).1 with q | q
    · exact .inl q
    · exact .inr ⟨q, PySem.W.cellsFrom_some _ _ _ (.inl q)⟩
  refine codeAny_call_function hr.depth (inK _ _ lk) rfl S.co S.gen rfl (PySem.W.codeRec_of inK hcd) (hb _ _ _ _ ?_)
  refine wpAny_newFunctionEnv_cells S.kind kinds fun env he s1 made => ?_
  subst he
  refine ⟨noL.keeps made.toInCall.keep, codeAny_func ?_⟩
  obtain ⟨t, ht, hq⟩ := body cdv A outer s H vs Q E hgd (hr.deeper _) hsp
  have J0 : Inv (cxOf CX0 P w K mg base N qual (defScope st) f cdv A outer s H E) [] (start N vs) H s1 := inv_start S hr.hd e0 (len _ _ _ _ hsp) rv made
  refine wpAny_mono (ht.nox.run [] s1 (start N vs) H _ J0 hq) (fun fl s' hs => ?_) fun _ _ hs => hs
  match fl, hs with
  | .ret u, hs =>
    obtain ⟨v, σ', H', J, rv', q⟩ := hs
    exact ⟨v, H', J.os, J.bare, J.base, J.hok, rv', q⟩
  | .next, hs =>
    obtain ⟨σ', H', J, q⟩ := hs
    exact ⟨V.non, H', J.os, J.bare, J.base, J.hok, rfl, q⟩
  | .brk, hs => exact (hs.choose_spec.choose_spec.2 : False).elim
  | .cont, hs => exact (hs.choose_spec.choose_spec.2 : False).elim
end Ft

/-! The law's call, from a promise that holds where no repr is under way. -/
namespace Ft
open PySem L2 PySem.Spec PyProof.Rows

/-- the heap behind the top, seen with the script tracked (or nothing) -/
theorem call_of {P : Program} {w : World} {K : PySem.W.Frag} {mg mb : Str → Option Value} {k : Nat} {fa a : Addr} {fd : FuncData} {x : Str} {sp : Sp} {s1 : Shared} {vs : List Value} {H : Hp}
    (inK : K.In s1.heap) (hns : s1.heap.Ns mainGlobals mg) (hb : s1.heap.Ns builtinsNs mb) (hbb : ∀ x : Str, x ≠ "__name__" → mb x = bootBuiltins x) (hlim : s1.heap.NoLimit) (hg : s1.gens = #[])
    (ha : s1.heap.get? a = some { cls := .type "list", data := .seq vs.toArray }) (hr : Room k callerA)
    (F : ∀ base : Heap, K.In base → base.Ns mainGlobals mg → FnG P w K mg base k fa fd [x] sp) (hbind : ∀ (s : Shared) (u : Value), BindsTo s fd ⟨[u], []⟩ [(x, u)])
    (hO : Only H) (hp : sp [.ref a] H (fun v _ => v = .bl true) fun _ _ _ => False) (hok : HOk P w H s1.heap) (only : ∀ b, H b ≠ none → b = a) (notK : H a ≠ none → K.lookup a = none) :
    codeAny (model P w) callerA (.call (.ref fa) ⟨[.ref a], []⟩) (fun r s2 => r = .ok (.ret (.bool true)) ∧ OldK s1.heap s2.heap ∧ s2.os = s1.os ∧ AllBare s2.gens) s1 := by
  have below : ∀ {b : Addr} {o : Obj}, s1.heap.get? b = some o → H b = none → (hidT s1.heap H).get? b = some o := fun e n => hidT_get e n
  have dictFree : ∀ {b : Addr} {o : Obj} {es : Array DictEntry} {ep : Nat}, s1.heap.get? b = some o → o.data = .dict es ep → H b = none := by
    intro b o es ep e d
    cases q : H b with
    | none => rfl
    | some z =>
      obtain rfl : b = a := only b (fun n => by rw [n] at q; cases q)
      rw [ha] at e
      cases e
      exact absurd (show Data.seq vs.toArray _ = Data.dict es ep from d) (fun z => by cases z)
  have spaces : ∀ {b : Addr} {m : Str → Option Value}, s1.heap.Ns b m → (hidT s1.heap H).Ns b m := fun {b m} ⟨o, es, ep, e, d, r⟩ => ⟨o, es, ep, below e (dictFree e d), d, r⟩
  have inB : K.In (hidT s1.heap H) := by
    intro b o e
    refine below (inK b o e) ?_
    cases q : H b with
    | none => rfl
    | some z =>
      have nz : H b ≠ none := fun n => by rw [n] at q; cases q
      obtain rfl : b = a := only b nz
      rw [notK nz] at e
      cases e
  have hM : Mod K mg (hidT s1.heap H) := ⟨inB, spaces hns, ⟨mb, spaces hb, hbb⟩, hlim.elim fun mc z => ⟨mc, spaces z.1, z.2⟩⟩
  have noFr : ∀ b ∈ frs ([] : List Env), H b = none := fun b z => absurd (show b ∈ ([] : List Addr) from z) List.not_mem_nil
  have e0 : Env0 P w K mg (hidT s1.heap H) callerA [] s1 H := ⟨rfl, hM, fun b o e => of_hidT e, Nat.le_of_eq (hidT_size _ _), trivial, noFr, hok, .of_eq hg⟩
  refine codeAny_mono ((F _ inB (spaces hns)).go callerA [] s1 H ⟨[.ref a], []⟩ [.ref a] [.ref a] _ _ rfl hr e0 (hbind s1 (.ref a)) (.cons rfl .nil) hp) fun r s2 h => ?_
  match r, h with
  | .error _, h => exact (h : False).elim
  | .ok .next, h => exact (h : False).elim
  | .ok .brk, h => exact (h : False).elim
  | .ok .cont, h => exact (h : False).elim
  | .ok (.ret u), h =>
    obtain ⟨v, H2, os, bare, un, hok2, rv, q⟩ := h
    obtain rfl : v = .bl true := q
    obtain rfl : u = Value.bool true := rv
    refine ⟨rfl, OldK.of_keep fun b o e => ?_, os, bare⟩
    cases q : H b with
    | none => exact un.keep b o e q (fun z => absurd (show b ∈ ([] : List Addr) from z) List.not_mem_nil) List.not_mem_nil
    | some z =>
      rcases hO b with n | ⟨ob, xs, y⟩
      · rw [q] at n; cases n
      · have k1 := (hok b _ y).1
        have k2 := (hok2 b _ (un.frzs b ob _ y)).1
        rw [e] at k1
        cases k1
        exact k2
/-- what k_head leaves, from the law's promise -/
theorem walk_g {l : PySem.W.OpenLaw} {n k : Nat} {q : Program} {loose : List Str} {XP : (Str → Option Value) → Heap → Prop} {YP : World → Heap → Prop} {d : DefRec} {K : Params → PySem.W.Frag} {sp : PySem.W.Frag → Sp} {x : Str}
    (hn : l.most = some n) (hn2 : n ≤ sizeLine) (hdf : d.params.defaults = []) (hr : Room k callerA)
    (hY : ∀ (w : World) (h : Heap), YP w h → (K w.params).In h)
    (F : ∀ (w : World) (mg : Str → Option Value) (fa : Addr) (h : Heap), (K w.params).In h → h.Ns mainGlobals mg → mg d.name = some (.ref fa) →
      ∃ fd : FuncData, (∀ (s : Shared) (u : Value), BindsTo s fd ⟨[u], []⟩ [(x, u)]) ∧
        ∀ base : Heap, (K w.params).In base → base.Ns mainGlobals mg → FnG l.prog w (K w.params) mg base k fa fd [x] (sp (K w.params)))
    (hsp : ∀ (K : PySem.W.Frag) (H : Hp) (a : Addr) (ns : List Int), ns.length ≤ n → SqL K H a (ns.map V.int) → sp K [.ref a] H (fun v _ => v = .bl true) fun _ _ _ => False) :
    PySem.W.WalkO q loose XP YP l.row.toRowW d [] (fun f vs => PySem.call f vs) := by
  refine Att.attach_call hn hdf fun w s0 s1 mg mb fa o pm cd doc a vs ns G Y ho hd hcd hmg hobj hints hlen hg => ?_
  have inK := hY w _ Y
  obtain ⟨fd, hb, hF⟩ := F w mg fa _ inK G.T.g hmg
  have rv := vals_ints hints
  have lv := hints.length
  have main := fun (H : Hp) (hO : Only H) (hS : SqL (K w.params) H a (ns.map V.int)) => call_of (H := H) inK G.T.g G.T.b G.T.builtins G.T.nolimit hg hobj hr hF hb hO (hsp (K w.params) H a ns hlen hS)
  cases hk : (K w.params).lookup a with
  | some ob =>
    have e := inK a ob hk
    rw [hobj] at e
    cases e
    have none_ : ∀ {b : Addr} {z : HO}, (fun _ => none : Hp) b = some z → False := fun z => by cases z
    exact main (fun _ => none) (fun _ => .inl rfl) (.inr ⟨_, vs.toArray, _, hk, rfl, rfl, rfl, by rw [List.size_toArray, lv]; exact Nat.le_trans hlen hn2, by simpa using rv⟩) (fun b z y => (none_ (b := b) y).elim) (fun b z => absurd rfl z) fun z => absurd rfl z
  | none =>
    let ob : Obj := { cls := .type "list", data := .seq vs.toArray }
    have at_a : ∀ {b : Addr}, b = a → (fun b => if b = a then some (HO.frz ob (.lst (ns.map V.int))) else none : Hp) b = some (.frz ob (.lst (ns.map V.int))) := fun h => if_pos h
    have off_a : ∀ {b : Addr}, ¬ b = a → (fun b => if b = a then some (HO.frz ob (.lst (ns.map V.int))) else none : Hp) b = none := fun h => if_neg h
    refine main (fun b => if b = a then some (.frz ob (.lst (ns.map V.int))) else none) (fun b => ?_) (.inl (.inr ⟨ob, at_a rfl⟩)) (fun b u z => ?_) (fun b z => ?_) fun _ => hk
    · exact (Decidable.em (b = a)).elim (fun h => .inr ⟨_, _, at_a h⟩) fun h => .inl (off_a h)
    · by_cases h : b = a
      · have y := (at_a h).symm.trans z
        cases y
        subst h
        exact ⟨hobj, by rw [List.length_map]; exact Nat.le_trans hlen hn2, vs, _, rv, hobj⟩
      · exact absurd ((off_a h).symm.trans z) (fun y => by cases y)
    · exact (Decidable.em (b = a)).elim id fun h => absurd (off_a h) z
end Ft

/-! The law's call where the text makes lambdas: beside the script the tables of code objects are tracked. -/
namespace Ft
open PySem L2 PySem.Spec PyProof.Rows
theorem call_ofT {P : Program} {w : World} {K : PySem.W.Frag} {mg mb : Str → Option Value} {k : Nat} {fa a : Addr} {fd : FuncData} {x : Str} {sp : Sp} {s1 : Shared} {vs : List Value} {H : Hp} {cs : List (Addr × Addr)}
    (inK : K.In s1.heap) (hns : s1.heap.Ns mainGlobals mg) (hb : s1.heap.Ns builtinsNs mb) (hbb : ∀ x : Str, x ≠ "__name__" → mb x = bootBuiltins x) (hlim : s1.heap.NoLimit) (hg : s1.gens = #[])
    (hT : ∀ p ∈ cs, PySem.W.CodeHd s1.heap p.1 p.2 ∧ s1.heap.get? p.2 = some (PySem.W.tabObj #[]))
    (hm : ∃ (bm : Addr) (ob : Obj), mg "__builtins__" = some (.ref bm) ∧ bm ≠ builtinsNs ∧ s1.heap.get? bm = some ob ∧ ob.cls = .type "module" ∧ ob.dict = some builtinsNs ∧ ob.data = .plain)
    (ha : s1.heap.get? a = some { cls := .type "list", data := .seq vs.toArray }) (hr : Room k callerA)
    (F : ∀ base : Heap, K.In base → base.Ns mainGlobals mg → (∀ p ∈ cs, LamX.TabB base mg p.1 p.2) → FnG P w K mg base k fa fd [x] sp) (hbind : ∀ (s : Shared) (u : Value), BindsTo s fd ⟨[u], []⟩ [(x, u)])
    (hH : ∀ p ∈ cs, H p.2 = some (.tbl #[])) (only : ∀ b, H b ≠ none → b = a ∨ ∃ p ∈ cs, p.2 = b) (hz : ∀ z, H a = some z → ∃ ob xs, z = .frz ob (.lst xs)) (notK : H a ≠ none → K.lookup a = none) (tabK : ∀ p ∈ cs, K.lookup p.2 = none)
    (hp : sp [.ref a] H (fun v _ => v = .bl true) fun _ _ _ => False) (hok : HOk P w H s1.heap) :
    codeAny (model P w) callerA (.call (.ref fa) ⟨[.ref a], []⟩) (fun r s2 => r = .ok (.ret (.bool true)) ∧ OldK s1.heap s2.heap ∧ s2.os = s1.os ∧ AllBare s2.gens) s1 := by
  have below : ∀ {b : Addr} {o : Obj}, s1.heap.get? b = some o → H b = none → (hidT s1.heap H).get? b = some o := fun e n => hidT_get e n
  have known : ∀ {b : Addr} {z : HO}, H b = some z → b = a ∨ ∃ p ∈ cs, p.2 = b := fun {b z} q => only b fun n => by rw [n] at q; cases q
  have clear : ∀ {b : Addr} {o : Obj}, s1.heap.get? b = some o → (∀ vs n, o.data ≠ .seq vs n) → o.data ≠ .fields #[] → H b = none := by
    intro b o e n1 n2
    cases q : H b with
    | none => rfl
    | some z =>
      rcases known q with h | ⟨p, hp, h⟩
      · rw [h, ha] at e
        cases e
        exact (n1 _ _ rfl).elim
      · rw [← h, (hT p hp).2] at e
        cases e
        exact (n2 rfl).elim
  have spaces : ∀ {b : Addr} {m : Str → Option Value}, s1.heap.Ns b m → (hidT s1.heap H).Ns b m := fun {b m} ⟨o, es, ep, e, d, r⟩ => ⟨o, es, ep, below e (clear e (fun _ _ z => by rw [d] at z; cases z) fun z => by rw [d] at z; cases z), d, r⟩
  have inB : K.In (hidT s1.heap H) := fun b o e => below (inK b o e) (by
    cases q : H b with
    | none => rfl
    | some z =>
      rcases known q with h | ⟨p, hp, h⟩
      · subst h
        rw [notK fun n => by rw [n] at q; cases q] at e
        cases e
      · rw [← h, tabK p hp] at e
        cases e)
  have hM : Mod K mg (hidT s1.heap H) := ⟨inB, spaces hns, ⟨mb, spaces hb, hbb⟩, hlim.elim fun mc z => ⟨mc, spaces z.1, z.2⟩⟩
  have plainAt : ∀ {b : Addr} {o : Obj}, s1.heap.get? b = some o → o.cls = .type "module" → o.data = .plain → H b = none := fun e _ d => clear e (fun _ _ z => by rw [d] at z; cases z) fun z => by rw [d] at z; cases z
  have tb : ∀ p ∈ cs, LamX.TabB (hidT s1.heap H) mg p.1 p.2 := by
    intro p hp
    obtain ⟨c, t⟩ := hT p hp
    obtain ⟨gO, _, _, gE, gD, _⟩ := hns
    have gP : mainGlobals ≠ p.2 := fun z => by
      rw [z, t] at gE
      cases gE
      cases gD
    refine ⟨?_, ?_, gP⟩
    · obtain ⟨o, us, file, tf, fl, tg, inF, tx, tt, e, h1, h2, h3, hs⟩ := c
      refine ⟨o, us, file, tf, fl, tg, inF, tx, tt, below e (clear e (fun _ _ z => by rw [h2] at z; cases z) fun z => ?_), h1, h2, h3, hs⟩
      rw [h2] at z
      cases z
      simp at h3
    · obtain ⟨bm, ob, b1, b2, b3, b4, b5, b6⟩ := hm
      refine ⟨bm, ob, b1, b2, fun z => ?_, fun z => ?_, below b3 (plainAt b3 b4 b6), b4, b5, b6⟩
      · rw [z, gE] at b3
        cases b3
        rw [gD] at b6
        cases b6
      · rw [z, t] at b3
        cases b3
        cases b6
  have noFr : ∀ b ∈ frs ([] : List Env), H b = none := fun b z => absurd (show b ∈ ([] : List Addr) from z) List.not_mem_nil
  have e0 : Env0 P w K mg (hidT s1.heap H) callerA [] s1 H := ⟨rfl, hM, fun b o e => of_hidT e, Nat.le_of_eq (hidT_size _ _), trivial, noFr, hok, .of_eq hg⟩
  refine codeAny_mono ((F _ inB (spaces hns) tb).go callerA [] s1 H ⟨[.ref a], []⟩ [.ref a] [.ref a] _ _ rfl hr e0 (hbind s1 (.ref a)) (.cons rfl .nil) hp) fun r s2 h => ?_
  match r, h with
  | .error _, h => exact (h : False).elim
  | .ok .next, h => exact (h : False).elim
  | .ok .brk, h => exact (h : False).elim
  | .ok .cont, h => exact (h : False).elim
  | .ok (.ret u), h =>
    obtain ⟨v, H2, os, bare, un, hok2, rv, q⟩ := h
    obtain rfl : v = .bl true := q
    obtain rfl : u = Value.bool true := rv
    have same : ∀ {b : Addr} {o : Obj}, (∀ p ∈ cs, p.2 ≠ b) → s1.heap.get? b = some o → s2.heap.get? b = some o := by
      intro b o nt e
      cases q : H b with
      | none => exact un.keep b o e q (fun z => absurd (show b ∈ ([] : List Addr) from z) List.not_mem_nil) List.not_mem_nil
      | some z =>
        rcases known q with h | ⟨p, hp, h⟩
        · subst h
          obtain ⟨ob, xs, rfl⟩ := hz z q
          have k1 := (hok b _ q).1
          rw [e] at k1
          cases k1
          exact (hok2 b _ (un.frzs b _ _ q)).1
        · exact (nt p hp h).elim
    have grown : ∀ p ∈ cs, ∃ more : Array Value, s2.heap.get? p.2 = some (PySem.W.tabObj more) := fun p hp => by
      obtain ⟨more, z⟩ := un.tbls p.2 #[] (hH p hp)
      exact ⟨_, hok2 p.2 _ z⟩
    refine ⟨rfl, ⟨fun b o e => ?_, fun b o e => ?_⟩, os, bare⟩
    · by_cases t : ∃ p ∈ cs, p.2 = b
      · obtain ⟨p, hp, rfl⟩ := t
        obtain ⟨more, g⟩ := grown p hp
        rw [(hT p hp).2] at e
        cases e
        exact .inr (.inl ⟨((hT p hp).1.tab (hT p hp).2).isCodeTable, rfl, #[], more, rfl, by rw [Array.empty_append]; exact g⟩)
      · exact .inl (same (fun p hp z => t ⟨p, hp, z⟩) e)
    · by_cases t : ∃ p ∈ cs, p.2 = b
      · obtain ⟨p, hp, rfl⟩ := t
        exact (grown p hp).elim fun more g => ⟨_, g⟩
      · exact ⟨o, same (fun p hp z => t ⟨p, hp, z⟩) e⟩
/-- what is known where the law is called: the text's promise and the tables of code objects that it fills -/
def LawT (P : Program) (w : World) (K : PySem.W.Frag) (k n : Nat) (x : Str) (mg : Str → Option Value) (fa : Addr) (h : Heap) : Prop :=
  ∃ (fd : FuncData) (cs : List (Addr × Addr)) (sp : Sp), (∀ p ∈ cs, PySem.W.CodeHd h p.1 p.2 ∧ h.get? p.2 = some (PySem.W.tabObj #[])) ∧ (∀ p ∈ cs, K.lookup p.2 = none) ∧ (∀ (s : Shared) (u : Value), BindsTo s fd ⟨[u], []⟩ [(x, u)]) ∧
    (∀ (H : Hp) (a : Addr) (ns : List Int), ns.length ≤ n → (∀ p ∈ cs, H p.2 = some (.tbl #[])) → SqL K H a (ns.map V.int) → sp [.ref a] H (fun v _ => v = .bl true) fun _ _ _ => False) ∧
    ∀ base : Heap, K.In base → base.Ns mainGlobals mg → (∀ p ∈ cs, LamX.TabB base mg p.1 p.2) → FnG P w K mg base k fa fd [x] sp
theorem walk_gT {l : PySem.W.OpenLaw} {n k : Nat} {q : Program} {loose : List Str} {XP : (Str → Option Value) → Heap → Prop} {YP : World → Heap → Prop} {d : DefRec} {K : Params → PySem.W.Frag} {x : Str}
    (hn : l.most = some n) (hn2 : n ≤ sizeLine) (hdf : d.params.defaults = []) (hr : Room k callerA) (hY : ∀ (w : World) (h : Heap), YP w h → (K w.params).In h)
    (F : ∀ (w : World) (s0 : Shared) (mg mb : Str → Option Value) (fa : Addr) (h : Heap), YP w h → (K w.params).In h → PySem.W.Ground q loose [] XP w s0 mg mb h → mg d.name = some (.ref fa) → LawT l.prog w (K w.params) k n x mg fa h) :
    PySem.W.WalkO q loose XP YP l.row.toRowW d [] (fun f vs => PySem.call f vs) := by
  refine Att.attach_call hn hdf fun w s0 s1 mg mb fa o pm cd doc a vs ns G Y ho hd hcd hmg hobj hints hlen hg => ?_
  have inK := hY w _ Y
  obtain ⟨fd, cs, sp, hT, nT, hb, hsp, hF⟩ := F w s0 mg mb fa _ Y inK G hmg
  have rv := vals_ints hints
  have lv := hints.length
  have notT : ∀ p ∈ cs, p.2 ≠ a := fun p hp z => by
    have e := (hT p hp).2
    rw [z, hobj] at e
    cases e
  have main := fun (H : Hp) (hS : SqL (K w.params) H a (ns.map V.int)) (hH : ∀ p ∈ cs, H p.2 = some (.tbl #[])) => call_ofT (H := H) inK G.T.g G.T.b G.T.builtins G.T.nolimit hg hT G.T.bmain hobj hr hF hb hH
  let T : Hp := fun b => if ∃ p ∈ cs, p.2 = b then some (.tbl #[]) else none
  have inT : ∀ p ∈ cs, T p.2 = some (.tbl #[]) := fun p hp => if_pos ⟨p, hp, rfl⟩
  have offT : ∀ {b : Addr}, T b ≠ none → ∃ p ∈ cs, p.2 = b := fun {b} z => Classical.byContradiction fun n => z (if_neg n)
  have okT : ∀ {b : Addr} {z : HO} {H : Hp}, T b = some z → ObjOk l.prog w H s1.heap b z := fun {b z H} e => by
    obtain ⟨p, hp, rfl⟩ := offT fun n => by rw [n] at e; cases e
    rw [inT p hp] at e
    cases e
    exact (hT p hp).2
  have aT : T a = none := if_neg fun ⟨p, hp, z⟩ => notT p hp z
  cases hk : (K w.params).lookup a with
  | some ob =>
    have e := inK a ob hk
    rw [hobj] at e
    cases e
    have sq : SqL (K w.params) T a (ns.map V.int) := .inr ⟨_, vs.toArray, _, hk, rfl, rfl, rfl, by rw [List.size_toArray, lv]; exact Nat.le_trans hlen hn2, by simpa using rv⟩
    exact main T sq inT (fun b z => .inr (offT z)) (fun z e => by rw [aT] at e; cases e) (fun z => absurd aT z) nT (hsp T a ns hlen inT sq) fun b z e => okT e
  | none =>
    let ob : Obj := { cls := .type "list", data := .seq vs.toArray }
    have eA : upd T a (.frz ob (.lst (ns.map V.int))) a = some (.frz ob (.lst (ns.map V.int))) := upd_same
    have hH : ∀ p ∈ cs, upd T a (.frz ob (.lst (ns.map V.int))) p.2 = some (.tbl #[]) := fun p hp => by rw [upd_ne (notT p hp)]; exact inT p hp
    have sq : SqL (K w.params) (upd T a (.frz ob (.lst (ns.map V.int)))) a (ns.map V.int) := .inl (.inr ⟨ob, eA⟩)
    refine main _ sq hH (fun b z => ?_) (fun z e => ?_) (fun _ => hk) nT (hsp _ a ns hlen hH sq) fun b z e => ?_
    · by_cases h : b = a
      · exact .inl h
      · rw [upd_ne h] at z
        exact .inr (offT z)
    · rw [eA] at e
      cases e
      exact ⟨_, _, rfl⟩
    · by_cases h : b = a
      · subst h
        rw [eA] at e
        cases e
        exact ⟨hobj, by rw [List.length_map]; exact Nat.le_trans hlen hn2, vs, _, rv, hobj⟩
      · rw [upd_ne h] at e
        exact okT e
/-- a def of the top whose code object is told -/
structure DfC (K : PySem.W.Frag) (mg : Str → Option Value) (x : Str) (st : Stmt) (ps : List Str) (c : Addr) : Prop where
  ex : ∃ (f : Addr) (fd : FuncData), Fun K x x st f fd ∧ mg x = some (.ref f) ∧ Binds K fd ps [] ∧ fd.code = .ref c
/-- a def by its body, its code object told -/
theorem fun_gC {P : Program} {w : World} {K : PySem.W.Frag} {mg : Str → Option Value} {base : Heap} {x qual : Str} {st : Stmt} {f : Addr} {fd : FuncData} {N ps : List Str} {k : Nat} {sp : Sp} (F : Fun K x qual st f fd) (S : FnScope N ps (defScope st))
    (len : ∀ vs H Q E, sp vs H Q E → vs.length = ps.length)
    (body : ∀ (cdv : Value), fd.code = cdv → ∀ (A : Around) (outer : List Env) (s : Shared) (H : Hp) (vs : List V) (Q : VK) (E : XK), (A.deeper (envOfC qual (defScope st) s.heap.objs.size f cdv)).guards = some [] →
      Room k (A.deeper (envOfC qual (defScope st) s.heap.objs.size f cdv)) → sp vs H Q E →
      ∃ t, PSs (cxOf CX0 P w K mg base N qual (defScope st) f cdv A outer s H E).nox (defBody st) t ∧ t { nx := fun _ H' => Q .non H', rt := Q } (start N vs) H) : FnG P w K mg base (k + 1) f fd ps sp := by
  obtain ⟨oc, od, kV, doc, pm, an, cdv, ct, osl, rfl, lk, hcd⟩ := F.ex
  refine ⟨len, fun A outer s H args us vs Q E hgd hr e0 hb rv hsp => ?_⟩
  have inK : K.In s.heap := e0.mod.kin.keeps fun b o e => (e0.bs b o e).1
  have noL : s.heap.NoLimit := e0.mod.nolimit.keeps fun b o e => (e0.bs b o e).1
  have kinds : ∀ y ∈ ps.zip us, (defScope st).names.lookup y.1 = some .local ∨ ((defScope st).names.lookup y.1 = some .cell ∧ ((cellsFrom (s.heap.objs.size + 1) (defScope st).names []).lookup y.1).isSome = true) := by
    intro y hy
    rcases S.par y.1 (List.of_mem_zip hy).1 with q | q
    · exact .inl q
    · exact .inr ⟨q, PySem.W.cellsFrom_some _ _ _ (.inl q)⟩
  refine codeAny_call_function hr.depth (inK _ _ lk) rfl S.co S.gen rfl (PySem.W.codeRec_of inK hcd) (hb _ _ _ _ ?_)
  refine wpAny_newFunctionEnv_cells S.kind kinds fun env he s1 made => ?_
  subst he
  refine ⟨noL.keeps made.toInCall.keep, codeAny_func ?_⟩
  obtain ⟨t, ht, hq⟩ := body cdv rfl A outer s H vs Q E hgd (hr.deeper _) hsp
  have J0 : Inv (cxOf CX0 P w K mg base N qual (defScope st) f cdv A outer s H E) [] (start N vs) H s1 := inv_start S hr.hd e0 (len _ _ _ _ hsp) rv made
  refine wpAny_mono (ht.nox.run [] s1 (start N vs) H _ J0 hq) (fun fl s' hs => ?_) fun _ _ hs => hs
  match fl, hs with
  | .ret u, hs =>
    obtain ⟨v, σ', H', J, rv', q⟩ := hs
    exact ⟨v, H', J.os, J.bare, J.base, J.hok, rv', q⟩
  | .next, hs =>
    obtain ⟨σ', H', J, q⟩ := hs
    exact ⟨V.non, H', J.os, J.bare, J.base, J.hok, rfl, q⟩
  | .brk, hs => exact (hs.choose_spec.choose_spec.2 : False).elim
  | .cont, hs => exact (hs.choose_spec.choose_spec.2 : False).elim
end Ft

namespace Ft
open PySem L2
def top (i : Nat) : Stmt := PySem.Challenge.pw_firstterms_k35_any_value_as_a_divisor_pi.main.body.getD i (.Pass ⟨0, 0, 0, 0⟩)
abbrev s_is_integer : Stmt := top 8
abbrev N_is_integer : List Str := ["thing"]
theorem sc_is_integer : FnScope N_is_integer ["thing"] (defScope s_is_integer) := ⟨rfl, rfl, rfl, by decide +kernel, rfl, by decide +kernel, by decide +kernel⟩
abbrev s_is_from : Stmt := top 9
abbrev N_is_from : List Str := ["thing", "least"]
theorem sc_is_from : FnScope N_is_from ["thing", "least"] (defScope s_is_from) := ⟨rfl, rfl, rfl, by decide +kernel, rfl, by decide +kernel, by decide +kernel⟩
abbrev s_is_between : Stmt := top 10
abbrev N_is_between : List Str := ["thing", "least", "most"]
theorem sc_is_between : FnScope N_is_between ["thing", "least", "most"] (defScope s_is_between) := ⟨rfl, rfl, rfl, by decide +kernel, rfl, by decide +kernel, by decide +kernel⟩
abbrev s_check_between : Stmt := top 11
abbrev N_check_between : List Str := ["thing", "least", "most"]
theorem sc_check_between : FnScope N_check_between ["thing", "least", "most"] (defScope s_check_between) := ⟨rfl, rfl, rfl, by decide +kernel, rfl, by decide +kernel, by decide +kernel⟩
abbrev s_check_count : Stmt := top 12
abbrev N_check_count : List Str := ["many"]
theorem sc_check_count : FnScope N_check_count ["many"] (defScope s_check_count) := ⟨rfl, rfl, rfl, by decide +kernel, rfl, by decide +kernel, by decide +kernel⟩
abbrev s_lowest_terms : Stmt := top 14
abbrev N_lowest_terms : List Str := ["top", "bottom", "common"]
theorem sc_lowest_terms : FnScope N_lowest_terms ["top", "bottom"] (defScope s_lowest_terms) := ⟨rfl, rfl, rfl, by decide +kernel, rfl, by decide +kernel, by decide +kernel⟩
abbrev s_number_sum : Stmt := top 15
abbrev N_number_sum : List Str := ["one", "other"]
theorem sc_number_sum : FnScope N_number_sum ["one", "other"] (defScope s_number_sum) := ⟨rfl, rfl, rfl, by decide +kernel, rfl, by decide +kernel, by decide +kernel⟩
abbrev s_number_product : Stmt := top 16
abbrev N_number_product : List Str := ["one", "other"]
theorem sc_number_product : FnScope N_number_product ["one", "other"] (defScope s_number_product) := ⟨rfl, rfl, rfl, by decide +kernel, rfl, by decide +kernel, by decide +kernel⟩
abbrev s_raised : Stmt := top 17
abbrev N_raised : List Str := ["base", "exponent", "result", "square"]
theorem sc_raised : FnScope N_raised ["base", "exponent"] (defScope s_raised) := ⟨rfl, rfl, rfl, by decide +kernel, rfl, by decide +kernel, by decide +kernel⟩
abbrev s_is_sign : Stmt := top 19
abbrev N_is_sign : List Str := ["thing"]
theorem sc_is_sign : FnScope N_is_sign ["thing"] (defScope s_is_sign) := ⟨rfl, rfl, rfl, by decide +kernel, rfl, by decide +kernel, by decide +kernel⟩
abbrev s_check_sign : Stmt := top 20
abbrev N_check_sign : List Str := ["sign"]
theorem sc_check_sign : FnScope N_check_sign ["sign"] (defScope s_check_sign) := ⟨rfl, rfl, rfl, by decide +kernel, rfl, by decide +kernel, by decide +kernel⟩
abbrev s_value_at : Stmt := top 21
abbrev N_value_at : List Str := ["sign", "n", "rest", "value"]
theorem sc_value_at : FnScope N_value_at ["sign", "n"] (defScope s_value_at) := ⟨rfl, rfl, rfl, by decide +kernel, rfl, by decide +kernel, by decide +kernel⟩
abbrev s_value_at_two : Stmt := top 22
abbrev N_value_at_two : List Str := ["sign"]
theorem sc_value_at_two : FnScope N_value_at_two ["sign"] (defScope s_value_at_two) := ⟨rfl, rfl, rfl, by decide +kernel, rfl, by decide +kernel, by decide +kernel⟩
abbrev s_value_at_odd : Stmt := top 23
abbrev N_value_at_odd : List Str := ["top", "bottom", "value"]
theorem sc_value_at_odd : FnScope N_value_at_odd ["top", "bottom"] (defScope s_value_at_odd) := ⟨rfl, rfl, rfl, by decide +kernel, rfl, by decide +kernel, by decide +kernel⟩
abbrev s_any_sign_of : Stmt := top 24
abbrev N_any_sign_of : List Str := ["m", "bare"]
theorem sc_any_sign_of : FnScope N_any_sign_of ["m"] (defScope s_any_sign_of) := ⟨rfl, rfl, rfl, by decide +kernel, rfl, by decide +kernel, by decide +kernel⟩
abbrev s_without_squares : Stmt := top 25
abbrev N_without_squares : List Str := ["m", "rest", "bare", "p", "root"]
theorem sc_without_squares : FnScope N_without_squares ["m"] (defScope s_without_squares) := ⟨rfl, rfl, rfl, by decide +kernel, rfl, by decide +kernel, by decide +kernel⟩
abbrev s_joined_sign : Stmt := top 26
abbrev N_joined_sign : List Str := ["one", "other"]
theorem sc_joined_sign : FnScope N_joined_sign ["one", "other"] (defScope s_joined_sign) := ⟨rfl, rfl, rfl, by decide +kernel, rfl, by decide +kernel, by decide +kernel⟩
abbrev s_lowered : Stmt := top 28
abbrev N_lowered : List Str := ["bottom", "tops", "common", "top"]
theorem sc_lowered : FnScope N_lowered ["bottom", "tops"] (defScope s_lowered) := ⟨rfl, rfl, rfl, by decide +kernel, rfl, by decide +kernel, by decide +kernel⟩
abbrev s_bernoulli : Stmt := top 30
abbrev N_bernoulli : List Str := ["k", "sign", "size", "total", "i", "plain", "top"]
theorem sc_bernoulli : FnScope N_bernoulli ["k", "sign"] (defScope s_bernoulli) := ⟨rfl, rfl, rfl, by decide +kernel, rfl, by decide +kernel, by decide +kernel⟩
abbrev s_plain_numbers : Stmt := top 31
abbrev N_plain_numbers : List Str := ["k", "numbers", "n", "total", "i", "plain"]
theorem sc_plain_numbers : FnScope N_plain_numbers ["k"] (defScope s_plain_numbers) := ⟨rfl, rfl, rfl, by decide +kernel, rfl, by decide +kernel, by decide +kernel⟩
abbrev s_power_sum : Stmt := top 32
abbrev N_power_sum : List Str := ["sign", "e", "total", "a"]
theorem sc_power_sum : FnScope N_power_sum ["sign", "e"] (defScope s_power_sum) := ⟨rfl, rfl, rfl, by decide +kernel, rfl, by decide +kernel, by decide +kernel⟩
abbrev s_is_told : Stmt := top 34
abbrev N_is_told : List Str := ["thing", "word", "many"]
theorem sc_is_told : FnScope N_is_told ["thing", "word", "many"] (defScope s_is_told) := ⟨rfl, rfl, rfl, by decide +kernel, rfl, by decide +kernel, by decide +kernel⟩
abbrev s_is_divisor_piece : Stmt := top 36
abbrev N_is_divisor_piece : List Str := ["thing", "_", "k", "one", "other", "t"]
theorem sc_is_divisor_piece : FnScope N_is_divisor_piece ["thing"] (defScope s_is_divisor_piece) := ⟨rfl, rfl, rfl, by decide +kernel, rfl, by decide +kernel, by decide +kernel⟩
abbrev s_is_plain : Stmt := top 37
abbrev N_is_plain : List Str := ["divisor_piece"]
theorem sc_is_plain : FnScope N_is_plain ["divisor_piece"] (defScope s_is_plain) := ⟨rfl, rfl, rfl, by decide +kernel, rfl, by decide +kernel, by decide +kernel⟩
abbrev s_check_divisor_piece : Stmt := top 38
abbrev N_check_divisor_piece : List Str := ["divisor_piece"]
theorem sc_check_divisor_piece : FnScope N_check_divisor_piece ["divisor_piece"] (defScope s_check_divisor_piece) := ⟨rfl, rfl, rfl, by decide +kernel, rfl, by decide +kernel, by decide +kernel⟩
abbrev s_sum_level : Stmt := top 39
abbrev N_sum_level : List Str := ["divisor_piece", "_", "k", "one", "other", "t"]
theorem sc_sum_level : FnScope N_sum_level ["divisor_piece"] (defScope s_sum_level) := ⟨rfl, rfl, rfl, by decide +kernel, rfl, by decide +kernel, by decide +kernel⟩
abbrev s_sum_sign : Stmt := top 40
abbrev N_sum_sign : List Str := ["divisor_piece"]
theorem sc_sum_sign : FnScope N_sum_sign ["divisor_piece"] (defScope s_sum_sign) := ⟨rfl, rfl, rfl, by decide +kernel, rfl, by decide +kernel, by decide +kernel⟩
abbrev s_sum_first : Stmt := top 41
abbrev N_sum_first : List Str := ["divisor_piece", "_", "k", "one", "other", "t"]
theorem sc_sum_first : FnScope N_sum_first ["divisor_piece"] (defScope s_sum_first) := ⟨rfl, rfl, rfl, by decide +kernel, rfl, by decide +kernel, by decide +kernel⟩
abbrev s_sum_terms : Stmt := top 42
abbrev N_sum_terms : List Str := ["divisor_piece", "many", "bottom", "tops"]
theorem sc_sum_terms : FnScope N_sum_terms ["divisor_piece", "many"] (defScope s_sum_terms) := ⟨rfl, rfl, rfl, by decide +kernel, rfl, by decide +kernel, by decide +kernel⟩
abbrev s_sum_row : Stmt := top 43
abbrev N_sum_row : List Str := ["divisor_piece", "many", "_", "k", "one", "other", "t", "top", "bottom", "sums", "n", "later", "term"]
theorem sc_sum_row : FnScope N_sum_row ["divisor_piece", "many"] (defScope s_sum_row) := ⟨rfl, rfl, rfl, by decide +kernel, rfl, by decide +kernel, by decide +kernel⟩
abbrev s_divisor_sums : Stmt := top 44
abbrev N_divisor_sums : List Str := ["k", "one", "other", "many", "sums", "d", "factor", "n"]
theorem sc_divisor_sums : FnScope N_divisor_sums ["k", "one", "other", "many"] (defScope s_divisor_sums) := ⟨rfl, rfl, rfl, by decide +kernel, rfl, by decide +kernel, by decide +kernel⟩
abbrev s__law_deck : Stmt := top 46
abbrev N__law_deck : List Str := ["_law_script", "_law_mixed", "_law_cell"]
theorem sc__law_deck : FnScope N__law_deck ["_law_script"] (defScope s__law_deck) := ⟨rfl, rfl, rfl, by decide +kernel, rfl, by decide +kernel, by decide +kernel⟩
abbrev s__law_draw : Stmt := top 47
abbrev N__law_draw : List Str := ["_law_deck_here", "_law_below", "_law_figure", "_law_cell"]
theorem sc__law_draw : FnScope N__law_draw ["_law_deck_here", "_law_below"] (defScope s__law_draw) := ⟨rfl, rfl, rfl, by decide +kernel, rfl, by decide +kernel, by decide +kernel⟩
abbrev s__law_pick : Stmt := top 48
abbrev N__law_pick : List Str := ["_law_deck_here", "_law_some"]
theorem sc__law_pick : FnScope N__law_pick ["_law_deck_here", "_law_some"] (defScope s__law_pick) := ⟨rfl, rfl, rfl, by decide +kernel, rfl, by decide +kernel, by decide +kernel⟩
abbrev s__law_is_integer : Stmt := top 49
abbrev N__law_is_integer : List Str := ["_law_thing"]
theorem sc__law_is_integer : FnScope N__law_is_integer ["_law_thing"] (defScope s__law_is_integer) := ⟨rfl, rfl, rfl, by decide +kernel, rfl, by decide +kernel, by decide +kernel⟩
abbrev s__law_are_integers : Stmt := top 50
abbrev N__law_are_integers : List Str := ["_law_thing", "_law_many", "_law_x"]
theorem sc__law_are_integers : FnScope N__law_are_integers ["_law_thing", "_law_many"] (defScope s__law_are_integers) := ⟨rfl, rfl, rfl, by decide +kernel, rfl, by decide +kernel, by decide +kernel⟩
abbrev s__law_gcd : Stmt := top 51
abbrev N__law_gcd : List Str := ["_law_one", "_law_other_here"]
theorem sc__law_gcd : FnScope N__law_gcd ["_law_one", "_law_other_here"] (defScope s__law_gcd) := ⟨rfl, rfl, rfl, by decide +kernel, rfl, by decide +kernel, by decide +kernel⟩
abbrev s__law_lowest : Stmt := top 52
abbrev N__law_lowest : List Str := ["_law_top", "_law_bottom", "_law_common"]
theorem sc__law_lowest : FnScope N__law_lowest ["_law_top", "_law_bottom"] (defScope s__law_lowest) := ⟨rfl, rfl, rfl, by decide +kernel, rfl, by decide +kernel, by decide +kernel⟩
abbrev s__law_plus : Stmt := top 53
abbrev N__law_plus : List Str := ["_law_one", "_law_other_here"]
theorem sc__law_plus : FnScope N__law_plus ["_law_one", "_law_other_here"] (defScope s__law_plus) := ⟨rfl, rfl, rfl, by decide +kernel, rfl, by decide +kernel, by decide +kernel⟩
abbrev s__law_by : Stmt := top 54
abbrev N__law_by : List Str := ["_law_one", "_law_other_here"]
theorem sc__law_by : FnScope N__law_by ["_law_one", "_law_other_here"] (defScope s__law_by) := ⟨rfl, rfl, rfl, by decide +kernel, rfl, by decide +kernel, by decide +kernel⟩
abbrev s__law_is_sign : Stmt := top 55
abbrev N__law_is_sign : List Str := ["_law_thing", "_law_part", "_law_d"]
theorem sc__law_is_sign : FnScope N__law_is_sign ["_law_thing"] (defScope s__law_is_sign) := ⟨rfl, rfl, rfl, by decide +kernel, rfl, by decide +kernel, by decide +kernel⟩
abbrev s__law_prime_value : Stmt := top 56
abbrev N__law_prime_value : List Str := ["_law_sign", "_law_p", "_law_x"]
theorem sc__law_prime_value : FnScope N__law_prime_value ["_law_sign", "_law_p"] (defScope s__law_prime_value) := ⟨rfl, rfl, rfl, by decide +kernel, rfl, by decide +kernel, by decide +kernel⟩
abbrev s__law_values : Stmt := top 57
abbrev N__law_values : List Str := ["_law_sign", "_law_many", "_law_found", "_law_primes", "_law_n", "_law_d", "_law_p"]
theorem sc__law_values : FnScope N__law_values ["_law_sign", "_law_many"] (defScope s__law_values) := ⟨rfl, rfl, rfl, by decide +kernel, rfl, by decide +kernel, by decide +kernel⟩
abbrev s__law_sign_of : Stmt := top 58
abbrev N__law_sign_of : List Str := ["_law_m", "_law_part", "_law_d"]
theorem sc__law_sign_of : FnScope N__law_sign_of ["_law_m"] (defScope s__law_sign_of) := ⟨rfl, rfl, rfl, by decide +kernel, rfl, by decide +kernel, by decide +kernel⟩
abbrev s__law_power : Stmt := top 59
abbrev N__law_power : List Str := ["_law_base", "_law_often", "_law_found", "_law_go"]
theorem sc__law_power : FnScope N__law_power ["_law_base", "_law_often"] (defScope s__law_power) := ⟨rfl, rfl, rfl, by decide +kernel, rfl, by decide +kernel, by decide +kernel⟩
abbrev s__law_choose : Stmt := top 60
abbrev N__law_choose : List Str := ["_law_n", "_law_k", "_law_found", "_law_i"]
theorem sc__law_choose : FnScope N__law_choose ["_law_n", "_law_k"] (defScope s__law_choose) := ⟨rfl, rfl, rfl, by decide +kernel, rfl, by decide +kernel, by decide +kernel⟩
abbrev s__law_small_bernoulli : Stmt := top 61
abbrev N__law_small_bernoulli : List Str := ["_law_k", "_law_found", "_law_n", "_law_total", "_law_i", "_law_number"]
theorem sc__law_small_bernoulli : FnScope N__law_small_bernoulli ["_law_k"] (defScope s__law_small_bernoulli) := ⟨rfl, rfl, rfl, by decide +kernel, rfl, by decide +kernel, by decide +kernel⟩
abbrev s__law_bernoulli : Stmt := top 62
abbrev N__law_bernoulli : List Str := ["_law_k", "_law_sign", "_law_f", "_law_total", "_law_values_here", "_law_i", "_law_number", "_law_a", "_law_powers"]
theorem sc__law_bernoulli : FnScope N__law_bernoulli ["_law_k", "_law_sign"] (defScope s__law_bernoulli) := ⟨rfl, rfl, rfl, by decide +kernel, rfl, by decide +kernel, by decide +kernel⟩
abbrev s__law_is_sum : Stmt := top 63
abbrev N__law_is_sum : List Str := ["_law_thing", "_law_word", "_law_k", "_law_one", "_law_other_here", "_law_t"]
theorem sc__law_is_sum : FnScope N__law_is_sum ["_law_thing"] (defScope s__law_is_sum) := ⟨rfl, rfl, rfl, by decide +kernel, rfl, by decide +kernel, by decide +kernel⟩
abbrev s__law_sum_first : Stmt := top 64
abbrev N__law_sum_first : List Str := ["_law_piece", "_law_word", "_law_k", "_law_one", "_law_other_here", "_law_t"]
theorem sc__law_sum_first : FnScope N__law_sum_first ["_law_piece"] (defScope s__law_sum_first) := ⟨rfl, rfl, rfl, by decide +kernel, rfl, by decide +kernel, by decide +kernel⟩
abbrev s__law_divisor_sums : Stmt := top 65
abbrev N__law_divisor_sums : List Str := ["_law_k", "_law_one", "_law_other_here", "_law_many", "_law_left", "_law_right", "_law_found", "_law_d", "_law_worth", "_law_e"]
theorem sc__law_divisor_sums : FnScope N__law_divisor_sums ["_law_k", "_law_one", "_law_other_here", "_law_many"] (defScope s__law_divisor_sums) := ⟨rfl, rfl, rfl, by decide +kernel, rfl, by decide +kernel, by decide +kernel⟩
abbrev s__law_sum_terms : Stmt := top 66
abbrev N__law_sum_terms : List Str := ["_law_piece", "_law_many", "_law_word", "_law_k", "_law_one", "_law_other_here", "_law_t", "_law_sums", "_law_tops", "_law_first", "_law_n", "_law_x"]
theorem sc__law_sum_terms : FnScope N__law_sum_terms ["_law_piece", "_law_many"] (defScope s__law_sum_terms) := ⟨rfl, rfl, rfl, by decide +kernel, rfl, by decide +kernel, by decide +kernel⟩
abbrev s__law_sum_piece : Stmt := top 67
abbrev N__law_sum_piece : List Str := ["_law_deck_here", "_law_most", "_law_signs", "_law_sign", "_law_one", "_law_other_here", "_law_k", "_law_t"]
theorem sc__law_sum_piece : FnScope N__law_sum_piece ["_law_deck_here", "_law_most"] (defScope s__law_sum_piece) := ⟨rfl, rfl, rfl, by decide +kernel, rfl, by decide +kernel, by decide +kernel⟩
abbrev s__law_bent : Stmt := top 68
abbrev N__law_bent : List Str := ["_law_deck_here", "_law_thing", "_law_depth", "_law_at", "_law_way", "_law_some", "_law_odd"]
theorem sc__law_bent : FnScope N__law_bent ["_law_deck_here", "_law_thing", "_law_depth"] (defScope s__law_bent) := ⟨rfl, rfl, rfl, by decide +kernel, rfl, by decide +kernel, by decide +kernel⟩
abbrev s__law_other : Stmt := top 69
abbrev N__law_other : List Str := ["_law_deck_here", "_law_piece", "_law_word", "_law_k", "_law_one", "_law_other_here", "_law_t", "_law_way", "_law_room", "_law_sign"]
theorem sc__law_other : FnScope N__law_other ["_law_deck_here", "_law_piece"] (defScope s__law_other) := ⟨rfl, rfl, rfl, by decide +kernel, rfl, by decide +kernel, by decide +kernel⟩
abbrev s__law_told : Stmt := top 70
abbrev N__law_told : List Str := ["_law_call", "_law_found"]
theorem sc__law_told : FnScope N__law_told ["_law_call"] (defScope s__law_told) := ⟨rfl, rfl, rfl, by decide +kernel, rfl, by decide +kernel, by decide +kernel⟩
abbrev s__law_all_told : Stmt := top 71
abbrev N__law_all_told : List Str := ["_law_thing", "_law_found"]
theorem sc__law_all_told : FnScope N__law_all_told ["_law_thing"] (defScope s__law_all_told) := ⟨rfl, rfl, rfl, by decide +kernel, rfl, by decide +kernel, by decide +kernel⟩
abbrev s_law : Stmt := top 72
abbrev N_law : List Str := ["_law_script", "_law_deck_here", "_law_go", "_law_thing", "_law_many", "_law_is_right", "_law_due", "_law_first", "_law_signs", "_law_told_here"]
theorem sc_law : FnScope N_law ["_law_script"] (defScope s_law) := ⟨rfl, rfl, rfl, by decide +kernel, rfl, by decide +kernel, by decide +kernel⟩
end Ft

namespace Ft
open PySem L2

/-! ### the mirror of the program's defs -/
def valueTwo (s : Int) : Int := if s % 2 = 0 then 0 else if s % 8 = 1 then 1 else -1
/-- a sign as an int: true is 1 -/
def sg (v : Bool) : Int := if v = true then 1 else -1
def halve (b : Nat) : Nat → Nat → Bool → Nat × Bool
  | 0, t, v => (t, v)
  | f + 1, t, v => if t % 2 = 0 then halve b f (t / 2) (if b % 8 = 3 ∨ b % 8 = 5 then !v else v) else (t, v)
def jac : Nat → Nat → Nat → Bool → Nat × Bool
  | 0, _, b, v => (b, v)
  | f + 1, t, b, v => if t = 0 then (b, v) else
    let r := halve b t t v
    jac f (b % r.1) r.1 (if r.1 % 4 = 3 ∧ b % 4 = 3 then !r.2 else r.2)
def valueOdd (top : Int) (b : Nat) : Int :=
  let r := jac b (top % (b : Int)).toNat b true
  if r.1 = 1 then sg r.2 else 0
def twos (z : Int) : Nat → Nat → Int → Nat × Int
  | 0, r, v => (r, v)
  | f + 1, r, v => if r % 2 = 0 then twos z f (r / 2) (v * z) else (r, v)
def valueRest (s : Int) (r : Nat) : Int :=
  if r = 0 then (if s = 1 then 1 else 0) else
    let q := twos (valueTwo s) r r 1
    q.2 * valueOdd s q.1
def valueAt (s n : Int) : Int := valueRest s (n % (s.natAbs : Int)).toNat
def sqs (p : Nat) : Nat → Nat → Nat
  | 0, r => r
  | f + 1, r => if r % (p * p) = 0 then sqs p f (r / (p * p)) else r
def wsq : Nat → Nat → Int → Nat → Nat × Int
  | 0, r, b, _ => (r, b)
  | f + 1, r, b, p => if p * p * p ≤ r then
      let r1 := sqs p r r
      if r1 % p = 0 then wsq f (r1 / p) (b * p) (p + 1) else wsq f r1 b (p + 1)
    else (r, b)
def without (m : Int) : Int :=
  let q := wsq m.natAbs m.natAbs (if 0 < m then 1 else -1) 2
  if Float64.isqrt q.1 * Float64.isqrt q.1 = q.1 then q.2 else q.2 * q.1
def anySign (m : Int) : Int := if without m % 4 = 1 then without m else 4 * without m
def isSign (n : Int) : Bool := decide (-400 ≤ n) && (decide (n ≤ 400) && (decide (n ≠ 0) && decide (anySign n = n)))

/-! ### promises -/
def sp1 (C : Int → Prop) (g : Int → V) : Sp := fun vs H Q _ => ∃ n, vs = [.int n] ∧ C n ∧ Q (g n) H
def sp2 (C : Int → Int → Prop) (g : Int → Int → V) : Sp := fun vs H Q _ => ∃ m n, vs = [.int m, .int n] ∧ C m n ∧ Q (g m n) H
def sp3 (C : Int → Int → Int → Prop) (g : Int → Int → Int → V) : Sp := fun vs H Q _ => ∃ l m n, vs = [.int l, .int m, .int n] ∧ C l m n ∧ Q (g l m n) H
theorem sp1_len {C g} : ∀ vs H Q E, sp1 C g vs H Q E → vs.length = 1 := fun _ _ _ _ ⟨_, e, _⟩ => by rw [e]; rfl
theorem sp2_len {C g} : ∀ vs H Q E, sp2 C g vs H Q E → vs.length = 2 := fun _ _ _ _ ⟨_, _, e, _⟩ => by rw [e]; rfl
theorem sp3_len {C g} : ∀ vs H Q E, sp3 C g vs H Q E → vs.length = 3 := fun _ _ _ _ ⟨_, _, _, e, _⟩ => by rw [e]; rfl
def sp_is_integer : Sp := sp1 (fun _ => True) fun _ => .bl true
def sp_is_between : Sp := sp3 (fun _ _ _ => True) fun n a b => .bl (decide (a ≤ n) && decide (n ≤ b))
def sp_check_integer : Sp := sp1 (fun _ => True) fun _ => .non
def sp_is_sign : Sp := sp1 (fun _ => True) fun n => .bl (isSign n)
def sp_check_sign : Sp := sp1 (fun n => isSign n = true) fun _ => .non
def sp_value_at_two : Sp := sp1 (fun _ => True) fun n => .int (valueTwo n)
def sp_value_at_odd : Sp := sp2 (fun _ b => 0 < b) fun t b => .int (valueOdd t b.toNat)
def sp_value_at : Sp := sp2 (fun s _ => s ≠ 0) fun s n => .int (valueAt s n)
def sp_sign_at : Sp := sp2 (fun s _ => isSign s = true) fun s n => .int (valueAt s n)
def sp_without_squares : Sp := sp1 (fun m => m ≠ 0 ∧ m.natAbs ≤ 160000) fun m => .int (without m)
def sp_any_sign_of : Sp := sp1 (fun m => m ≠ 0 ∧ m.natAbs ≤ 160000) fun m => .int (anySign m)
def sp_joined_sign : Sp := sp2 (fun a b => isSign a = true ∧ isSign b = true) fun a b => .int (anySign (a * b))

section
variable {P : Program} {w : World} {K : PySem.W.Frag} {mg : Str → Option Value} {base : Heap}
theorem ok_is_integer (D : Df K mg "is_integer" s_is_integer ["thing"]) (B : Bi mg)  : Cal P w K mg base 1 "is_integer" sp_is_integer := by
  obtain ⟨f, fd, F, m, b⟩ := D.ex
  have sc := sc_is_integer
  refine ⟨f, fd, _, F.ok sc sp1_len (fun cdv A outer s H vs Q E hr h => ?_), m, F.kp, b⟩
  obtain ⟨n, rfl, _, q⟩ := h
  have hu := hu_of hr
  refine ⟨_, (pss_one (ps_ret (pe_and (pe_callB call_isi (by rfl) B.isinstance (by decide +kernel) (pa_cons (pv 0) (pa_cons (pe_ty (n := "int") (by rfl) B.int_ (by decide +kernel)) pa_nil))) (pe_one (pe_not (pe_callB call_isi (by rfl) B.isinstance (by decide +kernel) (pa_cons (pv 0) (pa_cons (pe_ty (n := "bool") (by rfl) B.bool (by decide +kernel)) pa_nil)))))))), ?_⟩
  refine ⟨_, rfl, _, _, _, _, true, rfl, .ty _, .base (.int n), kit_int_int, true, rfl, iteT ?_⟩
  refine ⟨_, rfl, _, _, _, _, false, rfl, .ty _, .base (.int n), kit_int_bool, false, rfl, ?_⟩
  exact q
theorem ok_is_between (D : Df K mg "is_between" s_is_between ["thing", "least", "most"]) (c_is_integer : Cal P w K mg base 1 "is_integer" sp_is_integer) : Cal P w K mg base 2 "is_between" sp_is_between := by
  obtain ⟨f, fd, F, m, b⟩ := D.ex
  have sc := sc_is_between
  refine ⟨f, fd, _, F.ok sc sp3_len (fun cdv A outer s H vs Q E hr h => ?_), m, F.kp, b⟩
  obtain ⟨n, lo, hi, rfl, _, q⟩ := h
  have hu := hu_of hr
  refine ⟨_, (pss_one (ps_ret (pe_and (pe_c c_is_integer hr (by decide) (by rfl) (pa_cons (pv 0) pa_nil)) (pe_one (pe_chain op_le op_le (pv 1) (pv 0) (pv 2)))))), ?_⟩
  refine ⟨_, rfl, n, rfl, trivial, true, rfl, iteT ?_⟩
  refine ⟨_, rfl, _, rfl, lo, n, rfl, rfl, _, rfl, ?_⟩
  refine ifD (fun h => ?_) fun h => ?_
  · refine ⟨_, rfl, n, hi, rfl, rfl, ?_⟩
    simp only [decide_eq_true h, Bool.true_and] at q
    exact q
  · simp only [decide_eq_false h, Bool.false_and] at q
    exact q
theorem ok_value_at_two (D : Df K mg "value_at_two" s_value_at_two ["sign"]) : Cal P w K mg base 1 "value_at_two" sp_value_at_two := by
  obtain ⟨f, fd, F, m, b⟩ := D.ex
  have sc := sc_value_at_two
  refine ⟨f, fd, _, F.ok sc sp1_len (fun cdv A outer s H vs Q E hr h => ?_), m, F.kp, b⟩
  obtain ⟨n, rfl, _, q⟩ := h
  refine ⟨_, (pss_cons (ps_if (pt_cmpR op_eq (pe_op op_mod (pv 0) pe_int) pe_int (nomark _))
      (pss_one (ps_ret pe_int))
      pss_nil)
      (pss_one (ps_ret (pe_ifExp (pt_cmpR op_eq (pe_op op_mod (pv 0) pe_int) pe_int (nomark _)) pe_int (pe_un un_neg pe_int))))), ?_⟩
  replace q : Q (.int (valueTwo n)) H := q
  unfold valueTwo at q
  refine ⟨_, rfl, _, _, rfl, rfl, (by show (0 : Int) < 2; decide), rfl, _, rfl, ifI (fun e => ?_) fun e => ?_⟩
  · rw [if_pos e] at q; exact q
  · rw [if_neg e] at q
    refine ⟨_, rfl, _, _, rfl, rfl, (by show (0 : Int) < 8; decide), rfl, _, rfl, ifI (fun e2 => ?_) fun e2 => ?_⟩
    · rw [if_pos e2] at q; exact q
    · rw [if_neg e2] at q; exact ⟨_, rfl, q⟩
end
end Ft

namespace Ft
open PySem L2
theorem sg_not (v : Bool) : -(sg v) = sg (!v) := by cases v <;> decide
theorem sg_true : sg true = 1 := by decide
/-- the int in slot i, as a measure -/
def m0 (i : Nat) (σ : L2.St) : Nat := match σ[i]? with
  | some (some (.int z)) => z.toNat
  | _ => 0
theorem st3 {a b c a' b' c' : Int} (h1 : a = a') (h2 : b = b') (h3 : c = c') : [some (V.int a), some (V.int b), some (V.int c)] = [some (V.int a'), some (V.int b'), some (V.int c')] := by rw [h1, h2, h3]
theorem halve_go {b f t : Nat} {v : Bool} (h : t % 2 = 0) : halve b (f + 1) t v = halve b f (t / 2) (if b % 8 = 3 ∨ b % 8 = 5 then !v else v) := by
  show (if t % 2 = 0 then _ else _) = _
  rw [if_pos h]
theorem halve_stop {b f t : Nat} {v : Bool} (h : ¬ t % 2 = 0) : halve b f t v = (t, v) := by
  cases f with
  | zero => rfl
  | succ f => show (if t % 2 = 0 then _ else _) = _; rw [if_neg h]
theorem jac_stop {b f : Nat} {v : Bool} : jac f 0 b v = (b, v) := by
  cases f with
  | zero => rfl
  | succ f => show (if (0:Nat) = 0 then _ else _) = _; rw [if_pos rfl]
theorem jac_go {b f t t' : Nat} {v v' : Bool} (h : t ≠ 0) (e : halve b t t v = (t', v')) : jac (f + 1) t b v = jac f (b % t') t' (if t' % 4 = 3 ∧ b % 4 = 3 then !v' else v') := by
  show (if t = 0 then _ else _) = _
  rw [if_neg h]
  dsimp only
  rw [e]

section
variable {P : Program} {w : World} {K : PySem.W.Frag} {mg : Str → Option Value} {base : Heap}
theorem ok_value_at_odd (D : Df K mg "value_at_odd" s_value_at_odd ["top", "bottom"]) : Cal P w K mg base 1 "value_at_odd" sp_value_at_odd := by
  obtain ⟨f, fd, F, m, b⟩ := D.ex
  have sc := sc_value_at_odd
  refine ⟨f, fd, _, F.ok sc sp2_len (fun cdv A outer s H vs Q E hr h => ?_), m, F.kp, b⟩
  obtain ⟨t, b0, rfl, hb, q⟩ := h
  replace hb : 0 < b0 := hb
  replace q : Q (.int (valueOdd t b0.toNat)) H := q
  refine ⟨_, (pss_cons (ps_set (i := 2) sc.nd rfl (Or.inl rfl) pe_int)
      (pss_cons (ps_set (i := 0) sc.nd rfl (Or.inl rfl) (pe_op op_mod (pv 0) (pv 1)))
      (pss_cons (ps_while PassesOwn.never (pt_cmpR op_ne (pv 0) pe_int (nomark _))
      (pss_cons (ps_while PassesOwn.never (pt_cmpR op_eq (pe_op op_mod (pv 0) pe_int) pe_int (nomark _))
        (pss_cons (ps_set (i := 0) sc.nd rfl (Or.inl rfl) (pe_op op_fdivW (pv 0) pe_int))
          (pss_one (ps_if (PW.pt (pw_or (pt_cmpR op_eq (pe_op op_mod (pv 1) pe_int) pe_int (nomark _)) (pw_or1 (pt_cmpR op_eq (pe_op op_mod (pv 1) pe_int) pe_int (nomark _)))))
          (pss_one (ps_set (i := 2) sc.nd rfl (Or.inl rfl) (pe_un un_neg (pv 2))))
          pss_nil))))
        (pss_cons (ps_if (PW.pt (pw_and (pt_cmpR op_eq (pe_op op_mod (pv 0) pe_int) pe_int (nomark _)) (pw_and1 (pt_cmpR op_eq (pe_op op_mod (pv 1) pe_int) pe_int (nomark _)))))
        (pss_one (ps_set (i := 2) sc.nd rfl (Or.inl rfl) (pe_un un_neg (pv 2))))
        pss_nil)
        (pss_one (ps_par (i := 0) (j := 1) (by rfl) sc.nd rfl rfl (by decide) rfl rfl (pa_cons (pe_op op_mod (pv 1) (pv 0)) (pa_cons (pv 0) pa_nil)) (by rfl))))))
      (pss_one (ps_ret (pe_ifExp (pt_cmpR op_eq (pv 1) pe_int (nomark _)) (pv 2) pe_int)))))), ?_⟩
  obtain ⟨n0, rfl⟩ : ∃ n : Nat, b0 = n := ⟨b0.toNat, by omega⟩
  have hn : 0 < n0 := by omega
  have hm := Int.emod_nonneg t (b := (n0 : Int)) (by omega)
  have hl := Int.emod_lt_of_pos t hb
  obtain ⟨t0, ht0⟩ : ∃ n : Nat, t % (n0 : Int) = n := ⟨(t % (n0 : Int)).toNat, by omega⟩
  have qe : valueOdd t n0 = if (jac n0 t0 n0 true).1 = 1 then sg (jac n0 t0 n0 true).2 else 0 := by
    unfold valueOdd
    rw [ht0]
    rfl
  rw [Int.toNat_natCast, qe] at q
  refine ⟨_, rfl, _, rfl, _, _, rfl, rfl, hb, ?_⟩
  refine while_go (fun σ H' => H = H' ∧ ∃ (f tn bn : Nat) (v : Bool), σ = [some (.int (tn : Nat)), some (.int (bn : Nat)), some (.int (sg v))] ∧ 0 < bn ∧ tn ≤ f ∧ jac f tn bn v = jac n0 t0 n0 true) (fun σ _ => m0 0 σ)
    ⟨rfl, n0, t0, n0, true, st3 ht0 rfl rfl, hn, by omega, rfl⟩ ?_
  rintro σ _ ⟨rfl, f, tn, bn, v, rfl, hbn, hf, hj⟩
  refine ⟨_, rfl, rfl, _, rfl, ifNI (fun hne => ?_) fun he => ?_⟩
  · have htn : tn ≠ 0 := by omega
    obtain ⟨f', rfl⟩ : ∃ n, f = n + 1 := ⟨f - 1, by omega⟩
    refine ⟨fun σ' H' => H = H' ∧ ∃ (f tn' bn : Nat) (v : Bool), σ' = [some (.int (tn' : Nat)), some (.int (bn : Nat)), some (.int (sg v))] ∧ 0 < bn ∧ tn' ≤ f ∧ jac f tn' bn v = jac n0 t0 n0 true ∧ tn' < tn, ?_, ?_⟩
    · rintro σ' _ ⟨rfl, f2, tn', bn', v', rfl, h1, h2, h3, h4⟩
      exact ⟨_, (by show ((tn' : Int)).toNat < ((tn : Int)).toNat; omega), rfl, rfl, f2, tn', bn', v', rfl, h1, h2, h3⟩
    refine while_go (fun σ H' => H = H' ∧ ∃ (g tm : Nat) (u : Bool), σ = [some (.int (tm : Nat)), some (.int (bn : Nat)), some (.int (sg u))] ∧ 0 < tm ∧ tm ≤ g ∧ tm ≤ tn ∧ halve bn g tm u = halve bn tn tn v) (fun σ _ => m0 0 σ)
      ⟨rfl, tn, tn, v, rfl, by omega, Nat.le_refl _, Nat.le_refl _, rfl⟩ ?_
    rintro σ _ ⟨rfl, g, tm, u, rfl, h1, h2, h2b, h3⟩
    refine ⟨_, rfl, _, _, rfl, rfl, (by show (0 : Int) < 2; decide), rfl, _, rfl, ifI (fun e => ?_) fun e => ?_⟩
    · have e' : tm % 2 = 0 := by omega
      obtain ⟨g', rfl⟩ : ∃ n, g = n + 1 := ⟨g - 1, by omega⟩
      rw [halve_go e'] at h3
      refine ⟨fun σ' H' => H = H' ∧ ∃ (g tm' : Nat) (u : Bool), σ' = [some (.int (tm' : Nat)), some (.int (bn : Nat)), some (.int (sg u))] ∧ 0 < tm' ∧ tm' ≤ g ∧ tm' ≤ tn ∧ halve bn g tm' u = halve bn tn tn v ∧ tm' < tm, ?_, ?_⟩
      · rintro σ' _ ⟨rfl, f2, tn', v', rfl, h1, h2, h2b, h3, h4⟩
        exact ⟨_, (by show ((tn' : Int)).toNat < ((tm : Int)).toNat; omega), rfl, rfl, f2, tn', v', rfl, h1, h2, h2b, h3⟩
      refine ⟨_, rfl, _, _, rfl, rfl, ⟨by decide, by decide⟩, ?_⟩
      have ed : (tm : Int) / 2 = ((tm / 2 : Nat) : Int) := by omega
      refine ⟨_, rfl, _, _, rfl, rfl, (by show (0 : Int) < 8; decide), rfl, _, rfl, ifI (fun e3 => ?_) fun e3 => ?_⟩
      · have c : bn % 8 = 3 ∨ bn % 8 = 5 := by omega
        rw [if_pos c] at h3
        refine iteT ?_
        refine ⟨_, rfl, _, rfl, ?_⟩
        exact ⟨rfl, g', tm / 2, !u, st3 ed rfl (sg_not u), by omega, by omega, by omega, h3, by omega⟩
      · refine ⟨_, rfl, _, _, rfl, rfl, (by show (0 : Int) < 8; decide), rfl, _, rfl, ifI (fun e5 => ?_) fun e5 => ?_⟩
        · have c : bn % 8 = 3 ∨ bn % 8 = 5 := by omega
          rw [if_pos c] at h3
          refine ⟨_, rfl, _, rfl, ?_⟩
          exact ⟨rfl, g', tm / 2, !u, st3 ed rfl (sg_not u), by omega, by omega, by omega, h3, by omega⟩
        · have c : ¬ (bn % 8 = 3 ∨ bn % 8 = 5) := by omega
          rw [if_neg c] at h3
          exact ⟨rfl, g', tm / 2, u, st3 ed rfl rfl, by omega, by omega, by omega, h3, by omega⟩
    · have e' : ¬ tm % 2 = 0 := by omega
      rw [halve_stop e'] at h3
      have hg := jac_go (f := f') (b := bn) htn h3.symm
      rw [hj] at hg
      have hmod : bn % tm < tm := Nat.mod_lt _ h1
      have em : (bn : Int) % (tm : Int) = ((bn % tm : Nat) : Int) := by omega
      refine ⟨_, rfl, _, _, rfl, rfl, (by show (0 : Int) < 4; decide), rfl, _, rfl, ifI (fun e3 => ?_) fun e3 => ?_⟩
      · refine ⟨_, rfl, _, _, rfl, rfl, (by show (0 : Int) < 4; decide), rfl, _, rfl, ifI (fun e4 => ?_) fun e4 => ?_⟩
        · have c : tm % 4 = 3 ∧ bn % 4 = 3 := by omega
          rw [if_pos c] at hg
          refine ⟨_, rfl, _, rfl, ?_⟩
          refine ⟨_, rfl, _, rfl, _, _, rfl, rfl, (by show (0 : Int) < (tm : Int); omega), _, rfl, _, _, rfl, ?_⟩
          exact ⟨rfl, f', _, tm, !u, st3 em rfl (sg_not u), h1, by omega, hg.symm, by omega⟩
        · have c : ¬ (tm % 4 = 3 ∧ bn % 4 = 3) := by omega
          rw [if_neg c] at hg
          refine ⟨_, rfl, _, rfl, _, _, rfl, rfl, (by show (0 : Int) < (tm : Int); omega), _, rfl, _, _, rfl, ?_⟩
          exact ⟨rfl, f', _, tm, u, st3 em rfl rfl, h1, by omega, hg.symm, by omega⟩
      · have c : ¬ (tm % 4 = 3 ∧ bn % 4 = 3) := by omega
        rw [if_neg c] at hg
        refine iteF ?_
        refine ⟨_, rfl, _, rfl, _, _, rfl, rfl, (by show (0 : Int) < (tm : Int); omega), _, rfl, _, _, rfl, ?_⟩
        exact ⟨rfl, f', _, tm, u, st3 em rfl rfl, h1, by omega, hg.symm, by omega⟩
  · have htn : tn = 0 := by omega
    subst htn
    rw [jac_stop] at hj
    rw [← hj] at q
    dsimp only at q
    refine ⟨_, rfl, rfl, _, rfl, ifI (fun e => ?_) fun e => ?_⟩
    · rw [if_pos (by omega)] at q
      exact ⟨_, rfl, q⟩
    · rw [if_neg (by omega)] at q
      exact q
end
end Ft

namespace Ft
open PySem L2
theorem st4 {a b c d a' b' c' d' : Int} (h1 : a = a') (h2 : b = b') (h3 : c = c') (h4 : d = d') : [some (V.int a), some (V.int b), some (V.int c), some (V.int d)] = [some (V.int a'), some (V.int b'), some (V.int c'), some (V.int d')] := by rw [h1, h2, h3, h4]
theorem cdivN {i : Int} {n : Nat} (h0 : 0 < n) (h : n < 2 ^ 64) : CDivW i (n : Int) := wide_div (b := 64) (by omega) (by omega) (by decide) (by decide)
theorem cmulL {i : Int} {n : Nat} (h : n < 2 ^ 64) : CMul (n : Int) i := .inl ⟨by omega, by omega⟩
theorem cmulR {i : Int} {n : Nat} (h : n < 2 ^ 64) : CMul i (n : Int) := .inr ⟨by omega, by omega⟩
theorem twos_go {z : Int} {f r : Nat} {v : Int} (h : r % 2 = 0) : twos z (f + 1) r v = twos z f (r / 2) (v * z) := by
  show (if r % 2 = 0 then _ else _) = _
  rw [if_pos h]
theorem twos_stop {z : Int} {f r : Nat} {v : Int} (h : ¬ r % 2 = 0) : twos z f r v = (r, v) := by
  cases f with
  | zero => rfl
  | succ f => show (if r % 2 = 0 then _ else _) = _; rw [if_neg h]
theorem valueTwo_le (s : Int) : -1 ≤ valueTwo s ∧ valueTwo s ≤ 1 := by
  unfold valueTwo
  split
  · omega
  · split <;> omega
theorem sqs_go {p f r : Nat} (h : r % (p * p) = 0) : sqs p (f + 1) r = sqs p f (r / (p * p)) := by
  show (if r % (p * p) = 0 then _ else _) = _
  rw [if_pos h]
theorem sqs_stop {p f r : Nat} (h : ¬ r % (p * p) = 0) : sqs p f r = r := by
  cases f with
  | zero => rfl
  | succ f => show (if r % (p * p) = 0 then _ else _) = _; rw [if_neg h]
theorem wsq_stop {f r p : Nat} {b : Int} (h : ¬ p * p * p ≤ r) : wsq f r b p = (r, b) := by
  cases f with
  | zero => rfl
  | succ f => show (if p * p * p ≤ r then _ else _) = _; rw [if_neg h]
theorem wsq_go1 {f r p r1 : Nat} {b : Int} (h : p * p * p ≤ r) (e : sqs p r r = r1) (h1 : r1 % p = 0) : wsq (f + 1) r b p = wsq f (r1 / p) (b * p) (p + 1) := by
  show (if p * p * p ≤ r then _ else _) = _
  rw [if_pos h]
  dsimp only
  rw [e, if_pos h1]
theorem wsq_go2 {f r p r1 : Nat} {b : Int} (h : p * p * p ≤ r) (e : sqs p r r = r1) (h1 : ¬ r1 % p = 0) : wsq (f + 1) r b p = wsq f r1 b (p + 1) := by
  show (if p * p * p ≤ r then _ else _) = _
  rw [if_pos h]
  dsimp only
  rw [e, if_neg h1]
theorem cube_le {p r : Nat} (h : p * p * p ≤ r) (hp : 2 ≤ p) : p < r := by
  have h1 : 2 * p ≤ p * p := Nat.mul_le_mul_right p hp
  have h2 : p * p * 2 ≤ p * p * p := Nat.mul_le_mul_left (p * p) hp
  omega
theorem div_small {r q : Nat} (h : r % q = 0) (hr : 0 < r) (hq : 2 ≤ q) : 0 < r / q ∧ r / q < r := by
  refine ⟨?_, Nat.div_lt_self hr hq⟩
  have e := Nat.div_add_mod r q
  rw [h, Nat.add_zero] at e
  refine Nat.pos_of_ne_zero fun z => ?_
  rw [z, Nat.mul_zero] at e
  omega
theorem sq_small {p : Nat} (h : p ≤ 160001) : p * p < 2 ^ 64 := Nat.lt_of_le_of_lt (Nat.mul_le_mul h h) (by decide)
theorem isqrt_le (n : Nat) : Float64.isqrt n ≤ n := by
  have h := (Float64.isqrt_spec n).1
  rcases Nat.eq_zero_or_pos (Float64.isqrt n) with z | z
  · omega
  · exact Nat.le_trans (Nat.le_mul_of_pos_left _ z) h

section
variable {P : Program} {w : World} {K : PySem.W.Frag} {mg : Str → Option Value} {base : Heap}
theorem ok_value_at (D : Df K mg "value_at" s_value_at ["sign", "n"]) (B : Bi mg) (c_value_at_two : Cal P w K mg base 1 "value_at_two" sp_value_at_two) (c_value_at_odd : Cal P w K mg base 1 "value_at_odd" sp_value_at_odd) : Cal P w K mg base 2 "value_at" sp_value_at := by
  obtain ⟨f, fd, F, m, b⟩ := D.ex
  have sc := sc_value_at
  refine ⟨f, fd, _, F.ok sc sp2_len (fun cdv A outer s H vs Q E hr h => ?_), m, F.kp, b⟩
  obtain ⟨z, n, rfl, hz, q⟩ := h
  replace q : Q (.int (valueAt z n)) H := q
  replace hz : z ≠ 0 := hz
  refine ⟨_, (pss_cons (ps_set (i := 2) sc.nd rfl (Or.inl rfl) (pe_op op_mod (pv 1) (pe_callB call_abs (by rfl) B.abs (by decide +kernel) (pa_cons (pv 0) pa_nil))))
      (pss_cons (ps_if (pt_cmpR op_eq (pv 2) pe_int (nomark _))
      (pss_one (ps_ret (pe_ifExp (pt_cmpR op_eq (pv 0) pe_int (nomark _)) pe_int pe_int)))
      pss_nil)
      (pss_cons (ps_set (i := 3) sc.nd rfl (Or.inl rfl) pe_int)
      (pss_cons (ps_while PassesOwn.never (pt_cmpR op_eq (pe_op op_mod (pv 2) pe_int) pe_int (nomark _))
      (pss_cons (ps_set (i := 2) sc.nd rfl (Or.inl rfl) (pe_op op_fdivW (pv 2) pe_int))
        (pss_one (ps_set (i := 3) sc.nd rfl (Or.inl rfl) (pe_op op_mul (pv 3) (pe_c c_value_at_two hr (by decide) (by rfl) (pa_cons (pv 0) pa_nil)))))))
      (pss_one (ps_ret (pe_op op_mul (pv 3) (pe_c c_value_at_odd hr (by decide) (by rfl) (pa_cons (pv 0) (pa_cons (pv 2) pa_nil)))))))))), ?_⟩
  have ea : (if z < 0 then -z else z) = (z.natAbs : Int) := by split <;> omega
  have hp : (0 : Int) < (z.natAbs : Int) := by omega
  have hm := Int.emod_nonneg n (b := (z.natAbs : Int)) (by omega)
  obtain ⟨r, hrr⟩ : ∃ r : Nat, n % (z.natAbs : Int) = r := ⟨(n % (z.natAbs : Int)).toNat, by omega⟩
  unfold valueAt at q
  rw [hrr, Int.toNat_natCast] at q
  unfold valueRest at q
  refine ⟨_, rfl, _, rfl, z, rfl, n, _, rfl, rfl, (by show 0 < (if z < 0 then -z else z); rw [ea]; exact hp), ?_⟩
  have es : n % (if z < 0 then -z else z) = (r : Int) := by rw [ea]; exact hrr
  refine ⟨_, rfl, rfl, _, rfl, ifI (fun e => ?_) fun e => ?_⟩
  · have r0 : r = 0 := by rw [es] at e; omega
    rw [if_pos r0] at q
    refine ⟨_, rfl, rfl, _, rfl, ifI (fun e2 => ?_) fun e2 => ?_⟩
    · rw [if_pos e2] at q; exact q
    · rw [if_neg e2] at q; exact q
  · have r0 : r ≠ 0 := by rw [es] at e; omega
    rw [if_neg r0] at q
    dsimp only at q
    refine while_go (fun σ H' => H = H' ∧ ∃ (g t : Nat) (v : Int), σ = [some (.int z), some (.int n), some (.int (t : Nat)), some (.int v)] ∧ 0 < t ∧ t ≤ g ∧ -1 ≤ v ∧ v ≤ 1 ∧ twos (valueTwo z) g t v = twos (valueTwo z) r r 1) (fun σ _ => m0 2 σ)
      ⟨rfl, r, r, 1, st4 rfl rfl es rfl, by omega, Nat.le_refl _, by decide, by decide, rfl⟩ ?_
    rintro σ _ ⟨rfl, g, t, v, rfl, h1, h2, h3, h4, h5⟩
    refine ⟨_, rfl, _, _, rfl, rfl, (by show (0 : Int) < 2; decide), rfl, _, rfl, ifI (fun e => ?_) fun e => ?_⟩
    · have e' : t % 2 = 0 := by omega
      obtain ⟨g', rfl⟩ : ∃ n, g = n + 1 := ⟨g - 1, by omega⟩
      rw [twos_go e'] at h5
      refine ⟨fun σ' H' => H = H' ∧ ∃ (g t' : Nat) (v : Int), σ' = [some (.int z), some (.int n), some (.int (t' : Nat)), some (.int v)] ∧ 0 < t' ∧ t' ≤ g ∧ -1 ≤ v ∧ v ≤ 1 ∧ twos (valueTwo z) g t' v = twos (valueTwo z) r r 1 ∧ t' < t, ?_, ?_⟩
      · rintro σ' _ ⟨rfl, g2, t', v', rfl, k1, k2, k3, k4, k5, k6⟩
        exact ⟨_, (by show ((t' : Int)).toNat < ((t : Int)).toNat; omega), rfl, rfl, g2, t', v', rfl, k1, k2, k3, k4, k5⟩
      refine ⟨_, rfl, _, _, rfl, rfl, ⟨by decide, by decide⟩, ?_⟩
      have vt := valueTwo_le z
      have hv : -1 ≤ v * valueTwo z ∧ v * valueTwo z ≤ 1 := by
        obtain h | h | h : v = -1 ∨ v = 0 ∨ v = 1 := by omega
        all_goals (rw [h]; omega)
      refine ⟨_, rfl, _, rfl, z, rfl, trivial, _, _, rfl, rfl, .inl ⟨by omega, by omega⟩, ?_⟩
      exact ⟨rfl, g', t / 2, _, rfl, by omega, by omega, hv.1, hv.2, h5, by omega⟩
    · rw [twos_stop (by omega)] at h5
      rw [← h5] at q
      dsimp only at q
      refine ⟨_, rfl, _, rfl, _, rfl, z, _, rfl, (by show (0 : Int) < (t : Int); omega), _, _, rfl, rfl, .inl ⟨by omega, by omega⟩, ?_⟩
      exact q
theorem ok_without_squares (D : Df K mg "without_squares" s_without_squares ["m"]) (B : Bi mg)  : Cal P w K mg base 1 "without_squares" sp_without_squares := by
  obtain ⟨f, fd, F, m, b⟩ := D.ex
  have sc := sc_without_squares
  refine ⟨f, fd, _, F.ok sc sp1_len (fun cdv A outer s H vs Q E hr h => ?_), m, F.kp, b⟩
  obtain ⟨z, rfl, ⟨hz, hz2⟩, q⟩ := h
  replace q : Q (.int (without z)) H := q
  refine ⟨_, (pss_cons (ps_set (i := 1) sc.nd rfl (Or.inl rfl) (pe_callB call_abs (by rfl) B.abs (by decide +kernel) (pa_cons (pv 0) pa_nil)))
      (pss_cons (ps_set (i := 2) sc.nd rfl (Or.inl rfl) (pe_ifExp (pt_cmpR op_gt (pv 0) pe_int (nomark _)) pe_int (pe_un un_neg pe_int)))
      (pss_cons (ps_set (i := 3) sc.nd rfl (Or.inl rfl) pe_int)
      (pss_cons (ps_while PassesOwn.never (pt_cmpR op_le (pe_op op_mul (pe_op op_mul (pv 3) (pv 3)) (pv 3)) (pv 1) (nomark _))
      (pss_cons (ps_while PassesOwn.never (pt_cmpR op_eq (pe_op op_mod (pv 1) (pe_op op_mul (pv 3) (pv 3))) pe_int (nomark _))
        (pss_one (ps_set (i := 1) sc.nd rfl (Or.inl rfl) (pe_op op_fdivW (pv 1) (pe_op op_mul (pv 3) (pv 3))))))
        (pss_cons (ps_if (pt_cmpR op_eq (pe_op op_mod (pv 1) (pv 3)) pe_int (nomark _))
        (pss_cons (ps_set (i := 1) sc.nd rfl (Or.inl rfl) (pe_op op_fdivW (pv 1) (pv 3)))
          (pss_one (ps_set (i := 2) sc.nd rfl (Or.inl rfl) (pe_op op_mul (pv 2) (pv 3)))))
        pss_nil)
        (pss_one (ps_aug (i := 3) sc.nd rfl (Or.inl rfl) pe_int ip_add)))))
      (pss_cons (ps_set (i := 4) sc.nd rfl (Or.inl rfl) (pe_callBfun cr_isqrt (by rfl) B.isqrt (pa_cons (pv 1) pa_nil)))
      (pss_one (ps_ret (pe_ifExp (pt_cmpR op_eq (pe_op op_mul (pv 4) (pv 4)) (pv 1) (nomark _)) (pv 2) (pe_op op_mul (pv 2) (pv 1)))))))))), ?_⟩
  have ea : (if z < 0 then -z else z) = (z.natAbs : Int) := by split <;> omega
  have st5 : ∀ {b2 c2 d2 b' c' d' : Int} {x : Option V}, b2 = b' → c2 = c' → d2 = d' → [some (V.int z), some (V.int b2), some (V.int c2), some (V.int d2), x] = [some (V.int z), some (V.int b'), some (V.int c'), some (V.int d'), x] := fun h1 h2 h3 => by rw [h1, h2, h3]
  have st5r : ∀ {b2 c2 d2 b' : Int} {x : Option V}, b2 = b' → [some (V.int z), some (V.int b2), some (V.int c2), some (V.int d2), x] = [some (V.int z), some (V.int b'), some (V.int c2), some (V.int d2), x] := fun h1 => by rw [h1]
  unfold without at q
  refine ⟨_, rfl, z, rfl, ?_⟩
  refine ⟨_, rfl, _, _, rfl, rfl, _, rfl, ifD (fun e => ?_) fun e => ⟨_, rfl, ?_⟩⟩
  · rw [if_pos e] at q
    generalize hR : wsq z.natAbs z.natAbs 1 2 = R at q
    dsimp only at q
    refine while_go (fun σ H' => H = H' ∧ ∃ (f r p : Nat) (b : Int), σ = [some (.int z), some (.int (r : Nat)), some (.int b), some (.int (p : Nat)), none] ∧ 0 < r ∧ r ≤ 160000 ∧ 2 ≤ p ∧ p ≤ 160001 ∧ r < f + p ∧ wsq f r b p = R) (fun σ _ => m0 1 σ + 160002 - m0 3 σ)
      ⟨rfl, z.natAbs, z.natAbs, 2, _, st5 ea rfl rfl, by omega, by omega, by decide, by decide, by omega, hR⟩ ?_
    rintro σ _ ⟨rfl, f, r, p, b, rfl, r0, r1, p2, p3, hf, hw⟩
    have hpp := sq_small p3
    have hpl : p < 2 ^ 64 := by omega
    refine ⟨_, rfl, _, rfl, _, _, rfl, rfl, cmulL hpl, _, rfl, _, _, rfl, rfl, cmulR hpl, _, rfl, _, _, rfl, rfl, _, rfl, ifD (fun e => ?_) fun e => ?_⟩
    · have e' : p * p * p ≤ r := Int.ofNat_le.mp e
      have pr := cube_le e' p2
      have pp0 : 0 < p * p := Nat.mul_pos (by omega) (by omega)
      have pp2 : 2 ≤ p * p := Nat.le_trans p2 (Nat.le_mul_of_pos_left _ (by omega))
      obtain ⟨f', rfl⟩ : ∃ n, f = n + 1 := ⟨f - 1, by omega⟩
      refine ⟨fun σ' H' => H = H' ∧ ∃ (f r' p' : Nat) (b : Int), σ' = [some (.int z), some (.int (r' : Nat)), some (.int b), some (.int (p' : Nat)), none] ∧ 0 < r' ∧ r' ≤ 160000 ∧ 2 ≤ p' ∧ p' ≤ 160001 ∧ r' < f + p' ∧ wsq f r' b p' = R ∧ r' ≤ r ∧ p' = p + 1, ?_, ?_⟩
      · rintro σ' _ ⟨rfl, f2, r', p', b', rfl, k1, k2, k3, k4, k5, k6, k7, k8⟩
        exact ⟨_, (by show ((r' : Int)).toNat + 160002 - ((p' : Int)).toNat < ((r : Int)).toNat + 160002 - ((p : Int)).toNat; omega), rfl, rfl, f2, r', p', b', rfl, k1, k2, k3, k4, k5, k6⟩
      refine while_go (fun σ H' => H = H' ∧ ∃ (g t : Nat), σ = [some (.int z), some (.int (t : Nat)), some (.int b), some (.int (p : Nat)), none] ∧ 0 < t ∧ t ≤ g ∧ t ≤ r ∧ sqs p g t = sqs p r r) (fun σ _ => m0 1 σ)
        ⟨rfl, r, r, rfl, r0, Nat.le_refl _, Nat.le_refl _, rfl⟩ ?_
      rintro σ _ ⟨rfl, g, t, rfl, h1, h2, h3, h4⟩
      refine ⟨_, rfl, _, rfl, _, rfl, _, _, rfl, rfl, cmulL hpl, _, _, rfl, rfl, (by show (0 : Int) < ((p * p : Nat) : Int); omega), rfl, _, rfl, ifI (fun em => ?_) fun em => ?_⟩
      · have em' : t % (p * p) = 0 := Int.ofNat.inj em
        obtain ⟨g', rfl⟩ : ∃ n, g = n + 1 := ⟨g - 1, by omega⟩
        rw [sqs_go em'] at h4
        have ds := div_small em' h1 pp2
        refine ⟨fun σ' H' => H = H' ∧ ∃ (g t' : Nat), σ' = [some (.int z), some (.int (t' : Nat)), some (.int b), some (.int (p : Nat)), none] ∧ 0 < t' ∧ t' ≤ g ∧ t' ≤ r ∧ sqs p g t' = sqs p r r ∧ t' < t, ?_, ?_⟩
        · rintro σ' _ ⟨rfl, g2, t', rfl, k1, k2, k3, k4, k5⟩
          exact ⟨_, (by show ((t' : Int)).toNat < ((t : Int)).toNat; omega), rfl, rfl, g2, t', rfl, k1, k2, k3, k4⟩
        refine ⟨_, rfl, _, rfl, _, rfl, _, _, rfl, rfl, cmulL hpl, _, _, rfl, rfl, cdivN pp0 hpp, ?_⟩
        exact ⟨rfl, g', t / (p * p), rfl, ds.1, by omega, by omega, h4, ds.2⟩
      · have em' : ¬ t % (p * p) = 0 := fun z => em (congrArg Int.ofNat z)
        rw [sqs_stop em'] at h4
        refine ⟨_, rfl, _, rfl, _, _, rfl, rfl, (by show (0 : Int) < (p : Int); omega), rfl, _, rfl, ifI (fun ep => ?_) fun ep => ?_⟩
        · have ep' : t % p = 0 := Int.ofNat.inj ep
          have hg := wsq_go1 (f := f') (b := b) e' h4.symm ep'
          rw [hw] at hg
          have ds := div_small ep' h1 p2
          refine ⟨_, rfl, _, rfl, _, _, rfl, rfl, cdivN (by omega) hpl, ?_⟩
          refine ⟨_, rfl, _, rfl, _, _, rfl, rfl, cmulR hpl, ?_⟩
          refine ⟨_, rfl, _, _, rfl, rfl, ?_⟩
          exact ⟨rfl, f', t / p, p + 1, b * p, rfl, ds.1, by omega, by omega, by omega, by omega, hg.symm, by omega, rfl⟩
        · have ep' : ¬ t % p = 0 := fun z => ep (congrArg Int.ofNat z)
          have hg := wsq_go2 (f := f') (b := b) e' h4.symm ep'
          rw [hw] at hg
          refine ⟨_, rfl, _, _, rfl, rfl, ?_⟩
          exact ⟨rfl, f', t, p + 1, b, rfl, h1, by omega, by omega, by omega, by omega, hg.symm, by omega, rfl⟩
    · have e' : ¬ p * p * p ≤ r := fun z => e (Int.ofNat_le.mpr z)
      rw [wsq_stop e'] at hw
      subst hw
      dsimp only at q
      have hi := isqrt_le r
      refine ⟨_, rfl, _, rfl, by omega, by omega, ?_⟩
      refine ⟨_, rfl, _, rfl, _, _, rfl, rfl, cmulL (n := Float64.isqrt r) (by omega), _, rfl, rfl, _, rfl, ifI (fun er => ?_) fun er => ?_⟩
      · rw [if_pos (show Float64.isqrt r * Float64.isqrt r = r from Int.ofNat.inj er)] at q
        exact ⟨_, rfl, q⟩
      · rw [if_neg (show ¬ Float64.isqrt r * Float64.isqrt r = r from fun z => er (congrArg Int.ofNat z))] at q
        exact ⟨_, rfl, _, rfl, _, _, rfl, rfl, cmulR (by omega), q⟩
  · rw [if_neg e] at q
    generalize hR : wsq z.natAbs z.natAbs (-1) 2 = R at q
    dsimp only at q
    refine while_go (fun σ H' => H = H' ∧ ∃ (f r p : Nat) (b : Int), σ = [some (.int z), some (.int (r : Nat)), some (.int b), some (.int (p : Nat)), none] ∧ 0 < r ∧ r ≤ 160000 ∧ 2 ≤ p ∧ p ≤ 160001 ∧ r < f + p ∧ wsq f r b p = R) (fun σ _ => m0 1 σ + 160002 - m0 3 σ)
      ⟨rfl, z.natAbs, z.natAbs, 2, _, st5 ea rfl rfl, by omega, by omega, by decide, by decide, by omega, hR⟩ ?_
    rintro σ _ ⟨rfl, f, r, p, b, rfl, r0, r1, p2, p3, hf, hw⟩
    have hpp := sq_small p3
    have hpl : p < 2 ^ 64 := by omega
    refine ⟨_, rfl, _, rfl, _, _, rfl, rfl, cmulL hpl, _, rfl, _, _, rfl, rfl, cmulR hpl, _, rfl, _, _, rfl, rfl, _, rfl, ifD (fun e => ?_) fun e => ?_⟩
    · have e' : p * p * p ≤ r := Int.ofNat_le.mp e
      have pr := cube_le e' p2
      have pp0 : 0 < p * p := Nat.mul_pos (by omega) (by omega)
      have pp2 : 2 ≤ p * p := Nat.le_trans p2 (Nat.le_mul_of_pos_left _ (by omega))
      obtain ⟨f', rfl⟩ : ∃ n, f = n + 1 := ⟨f - 1, by omega⟩
      refine ⟨fun σ' H' => H = H' ∧ ∃ (f r' p' : Nat) (b : Int), σ' = [some (.int z), some (.int (r' : Nat)), some (.int b), some (.int (p' : Nat)), none] ∧ 0 < r' ∧ r' ≤ 160000 ∧ 2 ≤ p' ∧ p' ≤ 160001 ∧ r' < f + p' ∧ wsq f r' b p' = R ∧ r' ≤ r ∧ p' = p + 1, ?_, ?_⟩
      · rintro σ' _ ⟨rfl, f2, r', p', b', rfl, k1, k2, k3, k4, k5, k6, k7, k8⟩
        exact ⟨_, (by show ((r' : Int)).toNat + 160002 - ((p' : Int)).toNat < ((r : Int)).toNat + 160002 - ((p : Int)).toNat; omega), rfl, rfl, f2, r', p', b', rfl, k1, k2, k3, k4, k5, k6⟩
      refine while_go (fun σ H' => H = H' ∧ ∃ (g t : Nat), σ = [some (.int z), some (.int (t : Nat)), some (.int b), some (.int (p : Nat)), none] ∧ 0 < t ∧ t ≤ g ∧ t ≤ r ∧ sqs p g t = sqs p r r) (fun σ _ => m0 1 σ)
        ⟨rfl, r, r, rfl, r0, Nat.le_refl _, Nat.le_refl _, rfl⟩ ?_
      rintro σ _ ⟨rfl, g, t, rfl, h1, h2, h3, h4⟩
      refine ⟨_, rfl, _, rfl, _, rfl, _, _, rfl, rfl, cmulL hpl, _, _, rfl, rfl, (by show (0 : Int) < ((p * p : Nat) : Int); omega), rfl, _, rfl, ifI (fun em => ?_) fun em => ?_⟩
      · have em' : t % (p * p) = 0 := Int.ofNat.inj em
        obtain ⟨g', rfl⟩ : ∃ n, g = n + 1 := ⟨g - 1, by omega⟩
        rw [sqs_go em'] at h4
        have ds := div_small em' h1 pp2
        refine ⟨fun σ' H' => H = H' ∧ ∃ (g t' : Nat), σ' = [some (.int z), some (.int (t' : Nat)), some (.int b), some (.int (p : Nat)), none] ∧ 0 < t' ∧ t' ≤ g ∧ t' ≤ r ∧ sqs p g t' = sqs p r r ∧ t' < t, ?_, ?_⟩
        · rintro σ' _ ⟨rfl, g2, t', rfl, k1, k2, k3, k4, k5⟩
          exact ⟨_, (by show ((t' : Int)).toNat < ((t : Int)).toNat; omega), rfl, rfl, g2, t', rfl, k1, k2, k3, k4⟩
        refine ⟨_, rfl, _, rfl, _, rfl, _, _, rfl, rfl, cmulL hpl, _, _, rfl, rfl, cdivN pp0 hpp, ?_⟩
        exact ⟨rfl, g', t / (p * p), rfl, ds.1, by omega, by omega, h4, ds.2⟩
      · have em' : ¬ t % (p * p) = 0 := fun z => em (congrArg Int.ofNat z)
        rw [sqs_stop em'] at h4
        refine ⟨_, rfl, _, rfl, _, _, rfl, rfl, (by show (0 : Int) < (p : Int); omega), rfl, _, rfl, ifI (fun ep => ?_) fun ep => ?_⟩
        · have ep' : t % p = 0 := Int.ofNat.inj ep
          have hg := wsq_go1 (f := f') (b := b) e' h4.symm ep'
          rw [hw] at hg
          have ds := div_small ep' h1 p2
          refine ⟨_, rfl, _, rfl, _, _, rfl, rfl, cdivN (by omega) hpl, ?_⟩
          refine ⟨_, rfl, _, rfl, _, _, rfl, rfl, cmulR hpl, ?_⟩
          refine ⟨_, rfl, _, _, rfl, rfl, ?_⟩
          exact ⟨rfl, f', t / p, p + 1, b * p, rfl, ds.1, by omega, by omega, by omega, by omega, hg.symm, by omega, rfl⟩
        · have ep' : ¬ t % p = 0 := fun z => ep (congrArg Int.ofNat z)
          have hg := wsq_go2 (f := f') (b := b) e' h4.symm ep'
          rw [hw] at hg
          refine ⟨_, rfl, _, _, rfl, rfl, ?_⟩
          exact ⟨rfl, f', t, p + 1, b, rfl, h1, by omega, by omega, by omega, by omega, hg.symm, by omega, rfl⟩
    · have e' : ¬ p * p * p ≤ r := fun z => e (Int.ofNat_le.mpr z)
      rw [wsq_stop e'] at hw
      subst hw
      dsimp only at q
      have hi := isqrt_le r
      refine ⟨_, rfl, _, rfl, by omega, by omega, ?_⟩
      refine ⟨_, rfl, _, rfl, _, _, rfl, rfl, cmulL (n := Float64.isqrt r) (by omega), _, rfl, rfl, _, rfl, ifI (fun er => ?_) fun er => ?_⟩
      · rw [if_pos (show Float64.isqrt r * Float64.isqrt r = r from Int.ofNat.inj er)] at q
        exact ⟨_, rfl, q⟩
      · rw [if_neg (show ¬ Float64.isqrt r * Float64.isqrt r = r from fun z => er (congrArg Int.ofNat z))] at q
        exact ⟨_, rfl, _, rfl, _, _, rfl, rfl, cmulR (by omega), q⟩
theorem ok_any_sign_of (D : Df K mg "any_sign_of" s_any_sign_of ["m"]) (c_without_squares : Cal P w K mg base 1 "without_squares" sp_without_squares) : Cal P w K mg base 2 "any_sign_of" sp_any_sign_of := by
  obtain ⟨f, fd, F, m, b⟩ := D.ex
  have sc := sc_any_sign_of
  refine ⟨f, fd, _, F.ok sc sp1_len (fun cdv A outer s H vs Q E hr h => ?_), m, F.kp, b⟩
  obtain ⟨z, rfl, hz, q⟩ := h
  replace q : Q (.int (anySign z)) H := q
  refine ⟨_, (pss_cons (ps_set (i := 1) sc.nd rfl (Or.inl rfl) (pe_c c_without_squares hr (by decide) (by rfl) (pa_cons (pv 0) pa_nil)))
      (pss_one (ps_ret (pe_ifExp (pt_cmpR op_eq (pe_op op_mod (pv 1) pe_int) pe_int (nomark _)) (pv 1) (pe_op op_mul pe_int (pv 1)))))), ?_⟩
  unfold anySign at q
  refine ⟨_, rfl, z, rfl, hz, ?_⟩
  refine ⟨_, rfl, _, _, rfl, rfl, (by show (0 : Int) < 4; decide), rfl, _, rfl, ifI (fun e => ?_) fun e => ?_⟩
  · rw [if_pos e] at q; exact ⟨_, rfl, q⟩
  · rw [if_neg e] at q; exact ⟨_, rfl, _, _, rfl, rfl, .inl ⟨by decide, by decide⟩, q⟩
theorem ok_is_sign (D : Df K mg "is_sign" s_is_sign ["thing"]) (c_any_sign_of : Cal P w K mg base 2 "any_sign_of" sp_any_sign_of) (c_is_between : Cal P w K mg base 2 "is_between" sp_is_between) : Cal P w K mg base 3 "is_sign" sp_is_sign := by
  obtain ⟨f, fd, F, m, b⟩ := D.ex
  have sc := sc_is_sign
  refine ⟨f, fd, _, F.ok sc sp1_len (fun cdv A outer s H vs Q E hr h => ?_), m, F.kp, b⟩
  obtain ⟨z, rfl, _, q⟩ := h
  replace q : Q (.bl (isSign z)) H := q
  refine ⟨_, (pss_one (ps_ret (pe_and (pe_c c_is_between hr (by decide) (by rfl) (pa_cons (pv 0) (pa_cons (pe_un un_neg pe_int) (pa_cons pe_int pa_nil)))) (pe_and (pe_cmpR op_ne (pv 0) pe_int (nomark _)) (pe_one (pe_cmpR op_eq (pe_c c_any_sign_of hr (by decide) (by rfl) (pa_cons (pv 0) pa_nil)) (pv 0) (nomark _))))))), ?_⟩
  unfold isSign at q
  refine ⟨_, rfl, _, rfl, z, -400, 400, rfl, trivial, _, rfl, ?_⟩
  cases e1 : decide (-400 ≤ z)
  · rw [e1] at q; exact iteF q
  · cases e2 : decide (z ≤ 400)
    · rw [e1, e2] at q; exact iteF q
    · rw [e1, e2] at q
      refine iteT ?_
      refine ⟨_, rfl, rfl, _, rfl, ifNI (fun e => ?_) fun e => ?_⟩
      · rw [decide_eq_true e] at q
        have k1 := of_decide_eq_true e1
        have k2 := of_decide_eq_true e2
        refine ⟨_, rfl, z, rfl, ⟨e, by omega⟩, _, rfl, rfl, ?_⟩
        have ee : decide (V.int (anySign z) = V.int z) = decide (anySign z = z) := by
          by_cases h : anySign z = z
          · rw [decide_eq_true h, h]; exact decide_eq_true rfl
          · rw [decide_eq_false h]; exact decide_eq_false fun k => h (V.int.inj k)
        show Q (.bl (decide (V.int (anySign z) = V.int z))) H
        rw [ee]
        exact q
      · rw [show decide (z ≠ 0) = false from decide_eq_false fun k => k e] at q
        exact q
theorem ok_check_sign (D : Df K mg "check_sign" s_check_sign ["sign"]) (c_is_sign : Cal P w K mg base 3 "is_sign" sp_is_sign) : Cal P w K mg base 4 "check_sign" sp_check_sign := by
  obtain ⟨f, fd, F, m, b⟩ := D.ex
  have sc := sc_check_sign
  refine ⟨f, fd, _, F.ok sc sp1_len (fun cdv A outer s H vs Q E hr h => ?_), m, F.kp, b⟩
  obtain ⟨z, rfl, hs, q⟩ := h
  refine ⟨_, (pss_one (ps_if (pt_not (pt_val (pe_c c_is_sign hr (by decide) (by rfl) (pa_cons (pv 0) pa_nil))))
      (pss_one ps_never)
      pss_nil)), ?_⟩
  refine ⟨_, rfl, z, rfl, trivial, _, rfl, ?_⟩
  rw [show isSign z = true from hs]
  exact iteF q
theorem isSign_le {z : Int} (h : isSign z = true) : z.natAbs ≤ 400 ∧ z ≠ 0 ∧ anySign z = z := by
  unfold isSign at h
  simp only [Bool.and_eq_true, decide_eq_true_eq] at h
  omega
theorem mul_le_160000 {a b : Int} (ha : a.natAbs ≤ 400) (hb : b.natAbs ≤ 400) : (a * b).natAbs ≤ 160000 := by
  rw [Int.natAbs_mul]
  exact Nat.mul_le_mul ha hb
theorem ok_joined_sign (D : Df K mg "joined_sign" s_joined_sign ["one", "other"]) (c_check_sign : Cal P w K mg base 4 "check_sign" sp_check_sign) (c_any_sign_of : Cal P w K mg base 2 "any_sign_of" sp_any_sign_of) : Cal P w K mg base 5 "joined_sign" sp_joined_sign := by
  obtain ⟨f, fd, F, m, b⟩ := D.ex
  have sc := sc_joined_sign
  refine ⟨f, fd, _, F.ok sc sp2_len (fun cdv A outer s H vs Q E hr h => ?_), m, F.kp, b⟩
  obtain ⟨x, y, rfl, ⟨hx, hy⟩, q⟩ := h
  have lx := isSign_le hx
  have ly := isSign_le hy
  refine ⟨_, (pss_cons (ps_expr (pe_c c_check_sign hr (by decide) (by rfl) (pa_cons (pv 0) pa_nil)))
      (pss_cons (ps_expr (pe_c c_check_sign hr (by decide) (by rfl) (pa_cons (pv 1) pa_nil)))
      (pss_one (ps_ret (pe_c c_any_sign_of hr (by decide) (by rfl) (pa_cons (pe_op op_mul (pv 0) (pv 1)) pa_nil)))))), ?_⟩
  refine ⟨_, rfl, x, rfl, hx, ?_⟩
  refine ⟨_, rfl, y, rfl, hy, ?_⟩
  exact ⟨_, rfl, _, rfl, _, _, rfl, rfl, .inl ⟨by omega, by omega⟩, _, rfl, ⟨Int.mul_ne_zero lx.2.1 ly.2.1, mul_le_160000 lx.1 ly.1⟩, q⟩
end
end Ft

/-! repr of data; the deck of draws -/
namespace Ft
open PySem L2 PySem.Spec PyProof.Rows

def rRepr (K : PySem.W.Frag) : List V → Hp → VK → Prop := fun xs H Q => ∃ a d, xs = [.ref a] ∧ Dp K H (.ref a) d ∧ d.showable = true ∧ d.hasDict = false ∧ d.depth ≤ 64 ∧ d.shown.length ≤ sizeLine ∧ Q (.str d.shown) H
theorem call_repr {X : Cx} {k : Nat} (hgd : X.A.guards = some []) (hr : Room k X.A) : CallR X (.builtin "repr") (rRepr X.K) := by
  intro pins s σ H xs us Q I r h
  obtain ⟨a, d, rfl, hd, h1, h2, h3, h4, q⟩ := h
  obtain ⟨u, rfl, rx⟩ := vals1 r
  obtain ⟨as, rd⟩ := Dp.reads I d (.ref a) u hd rx
  obtain rfl : u = Value.ref a := rx
  exact repr_of_reads' rd h1 (fun z => by rw [h2] at z; cases z) hgd (by have := hr.un; omega) (fun _ _ e => e) (fun h' u tk kept => ⟨.str d.shown, H, I.kept kept, ⟨_, rfl⟩, q⟩) h4

/-! ### the deck -/
def kCells : Key := .inr "cells"
def kMixed : Key := .inr "mixed"
def kDraws : Key := .inr "turn"
theorem ncm : ¬ kCells = kMixed := by decide +kernel
theorem ncd : ¬ kCells = kDraws := by decide +kernel
theorem nmd : ¬ kMixed = kDraws := by decide +kernel
theorem nmc : ¬ kMixed = kCells := by decide +kernel
theorem ndc : ¬ kDraws = kCells := by decide +kernel
def deckL (l : Addr) (mx dr : Int) : List (Key × V) := [(kCells, .ref l), (kMixed, .int mx), (kDraws, .int dr)]
theorem deck_cells {l : Addr} {mx dr : Int} : valV (deckL l mx dr) kCells = some (.ref l) := valV_pos rfl
theorem deck_mixed {l : Addr} {mx dr : Int} : valV (deckL l mx dr) kMixed = some (.int mx) := by
  unfold deckL
  rw [valV_neg ncm]
  exact valV_pos rfl
theorem deck_draws {l : Addr} {mx dr : Int} : valV (deckL l mx dr) kDraws = some (.int dr) := by
  unfold deckL
  rw [valV_neg ncd, valV_neg nmd]
  exact valV_pos rfl
theorem deck_put {l : Addr} {mx dr z : Int} : putK (deckL l mx dr) kDraws (.int z) = deckL l mx z := by
  unfold putK deckL
  rw [if_pos (by simp)]
  simp only [List.map_cons, List.map_nil, if_neg ncd, if_neg nmd, if_true]
/-- a deck at d, its list at l -/
def DeckAt (H : Hp) (d l : Addr) : Prop := ∃ (mx dr : Int) (cs : List Int), H d = some (.dK (deckL l mx dr)) ∧ H l = some (.lst (cs.map V.int)) ∧ cs.length ≤ 63
/-- all that was tracked is as it was, but at d and l -/
def But (d l : Addr) (H H' : Hp) : Prop := ∀ b o, H b = some o → b ≠ d → b ≠ l → H' b = some o
theorem But.refl {d l : Addr} {H : Hp} : But d l H H := fun _ _ h _ _ => h
theorem But.trans {d l : Addr} {H H1 H2 : Hp} (a : But d l H H1) (b : But d l H1 H2) : But d l H H2 := fun c o h h1 h2 => b c o (a c o h h1 h2) h1 h2
theorem But.of {d l : Addr} {H H' : Hp} (s : Same H H') : But d l H H' := fun b o h _ _ => s b o h
theorem Same.upd_new {H : Hp} {p : Addr} {o : HO} (h : H p = none) : Same H (upd H p o) := fun b u e => by rw [upd_ne (ne_of_none e h)]; exact e
theorem DeckAt.same {H H' : Hp} {d l : Addr} (D : DeckAt H d l) (s : Same H H') : DeckAt H' d l := by
  obtain ⟨mx, dr, cs, h1, h2, h3⟩ := D
  exact ⟨mx, dr, cs, s _ _ h1, s _ _ h2, h3⟩
theorem DeckAt.ne {H : Hp} {d l : Addr} (D : DeckAt H d l) : d ≠ l := by
  obtain ⟨mx, dr, cs, h1, h2, h3⟩ := D
  exact ne_of h1 h2 (by intro z; cases z)
/-- a new address is neither -/
theorem DeckAt.new {H : Hp} {d l p : Addr} (D : DeckAt H d l) (h : H p = none) : p ≠ d ∧ p ≠ l := by
  obtain ⟨mx, dr, cs, h1, h2, h3⟩ := D
  exact ⟨fun e => (by rw [e, h1] at h; cases h), fun e => (by rw [e, h2] at h; cases h)⟩
/-- draws: from 0 to below many; the deck stays a deck, all else stays -/
def sp_draw : Sp := fun vs H Q _ => ∃ (d l : Addr) (n : Int), vs = [.ref d, .int n] ∧ DeckAt H d l ∧ 0 < n ∧ n < 2 ^ 64 ∧ ∀ (H' : Hp) (r : Int), DeckAt H' d l → But d l H H' → 0 ≤ r → r < n → Q (.int r) H'
theorem sp_draw_len : ∀ vs H Q E, sp_draw vs H Q E → vs.length = 2 := fun _ _ _ _ ⟨_, _, _, e, _⟩ => by rw [e]; rfl
theorem dp_ints {K : PySem.W.Frag} {H : Hp} : ∀ ns : List Int, DpAll K H (ns.map V.int) (ns.map PyData.int)
  | [] => .nil
  | n :: ns => .cons (.int n) (dp_ints ns)
theorem eqv_nil : ∀ ds : List PyData, PyData.eqv (.list ds) (.list []) = ds.isEmpty
  | [] => rfl
  | _ :: _ => rfl
theorem deck_merge {l : Addr} {mx dr : Int} : mergeK [] (deckL l mx dr) = deckL l mx dr := by
  unfold mergeK deckL
  simp only [List.foldl_cons, List.foldl_nil]
  have h1 : putK ([] : List (Key × V)) kCells (.ref l) = [(kCells, V.ref l)] := rfl
  rw [h1]
  have h2 : putK [(kCells, V.ref l)] kMixed (.int mx) = [(kCells, V.ref l), (kMixed, V.int mx)] := putK_new _ (by rw [valV_neg ncm]; rfl)
  rw [h2]
  exact putK_new _ (by rw [valV_neg ncd, valV_neg nmd]; rfl)
/-- a slice of ints is one -/
theorem cut_ints (ns : List Int) (lo hi : Option Int) : ∃ ms : List Int, cutV (ns.map V.int) lo hi = ms.map V.int ∧ ms.length ≤ ns.length := by
  have hl := cutV_length (ns.map V.int) lo hi
  rw [List.length_map] at hl
  have h : cutV (ns.map V.int) lo hi = ((ns.drop (HT.sIx (ns.map V.int).length 0 lo)).take (HT.sIx (ns.map V.int).length (ns.map V.int).length hi - HT.sIx (ns.map V.int).length 0 lo)).map V.int := by
    unfold cutV
    rw [List.map_take, List.map_drop]
  refine ⟨_, h, ?_⟩
  rw [h, List.length_map] at hl
  exact hl
theorem int_at {ns : List Int} {i : Nat} {v : V} (h : (ns.map V.int)[i]? = some v) : ∃ z, v = .int z ∧ ns[i]? = some z := by
  rw [List.getElem?_map] at h
  cases e : ns[i]? with
  | none => rw [e] at h; cases h
  | some z => rw [e] at h; exact ⟨z, (Option.some.inj h).symm, rfl⟩
def sp_deck (K : PySem.W.Frag) : Sp := fun vs H Q _ => ∃ (a : Addr) (ns : List Int), vs = [.ref a] ∧ SqL K H a (ns.map V.int) ∧ ns.length ≤ 63 ∧ ∀ (H' : Hp) (d l : Addr), DeckAt H' d l → Same H H' → H d = none → H l = none → Q (.ref d) H'
theorem sp_deck_len {K : PySem.W.Frag} : ∀ vs H Q E, sp_deck K vs H Q E → vs.length = 1 := fun _ _ _ _ ⟨_, _, e, _⟩ => by rw [e]; rfl
/-- an item of a list that stands -/
def sp_pick (K : PySem.W.Frag) : Sp := fun vs H Q _ => ∃ (d l p : Addr) (xs : List V), vs = [.ref d, .ref p] ∧ DeckAt H d l ∧ (H p = some (.lst xs) ∧ p ≠ l ∨ H p = some (.tup xs)) ∧ 0 < xs.length ∧ xs.length < 2 ^ 64 ∧
  ∀ (H' : Hp) (v : V), DeckAt H' d l → But d l H H' → v ∈ xs → Q v H'
theorem sp_pick_len {K : PySem.W.Frag} : ∀ vs H Q E, sp_pick K vs H Q E → vs.length = 2 := fun _ _ _ _ ⟨_, _, _, _, e, _⟩ => by rw [e]; rfl
end Ft

namespace Ft
open PySem L2
theorem canLay_ints : ∀ ns : List Int, PyData.canLayAll0 (ns.map PyData.int) = true
  | [] => rfl
  | n :: ns => by
    show (true && PyData.canLayAll0 (ns.map PyData.int)) = true
    rw [canLay_ints ns]
    rfl
theorem depth_ints : ∀ ns : List Int, PyData.depthAll (ns.map PyData.int) = 0
  | [] => rfl
  | n :: ns => by
    show max 0 (PyData.depthAll (ns.map PyData.int)) = 0
    rw [depth_ints ns]
    rfl
theorem shaped_ints (ns : List Int) : SeqAt.shaped (.list (ns.map PyData.int)) = true := by
  unfold SeqAt.shaped
  rw [show PyData.canLay0 (.list (ns.map PyData.int)) = true from canLay_ints ns, show PyData.depth (.list (ns.map PyData.int)) = 0 + 1 from by rw [← depth_ints ns]; rfl]
  rfl
section
variable {P : Program} {w : World} {K : PySem.W.Frag} {mg : Str → Option Value} {base : Heap}
theorem ok_draw (D : Df K mg "_law_draw" s__law_draw ["_law_deck_here", "_law_below"]) (B : Bi mg) : Cal P w K mg base 1 "_law_draw" sp_draw := by
  obtain ⟨f, fd, F, m, b⟩ := D.ex
  have sc := sc__law_draw
  refine ⟨f, fd, _, F.ok sc sp_draw_len (fun cdv A outer s H vs Q E hr h => ?_), m, F.kp, b⟩
  obtain ⟨d, l, n, rfl, DK, hn0, hn1, q⟩ := h
  have hu := hu_of hr
  have h64 : (A.deeper (PyProof.Rows.envOfC "_law_draw" (defScope s__law_draw) s.heap.objs.size f cdv)).units + 64 < cLine := by have := hr.un; omega
  refine ⟨_, (pss_cons (ps_dput hu (pv 0) pe_str (pe_op op_add (pe_dget hu (pv 0) pe_str (fun _ _ => rfl)) pe_int) rfl)
      (pss_cons (ps_set (i := 2) sc.nd rfl (Or.inl rfl) (pe_op op_add (pe_dget hu (pv 0) pe_str (fun _ _ => rfl)) (pe_op op_mul pe_int (pe_dget hu (pv 0) pe_str (fun _ _ => rfl)))))
      (pss_cons (ps_if (pt_cmpR (op_neD h64) (pe_dget hu (pv 0) pe_str (fun _ _ => rfl)) (pe_lst pa_nil) (nomark _))
      (pss_cons (ps_set (i := 3) sc.nd rfl (Or.inl rfl) (pe_bm0 PySem.F.plainAttrs_list PySem.F.slot_list_pop PySem.F.type_list_pop mt_pop (pe_dget hu (pv 0) pe_str (fun _ _ => rfl))))
        (pss_cons (ps_if (pt_cmpR op_ge (pv 3) (pe_op op_pow pe_int pe_int) (nomark _))
        (pss_cons (ps_expr (pe_bm PySem.F.plainAttrs_list PySem.F.slot_list_append PySem.F.type_list_append mt_append (pe_dget hu (pv 0) pe_str (fun _ _ => rfl)) (pa_cons (pe_op op_fdivW (pv 3) (pe_callB (call_max2 rfl) (by rfl) B.max_ (by decide +kernel) (pa_cons pe_int (pa_cons (pv 1) pa_nil)))) pa_nil)))
          (pss_one (ps_ret (pe_op op_mod (pe_callTy call_int1 (by rfl) B.int_ (by decide +kernel) (pa_cons (pv 3) pa_nil)) (pv 1)))))
        pss_nil)
        (pss_one (ps_set (i := 2) sc.nd rfl (Or.inl rfl) (pe_op op_add (pv 2) (pe_op op_mod (pe_callTy call_int1 (by rfl) B.int_ (by decide +kernel) (pa_cons (pv 3) pa_nil)) pe_int))))))
      pss_nil)
      (pss_cons (ps_set (i := 2) sc.nd rfl (Or.inl rfl) (pe_op op_mod (pe_callTy call_int1 (by rfl) B.int_ (by decide +kernel) (pa_cons (pe_op op_add (pe_op op_mul (pv 2) pe_int) pe_int) pa_nil)) pe_int))
      (pss_cons (ps_set (i := 2) sc.nd rfl (Or.inl rfl) (pe_op op_mod (pe_callTy call_int1 (by rfl) B.int_ (by decide +kernel) (pa_cons (pe_op op_add (pe_op op_add (pe_op op_mul (pv 2) (pv 2)) (pe_op op_mul pe_int (pe_dget hu (pv 0) pe_str (fun _ _ => rfl)))) pe_int) pa_nil)) pe_int))
      (pss_cons (ps_set (i := 2) sc.nd rfl (Or.inl rfl) (pe_op op_mod (pe_callTy call_int1 (by rfl) B.int_ (by decide +kernel) (pa_cons (pe_op op_mul (pv 2) pe_int) pa_nil)) pe_int))
      (pss_one (ps_ret (pe_op op_mod (pe_callTy call_int1 (by rfl) B.int_ (by decide +kernel) (pa_cons (pe_op op_fdivW (pv 2) pe_int) pa_nil)) (pv 1)))))))))), ?_⟩
  have dl := DK.ne
  obtain ⟨mx, dr, cs, hd, hl, hcs⟩ := DK
  -- draws + 1
  have gd := DGet.k (k := kDraws) hd
  rw [deck_draws] at gd
  have pd := DPut.k (k := kDraws) (v := .int (dr + 1)) hd (Nat.lt_of_le_of_lt (Nat.le_of_eq rfl : (deckL l mx dr).length ≤ 3) (by decide))
  rw [deck_put] at pd
  refine ⟨_, rfl, d, _, rfl, gd, _, _, rfl, rfl, _, rfl, d, _, rfl, pd, ?_⟩
  generalize hH1 : upd H d (.dK (deckL l mx (dr + 1))) = H1
  have hd1 : H1 d = some (.dK (deckL l mx (dr + 1))) := by rw [← hH1]; exact upd_same
  have hl1 : H1 l = some (.lst (cs.map V.int)) := by rw [← hH1, upd_ne dl.symm]; exact hl
  have b1 : But d l H H1 := fun b o e h1 h2 => by rw [← hH1, upd_ne h1]; exact e
  have gd1 := DGet.k (k := kDraws) hd1
  rw [deck_draws] at gd1
  have gm1 := DGet.k (k := kMixed) hd1
  rw [deck_mixed] at gm1
  have gc1 := DGet.k (k := kCells) hd1
  rw [deck_cells] at gc1
  refine ⟨_, rfl, d, _, rfl, gm1, _, rfl, d, _, rfl, gd1, _, _, rfl, rfl, .inl ⟨by decide, by decide⟩, _, _, rfl, rfl, ?_⟩
  dsimp only [gName]
  refine tSeq_join (fun σ H2 => ∃ (z : Int) (o : Option V), σ = [some (.ref d), some (.int n), some (.int z), o] ∧ DeckAt H2 d l ∧ But d l H H2) (fun N hN => ?_) ?_
  · -- if cells != []
    refine ⟨_, rfl, d, _, rfl, gc1, Nat.zero_le _, fun p hp => ?_⟩
    have s2 : Same H1 (upd H1 p (.lst [])) := Same.upd_new hp
    generalize hH2 : upd H1 p (.lst []) = H2 at s2
    have hd2 := s2 _ _ hd1
    have hl2 := s2 _ _ hl1
    have hp2 : H2 p = some (.lst []) := by rw [← hH2]; exact upd_same
    have b2 : But d l H H2 := b1.trans (But.of s2)
    have gc2 := DGet.k (k := kCells) hd2
    rw [deck_cells] at gc2
    refine ⟨_, _, .lst (SqL.of hl2) (dp_ints cs), .lst (SqL.of hp2) .nil, shaped_ints cs, by decide, _, rfl, ?_⟩
    rw [eqv_nil]
    cases hcc : cs with
    | nil =>
      refine iteF ?_
      exact hN _ _ ⟨_, none, rfl, ⟨mx, dr + 1, [], hd2, by rw [hcc] at hl2; exact hl2, by decide⟩, b2⟩
    | cons c0 cr =>
      refine iteT ?_
      -- cell = cells.pop()
      have hlast : ∃ c, (cs.map V.int)[(cs.map V.int).length - 1]? = some (V.int c) := by
        have hn : cs.length - 1 < cs.length := by rw [hcc]; exact Nat.sub_lt (Nat.succ_pos _) (by decide)
        exact ⟨cs[cs.length - 1], by rw [List.length_map, List.getElem?_map, List.getElem?_eq_getElem hn]; rfl⟩
      obtain ⟨c, hlast⟩ := hlast
      have hdrop : (cs.map V.int).dropLast = cs.dropLast.map V.int := by rw [List.map_dropLast]
      have ldrop : cs.dropLast.length ≤ 62 := by rw [List.length_dropLast]; omega
      have hne : l ≠ d := dl.symm
      refine ⟨_, rfl, d, _, rfl, gc2, .inl ⟨rfl, _, SqL.of hl2⟩, l, _, _, rfl, rfl, hl2, hlast, ?_⟩
      rw [hdrop]
      generalize hH3 : upd H2 l (.lst (cs.dropLast.map V.int)) = H3
      have hl3 : H3 l = some (.lst (cs.dropLast.map V.int)) := by rw [← hH3]; exact upd_same
      have hd3 : H3 d = some (.dK (deckL l mx (dr + 1))) := by rw [← hH3, upd_ne dl]; exact hd2
      have b3 : But d l H H3 := b2.trans fun b o e _ h2 => by rw [← hH3, upd_ne h2]; exact e
      have gc3 := DGet.k (k := kCells) hd3
      rw [deck_cells] at gc3
      refine ⟨_, rfl, _, _, rfl, rfl, ⟨by decide, by decide, by decide⟩, _, _, rfl, rfl, _, rfl, ifD (fun hbig => ?_) fun hbig => ?_⟩
      · -- cells.append(cell // max(2, many)); return int(cell) % many
        have hmx : (if n > 2 then n else 2) = max 2 n := by by_cases h : n > 2 <;> simp only [h, if_true, if_false] <;> omega
        refine ⟨_, rfl, d, _, rfl, gc3, .inl ⟨rfl, _, SqL.of hl3⟩, _, rfl, _, rfl, 2, n, rfl, _, _, rfl, rfl, ?_, ?_⟩
        · show CDivW c (if n > 2 then n else 2)
          exact wide_div (b := 64) (by split <;> omega) (by split <;> omega) (by decide) (by decide)
        refine ⟨l, _, _, rfl, rfl, hl3, Nat.lt_of_le_of_lt (by rw [List.length_map]; exact ldrop) (by decide : (62 : Nat) < sizeLine), ?_⟩
        have happ : cs.dropLast.map V.int ++ [V.int (c / (if n > 2 then n else 2))] = (cs.dropLast ++ [c / (if n > 2 then n else 2)]).map V.int := by rw [List.map_append]; rfl
        refine ⟨_, rfl, .inl ⟨c, rfl, ?_⟩⟩
        refine ⟨_, rfl, _, _, rfl, rfl, hn0, ?_⟩
        refine q _ _ ⟨mx, dr + 1, cs.dropLast ++ [c / (if n > 2 then n else 2)], by rw [upd_ne dl]; exact hd3, by rw [upd_same]; exact congrArg (fun z => some (HO.lst z)) happ, by rw [List.length_append]; exact Nat.add_le_add ldrop (Nat.le_refl 1)⟩ (b3.trans fun b o e _ h2 => by rw [upd_ne h2]; exact e) (Int.emod_nonneg _ (by omega)) (Int.emod_lt_of_pos _ hn0)
      · refine ⟨_, rfl, _, rfl, .inl ⟨c, rfl, ?_⟩⟩
        refine ⟨_, _, rfl, rfl, (by show (0 : Int) < 2147483587; decide), _, _, rfl, rfl, ?_⟩
        exact hN _ _ ⟨_, _, rfl, ⟨mx, dr + 1, cs.dropLast, hd3, hl3, Nat.le_trans ldrop (by decide)⟩, b3⟩
  · rintro _ H4 ⟨z, o, rfl, DK4, b4⟩
    obtain ⟨mx, dr, cs, hd4, hl4, hcs4⟩ := id DK4
    have gd4 := DGet.k (k := kDraws) hd4
    rw [deck_draws] at gd4
    refine ⟨_, rfl, _, _, rfl, rfl, .inr ⟨by decide, by decide⟩, _, _, rfl, rfl, .inl ⟨_, rfl, _, _, rfl, rfl, (by show (0 : Int) < 2147483543; decide), ?_⟩⟩
    have y0 := Int.emod_nonneg (z * 16807 + 59) (b := 2147483543) (by decide)
    have y1 := Int.emod_lt_of_pos (z * 16807 + 59) (b := 2147483543) (by decide)
    refine ⟨_, rfl, _, rfl, _, _, rfl, rfl, .inl ⟨by omega, by omega⟩, _, rfl, d, _, rfl, gd4, _, _, rfl, rfl, .inl ⟨by decide, by decide⟩, _, _, rfl, rfl, _, _, rfl, rfl, .inl ⟨_, rfl, _, _, rfl, rfl, (by show (0 : Int) < 2147483647; decide), ?_⟩⟩
    refine ⟨_, rfl, _, _, rfl, rfl, .inr ⟨by decide, by decide⟩, .inl ⟨_, rfl, _, _, rfl, rfl, (by show (0 : Int) < 2147483563; decide), ?_⟩⟩
    refine ⟨_, rfl, _, _, rfl, rfl, ⟨by decide, by decide⟩, .inl ⟨_, rfl, _, rfl, _, _, rfl, rfl, hn0, ?_⟩⟩
    exact q _ _ DK4 b4 (Int.emod_nonneg _ (by omega)) (Int.emod_lt_of_pos _ hn0)
end
end Ft

namespace Ft
open PySem L2
section
variable {P : Program} {w : World} {K : PySem.W.Frag} {mg : Str → Option Value} {base : Heap}
theorem ok_pick (D : Df K mg "_law_pick" s__law_pick ["_law_deck_here", "_law_some"]) (B : Bi mg) (c__law_draw : Cal P w K mg base 1 "_law_draw" sp_draw) : Cal P w K mg base 2 "_law_pick" (sp_pick K) := by
  obtain ⟨f, fd, F, m, b⟩ := D.ex
  have sc := sc__law_pick
  refine ⟨f, fd, _, F.ok sc sp_pick_len (fun cdv A outer s H vs Q E hr h => ?_), m, F.kp, b⟩
  obtain ⟨d, l, p, xs, rfl, DK, hp, h0, h1, q⟩ := h
  refine ⟨_, (pss_one (ps_ret (pe_ix ix_seq (pv 1) (pe_c c__law_draw hr (by decide) (by rfl) (pa_cons (pv 0) (pa_cons (pe_callB call_len_seq (by rfl) B.len_ (by decide +kernel) (pa_cons (pv 1) pa_nil)) pa_nil))) (fun _ _ => rfl)))), ?_⟩
  have hs : SqL K H p xs ∨ SqT K H p xs := hp.imp (fun z => SqL.of z.1) SqT.of
  refine ⟨_, rfl, _, rfl, _, rfl, p, xs, rfl, hs, d, l, _, rfl, DK, by omega, by omega, fun H1 r DK1 b1 r0 r1 => ?_⟩
  obtain ⟨n, rfl⟩ : ∃ n : Nat, r = n := ⟨r.toNat, by omega⟩
  have hn : n < xs.length := by omega
  obtain ⟨mx, dr, cs, hd, hl, _⟩ := DK
  rcases hp with ⟨hp, hpl⟩ | hp
  · have hp1 := b1 _ _ hp (ne_of hp hd (by intro z; cases z)) hpl
    exact .inl ⟨p, xs, _, _, rfl, rfl, SqL.of hp1, atI_nat (List.getElem?_eq_getElem hn), q _ _ DK1 b1 (List.getElem_mem hn)⟩
  · have hp1 := b1 _ _ hp (ne_of hp hd (by intro z; cases z)) (ne_of hp hl (by intro z; cases z))
    exact .inr (.inl ⟨p, xs, _, _, rfl, rfl, SqT.of hp1, atI_nat (List.getElem?_eq_getElem hn), q _ _ DK1 b1 (List.getElem_mem hn)⟩)
theorem ok_deck (D : Df K mg "_law_deck" s__law_deck ["_law_script"]) (B : Bi mg)  : Cal P w K mg base 1 "_law_deck" (sp_deck K) := by
  obtain ⟨f, fd, F, m, b⟩ := D.ex
  have sc := sc__law_deck
  refine ⟨f, fd, _, F.ok sc sp_deck_len (fun cdv A outer s H vs Q E hr h => ?_), m, F.kp, b⟩
  obtain ⟨a, ns, rfl, hS, hlen, q⟩ := h
  have hu := hu_of hr
  refine ⟨_, (pss_cons (ps_set (i := 1) sc.nd rfl (Or.inl rfl) pe_int)
      (pss_cons (ps_for PassesOwn.never rfl (pi_list (pe_slice sl_list (pv 0) po_none (po_some pe_int))) (pg_name (i := 2) sc.nd rfl (Or.inl rfl))
      (pss_one (ps_set (i := 1) sc.nd rfl (Or.inl rfl) (pe_op op_mod (pe_callTy call_int1 (by rfl) B.int_ (by decide +kernel) (pa_cons (pe_op op_add (pe_op op_add (pe_op op_mul (pv 1) pe_int) (pe_op op_mod (pe_callTy call_int1 (by rfl) B.int_ (by decide +kernel) (pa_cons (pv 2) pa_nil)) pe_int)) pe_int) pa_nil)) pe_int))))
      (pss_one (ps_ret (pe_disp (pps_cons pe_str (pe_revL (pe_lc (own := [("_law_cell", 2)]) (g := gName 2) (tt := tYes) (by rfl) sc.nd (pi_list (pe_slice sl_list (pv 0) po_none (po_some pe_int))) (blkOk_by (own := [("_law_cell", 2)]) (N := N__law_deck) (sc := defScope s__law_deck) (by decide +kernel)) (fun _ _ _ _ _ => (pg_name (i := 2) sc.nd rfl (Or.inl rfl))) (fun _ _ _ _ _ => pts_nil) (fun _ _ _ _ _ => (pe_callTy call_int1 (by rfl) B.int_ (by decide +kernel) (pa_cons (pv 2) pa_nil))))) (pps_cons pe_str (pv 1) (pps_cons pe_str pe_int pps_nil))) (by rfl) (by rfl) (fun z => by cases z) (by decide)))))), ?_⟩
  refine ⟨_, rfl, _, rfl, a, _, rfl, hS, fun p hp => ?_⟩
  obtain ⟨ms, hms, lms⟩ := cut_ints ns none (some 63)
  rw [hms]
  have s1 : Same H (upd H p (.lst (ms.map V.int))) := Same.upd_new hp
  generalize hH1 : upd H p (.lst (ms.map V.int)) = H1 at s1
  have hp1 : H1 p = some (.lst (ms.map V.int)) := by rw [← hH1]; exact upd_same
  refine ⟨p, rfl, ⟨_, SqL.of hp1⟩, for_list (K := K) (a := p) (xs := ms.map V.int) (fun i σ H2 => H1 = H2 ∧ ∃ (z : Int) (o : Option V), σ = [some (.ref a), some (.int z), o]) ⟨rfl, _, none, rfl⟩ (fun i σ H2 _ ⟨e, _⟩ => by rw [← e]; exact SqL.of hp1) ?_ ?_⟩
  · rintro i x σ _ hi ⟨rfl, z, o, rfl⟩
    obtain ⟨c, rfl, _⟩ := int_at hi
    refine ⟨_, rfl, _, _, rfl, rfl, .inr ⟨by decide, by decide⟩, _, rfl, .inl ⟨c, rfl, _, _, rfl, rfl, (by show (0 : Int) < 2147483587; decide), _, _, rfl, rfl, _, _, rfl, rfl, .inl ⟨_, rfl, _, _, rfl, rfl, (by show (0 : Int) < 2147483647; decide), ?_⟩⟩⟩
    exact ⟨rfl, _, _, rfl⟩
  · rintro σ _ ⟨rfl, z, o, rfl⟩
    intro d hd
    have s2 : Same H1 (upd H1 d (.dK [])) := Same.upd_new hd
    generalize hH2 : upd H1 d (.dK []) = H2 at s2
    have hd2 : H2 d = some (.dK []) := by rw [← hH2]; exact upd_same
    refine ⟨_, rfl, _, rfl, a, _, rfl, s2.seq (s1.seq hS), fun p2 hp2 => ?_⟩
    rw [hms]
    have s3 : Same H2 (upd H2 p2 (.lst (ms.map V.int))) := Same.upd_new hp2
    generalize hH3 : upd H2 p2 (.lst (ms.map V.int)) = H3 at s3
    have h3 : H3 p2 = some (.lst (ms.map V.int)) := by rw [← hH3]; exact upd_same
    refine ⟨p2, rfl, ⟨_, SqL.of h3⟩, fun p3 hp3 => ?_⟩
    refine lc_list (a := p2) (xs := ms.map V.int) (fun i H' => Same H3 H' ∧ H' p3 = some (.lst ((ms.take i).map V.int))) ⟨Same.upd_new hp3, upd_same⟩ (fun i H' _ ⟨z, _⟩ => SqL.of (z _ _ h3)) ?_ ?_
    · rintro i v H' hi ⟨s4, h4⟩
      obtain ⟨c, rfl, hc⟩ := int_at hi
      have hi' : i < ms.length := (List.getElem?_eq_some_iff.mp hc).1
      have htk : ms.take (i + 1) = ms.take i ++ [c] := by rw [List.take_add_one, hc]; rfl
      refine ⟨rfl, _, rfl, .inl ⟨c, rfl, _, h4, ?_, fun b u e => ?_, ?_⟩⟩
      · rw [List.length_map, List.length_take]
        exact Nat.lt_of_le_of_lt (by omega : _ ≤ 63) (by decide)
      · rw [upd_ne (ne_of_none e hp3)]
        exact s4 _ _ e
      · rw [upd_same, htk, List.map_append]
        rfl
    rintro H4 ⟨s4, h4⟩
    rw [List.length_map, List.take_length] at h4
    refine ⟨p3, _, rfl, SqL.of h4, fun l hl => ?_⟩
    have s5 : Same H4 (upd H4 l (.lst (ms.map V.int).reverse)) := Same.upd_new hl
    generalize hH5 : upd H4 l (.lst (ms.map V.int).reverse) = H5 at s5
    have h5 : H5 l = some (.lst (ms.reverse.map V.int)) := by rw [← hH5, List.map_reverse]; exact upd_same
    have sA := s1.trans (s2.trans (s3.trans (s4.trans s5)))
    have hd5 : H5 d = some (.dK []) := s5 _ _ (s4 _ _ (s3 _ _ hd2))
    have dl : d ≠ l := ne_of hd5 h5 (by intro z; cases z)
    refine ⟨_, rfl, hd5, deckL l z 0, rfl, (by show (3 : Nat) ≤ 15; decide), ?_⟩
    rw [deck_merge]
    have hd0 : H d = none := s1.free hd
    have hl0 : H l = none := s1.free (s2.free (s3.free (s4.free hl)))
    refine q _ d l ⟨z, 0, ms.reverse, upd_same, by rw [upd_ne dl.symm]; exact h5, by rw [List.length_reverse]; omega⟩ (fun b u e => ?_) hd0 hl0
    rw [upd_ne (ne_of_none e hd0)]
    exact sA _ _ e
end
end Ft

set_option exponentiation.threshold 9000
namespace Ft
open PySem L2
/-! ### beginnings: a number and a tuple of numbers -/
theorem kit_tup_tup {K : PySem.W.Frag} : PySem.W.kitOne K (.type "tuple") (.type "tuple") = some true := kit_ty (by decide +kernel)
theorem kit_int_int' {K : PySem.W.Frag} : PySem.W.kitOne K (.type "int") (.type "int") = some true := kit_ty (by decide +kernel)
def Bg (H : Hp) (v : V) (b : Int) (ts : List Int) : Prop := ∃ p q, v = .ref p ∧ H p = some (.tup [.int b, .ref q]) ∧ H q = some (.tup (ts.map V.int))
theorem Bg.same {H H' : Hp} {v : V} {b : Int} {ts : List Int} (h : Bg H v b ts) (s : Same H H') : Bg H' v b ts := by
  obtain ⟨p, q, e, h1, h2⟩ := h
  exact ⟨p, q, e, s _ _ h1, s _ _ h2⟩
/-- what the document calls a beginning -/
def BgOk (b : Int) (ts : List Int) : Prop := 1 ≤ b ∧ 1 ≤ ts.length ∧ ts.length ≤ 400
def gcdL (g : Nat) (ts : List Int) : Nat := ts.foldl (fun g t => Nat.gcd g t.natAbs) g
def lowB (b : Int) (ts : List Int) : Int := b / ((gcdL b.natAbs ts : Nat) : Int)
def lowT (b : Int) (ts : List Int) : List Int := ts.map fun t => t / ((gcdL b.natAbs ts : Nat) : Int)
theorem gcdL_one : ∀ ts : List Int, gcdL 1 ts = 1
  | [] => rfl
  | t :: ts => by
    show gcdL (Nat.gcd 1 t.natAbs) ts = 1
    rw [Nat.gcd_one_left]
    exact gcdL_one ts
theorem gcdL_dvd : ∀ (ts : List Int) (g : Nat), gcdL g ts ∣ g
  | [], g => Nat.dvd_refl g
  | t :: ts, g => Nat.dvd_trans (gcdL_dvd ts (Nat.gcd g t.natAbs)) (Nat.gcd_dvd_left _ _)
theorem gcdL_drop {ts : List Int} {i : Nat} {z : Int} (h : ts[i]? = some z) (g : Nat) : gcdL g (ts.drop i) = gcdL (Nat.gcd g z.natAbs) (ts.drop (i + 1)) := by
  obtain ⟨hi, rfl⟩ := List.getElem?_eq_some_iff.mp h
  rw [List.drop_eq_getElem_cons hi]
  rfl
theorem take_snoc {ts : List Int} {i : Nat} {z : Int} (h : ts[i]? = some z) : ts.take (i + 1) = ts.take i ++ [z] := by
  rw [List.take_add_one, h]
  rfl
theorem all_true : ∀ n : Nat, (List.replicate n true).all id = true
  | 0 => rfl
  | n + 1 => by rw [List.replicate_succ, List.all_cons, all_true n]; rfl
def sp_from : Sp := fun vs H Q _ => ∃ n a : Int, vs = [.int n, .int a] ∧ Q (.bl (decide (a ≤ n))) H
def sp_checkFrom : Sp := fun vs H Q _ => ∃ n a : Int, vs = [.int n, .int a] ∧ a ≤ n ∧ Q .non H
def sp_isBeg : Sp := fun vs H Q _ => ∃ v b ts, vs = [v] ∧ Bg H v b ts ∧ BgOk b ts ∧ ∀ H', Same H H' → Q (.bl true) H'
def sp_checkBeg : Sp := fun vs H Q _ => ∃ v b ts, vs = [v] ∧ Bg H v b ts ∧ BgOk b ts ∧ ∀ H', Same H H' → Q .non H'
def sp_lowered : Sp := fun vs H Q _ => ∃ (b : Int) (p : Addr) (ts : List Int), vs = [.int b, .ref p] ∧ H p = some (.lst (ts.map V.int)) ∧ 0 < b ∧ b.natAbs < 2 ^ 8000 ∧ ts.length ≤ 1000 ∧ ∀ H' v, Same H H' → Bg H' v (lowB b ts) (lowT b ts) → Q v H'
section
variable {P : Program} {w : World} {K : PySem.W.Frag} {mg : Str → Option Value} {base : Heap}
theorem ok_check_between (D : Df K mg "check_between" s_check_between ["thing", "least", "most"]) (c_is_between : Cal P w K mg base 2 "is_between" sp_is_between) : Cal P w K mg base 3 "check_between" (sp3 (fun n a b => a ≤ n ∧ n ≤ b) fun _ _ _ => .non) := by
  obtain ⟨f, fd, F, m, b⟩ := D.ex
  have sc := sc_check_between
  refine ⟨f, fd, _, F.ok sc sp3_len (fun cdv A outer s H vs Q E hr h => ?_), m, F.kp, b⟩
  obtain ⟨n, lo, hi, rfl, hb, q⟩ := h
  refine ⟨_, (pss_one (ps_if (pt_not (pt_val (pe_c c_is_between hr (by decide) (by rfl) (pa_cons (pv 0) (pa_cons (pv 1) (pa_cons (pv 2) pa_nil))))))
      (pss_one ps_never)
      pss_nil)), ?_⟩
  refine ⟨_, rfl, _, rfl, _, rfl, n, lo, hi, rfl, trivial, _, rfl, ?_⟩
  rw [decide_eq_true hb.1, decide_eq_true hb.2]
  exact iteF q
theorem ok_is_from (D : Df K mg "is_from" s_is_from ["thing", "least"]) (c_is_integer : Cal P w K mg base 1 "is_integer" sp_is_integer) : Cal P w K mg base 2 "is_from" sp_from := by
  obtain ⟨f, fd, F, m, b⟩ := D.ex
  have sc := sc_is_from
  refine ⟨f, fd, _, F.ok sc (fun _ _ _ _ ⟨_, _, e, _⟩ => by rw [e]; rfl) (fun cdv A outer s H vs Q E hr h => ?_), m, F.kp, b⟩
  obtain ⟨n, a, rfl, q⟩ := h
  refine ⟨_, (pss_one (ps_ret (pe_and (pe_c c_is_integer hr (by decide) (by rfl) (pa_cons (pv 0) pa_nil)) (pe_one (pe_cmpR op_ge (pv 0) (pv 1) (nomark _)))))), ?_⟩
  refine ⟨_, rfl, n, rfl, trivial, true, rfl, iteT ?_⟩
  exact ⟨_, rfl, _, rfl, _, _, rfl, rfl, q⟩
theorem ok_lowered (D : Df K mg "lowered" s_lowered ["bottom", "tops"]) (B : Bi mg)  : Cal P w K mg base 1 "lowered" sp_lowered := by
  obtain ⟨f, fd, F, m, b⟩ := D.ex
  have sc := sc_lowered
  refine ⟨f, fd, _, F.ok sc (fun _ _ _ _ ⟨_, _, _, e, _⟩ => by rw [e]; rfl) (fun cdv A outer s H vs Q E hr h => ?_), m, F.kp, b⟩
  obtain ⟨b, p, ts, rfl, hp, b0, b1, tl, q⟩ := h
  refine ⟨_, (pss_cons (ps_set (i := 2) sc.nd rfl (Or.inr rfl) (pe_callB call_abs (by rfl) B.abs (by decide +kernel) (pa_cons (pv 0) pa_nil)))
      (pss_cons (ps_for PassesOwn.never rfl (pi_list (pv 1)) (pg_name (i := 3) sc.nd rfl (Or.inl rfl))
      (pss_cons (ps_if (pt_cmpR op_eq (pv 2) pe_int (nomark _))
        (pss_one ps_break)
        pss_nil)
        (pss_one (ps_set (i := 2) sc.nd rfl (Or.inr rfl) (pe_callBfun cr_gcd (by rfl) B.gcd (pa_cons (pv 2) (pa_cons (pv 3) pa_nil)))))))
      (pss_cons (ps_if (pt_cmpR op_lt (pv 0) pe_int (nomark _))
      (pss_one (ps_set (i := 2) sc.nd rfl (Or.inr rfl) (pe_un un_neg (pv 2))))
      pss_nil)
      (pss_one (ps_ret (pe_tup (pa_cons (pe_op op_fdivW (pv 0) (pv 2)) (pa_cons (pe_callTy call_tuple_of (by rfl) B.tuple (by decide +kernel) (pa_cons (pe_lc (own := [("top", 3)]) (g := gName 3) (tt := tYes) (by rfl) sc.nd (pi_list (pv 1)) (blkOk_by (own := [("top", 3)]) (N := N_lowered) (sc := defScope s_lowered) (by decide +kernel)) (fun _ _ _ _ _ => (pg_name (i := 3) sc.nd rfl (Or.inl rfl))) (fun _ _ _ _ _ => pts_nil) (fun _ _ _ _ _ => (pe_op op_fdivW (pv 3) (pv 2)))) pa_nil)) pa_nil)))))))), ?_⟩
  have ea : (if b < 0 then -b else b) = (b.natAbs : Int) := by split <;> omega
  refine ⟨_, rfl, b, rfl, ?_⟩
  rw [ea]
  dsimp only [gName]
  refine tSeq_join (fun σ H' => H = H' ∧ ∃ o : Option V, σ = [some (.int b), some (.ref p), some (.int ((gcdL b.natAbs ts : Nat) : Int)), o]) (fun N hN => ?_) ?_
  · refine ⟨_, rfl, p, rfl, ⟨_, SqL.of hp⟩, for_list (K := K) (a := p) (xs := ts.map V.int) (fun i σ H' => H = H' ∧ ∃ (g : Nat) (o : Option V), σ = [some (.int b), some (.ref p), some (.int (g : Int)), o] ∧ gcdL g (ts.drop i) = gcdL b.natAbs ts) ⟨rfl, _, none, rfl, rfl⟩ (fun i σ H2 _ ⟨e, _⟩ => by rw [← e]; exact SqL.of hp) ?_ ?_⟩
    · rintro i x σ _ hi ⟨rfl, g, o, rfl, hg⟩
      obtain ⟨z, rfl, hz⟩ := int_at hi
      rw [gcdL_drop hz] at hg
      refine ⟨_, rfl, rfl, _, rfl, ifI (fun e => ?_) fun e => ?_⟩
      · have e' : g = 1 := by omega
        subst e'
        rw [Nat.gcd_one_left, gcdL_one] at hg
        exact hN _ _ ⟨rfl, _, by rw [← hg]; rfl⟩
      · refine ⟨_, rfl, _, rfl, _, _, rfl, ?_⟩
        exact ⟨rfl, _, _, rfl, hg⟩
    · rintro σ _ ⟨rfl, g, o, rfl, hg⟩
      rw [List.length_map, List.drop_length] at hg
      exact hN _ _ ⟨rfl, o, by rw [← hg]; rfl⟩
  rintro _ _ ⟨rfl, o, rfl⟩
  have gd := gcdL_dvd ts b.natAbs
  have bp : 0 < b.natAbs := by omega
  have gl := Nat.le_of_dvd bp gd
  have gp := Nat.pos_of_dvd_of_pos gd bp
  generalize hG : gcdL b.natAbs ts = G at gl gp
  have cd : ∀ i : Int, CDivW i (G : Int) := fun i => wide_div (b := 8000) (by omega) (Nat.lt_of_le_of_lt gl b1) (by decide) (by decide)
  refine ⟨_, rfl, _, _, rfl, rfl, _, rfl, ifD (fun e => absurd e (by omega)) fun _ => ?_⟩
  dsimp only [tNext]
  refine ⟨_, rfl, _, rfl, _, _, rfl, rfl, cd b, ?_⟩
  refine ⟨_, rfl, p, rfl, ⟨_, SqL.of hp⟩, fun D1 hD1 => ?_⟩
  refine lc_list (K := K) (a := p) (xs := ts.map V.int) (fun i H' => Same H H' ∧ H' D1 = some (.lst ((ts.take i).map fun t => V.int (t / (G : Int))))) ⟨Same.upd_new hD1, upd_same⟩ (fun i H' _ ⟨s2, _⟩ => SqL.of (s2 _ _ hp)) ?_ ?_
  · rintro i x H2 hx ⟨s2, h2⟩
    obtain ⟨z, rfl, hz⟩ := int_at hx
    have hi := (List.getElem?_eq_some_iff.mp hz).1
    refine ⟨rfl, ?_⟩
    refine ⟨_, rfl, _, rfl, _, _, rfl, rfl, cd z, _, h2, ?_, fun b o e => ?_, ?_⟩
    · rw [List.length_map, List.length_take]
      exact Nat.lt_of_le_of_lt (Nat.le_trans (Nat.min_le_right _ _) tl) (by decide)
    · rw [upd_ne (ne_of_none e hD1)]
      exact s2 _ _ e
    · rw [upd_same, take_snoc hz, List.map_append]
      rfl
  · rintro H2 ⟨s2, h2⟩
    have e1 : (ts.take (ts.map V.int).length).map (fun t => V.int (t / (G : Int))) = (lowT b ts).map V.int := by
      unfold lowT
      rw [hG, List.length_map, List.take_length, List.map_map]
      rfl
    rw [e1] at h2
    refine ⟨D1, _, rfl, .inl ⟨SqL.of h2, fun T1 hT1 => ?_⟩⟩
    have s3 : Same H2 (upd H2 T1 (.tup ((lowT b ts).map V.int))) := Same.upd_new hT1
    have h3 : (upd H2 T1 (.tup ((lowT b ts).map V.int))) T1 = some (.tup ((lowT b ts).map V.int)) := upd_same
    generalize hH3 : upd H2 T1 (.tup ((lowT b ts).map V.int)) = H3 at s3 h3
    refine ⟨(by show (2 : Nat) ≤ sizeLine; decide), fun T2 hT2 => ?_⟩
    have s4 : Same H3 (upd H3 T2 (.tup [V.int (b / (G : Int)), V.ref T1])) := Same.upd_new hT2
    refine q _ _ (s2.trans (s3.trans s4)) ⟨T2, T1, rfl, ?_, s4 _ _ h3⟩
    unfold lowB
    rw [hG]
    exact upd_same
end
end Ft

set_option exponentiation.threshold 9000
namespace Ft
open PySem L2
def sprL (ts : List Int) (d : Nat) : List Int := (List.range ts.length).map fun n => if n % d = 0 then ts.getD (n / d) 0 else 0
def eveL (ts : List Int) (d : Nat) : List Int := ((List.range ts.length).filter fun n => decide (n % d = 0)).map fun n => ts.getD n 0
def shfL (ts : List Int) (s : Nat) : List Int := List.replicate s 0 ++ ts
def sp_deed (f : List Int → Nat → List Int) (C : Nat → Prop) : Sp := fun vs H Q _ => ∃ v b ts d, vs = [v, .int ((d : Nat) : Int)] ∧ Bg H v b ts ∧ BgOk b ts ∧ b.natAbs < 2 ^ 8000 ∧ C d ∧ ∀ H' u, Same H H' → Bg H' u (lowB b (f ts d)) (lowT b (f ts d)) → Q u H'
theorem filter_succ (f : Nat → Bool) (j : Nat) : (List.range (j + 1)).filter f = (List.range j).filter f ++ if f j = true then [j] else [] := by
  rw [List.range_succ, List.filter_append]
  congr 1
  cases h : f j <;> simp [h]
theorem filter_len (f : Nat → Bool) (j : Nat) : ((List.range j).filter f).length ≤ j := by
  have := List.length_filter_le f (List.range j)
  rw [List.length_range] at this
  exact this
theorem getD_at {l : List Int} {i : Nat} (h : i < l.length) : (l.map V.int)[i]? = some (V.int (l.getD i 0)) := by
  rw [List.getElem?_map, List.getElem?_eq_getElem h, List.getD_eq_getElem?_getD, List.getElem?_eq_getElem h]
  rfl
section
variable {P : Program} {w : World} {K : PySem.W.Frag} {mg : Str → Option Value} {base : Heap}
end
end Ft

set_option exponentiation.threshold 9000
namespace Ft
open PySem L2
theorem flat_one {α : Type} (x : α) : ∀ n : Nat, (List.replicate n [x]).flatten = List.replicate n x
  | 0 => rfl
  | n + 1 => by rw [List.replicate_succ, List.flatten_cons, flat_one x n, List.replicate_succ]; rfl
/-- the first place where two rows part -/
def apartGo (b1 b2 : Int) (t1 t2 : List Int) : Nat → Nat → Option Nat
  | 0, _ => none
  | f + 1, i => if t1.getD i 0 * b2 = t2.getD i 0 * b1 then apartGo b1 b2 t1 t2 f (i + 1) else some i
def apart (b1 b2 : Int) (t1 t2 : List Int) : Option Nat := apartGo b1 b2 t1 t2 (min t1.length t2.length) 0
def optV : Option Nat → V
  | none => .non
  | some n => .int (n : Int)
def sp_apart : Sp := fun vs H Q _ => ∃ u v b1 b2 t1 t2, vs = [u, v] ∧ Bg H u b1 t1 ∧ Bg H v b2 t2 ∧ BgOk b1 t1 ∧ BgOk b2 t2 ∧ b1.natAbs < 2 ^ 8000 ∧ b2.natAbs < 2 ^ 8000 ∧ (∀ x ∈ t1, x.natAbs < 2 ^ 8000) ∧ (∀ x ∈ t2, x.natAbs < 2 ^ 8000) ∧ ∀ H', Same H H' → Q (optV (apart b1 b2 t1 t2)) H'
theorem mul8 {i j : Int} (h1 : i.natAbs < 2 ^ 8000) (h2 : j.natAbs < 2 ^ 8000) : CMulW i j := wide_mul h1 h2 (by decide) (by decide) (by decide)
theorem getD_mem {l : List Int} {i : Nat} (h : i < l.length) : l.getD i 0 ∈ l := by
  rw [List.getD_eq_getElem?_getD, List.getElem?_eq_getElem h]
  exact List.getElem_mem h
section
variable {P : Program} {w : World} {K : PySem.W.Frag} {mg : Str → Option Value} {base : Heap}
end
end Ft

set_option exponentiation.threshold 9000
namespace Ft
open PySem L2
/-! ### lowest terms of rows -/
theorem gcdL_mul (c : Nat) : ∀ (ts : List Int) (g : Nat), gcdL (c * g) (ts.map fun t => (c : Int) * t) = c * gcdL g ts
  | [], g => rfl
  | t :: ts, g => by
    show gcdL (Nat.gcd (c * g) ((c : Int) * t).natAbs) (ts.map fun t => (c : Int) * t) = c * gcdL (Nat.gcd g t.natAbs) ts
    rw [Int.natAbs_mul, Int.natAbs_natCast, Nat.gcd_mul_left]
    exact gcdL_mul c ts _
theorem gcdL_mem : ∀ (ts : List Int) (g : Nat) (t : Int), t ∈ ts → gcdL g ts ∣ t.natAbs
  | u :: ts, g, t, h => by
    show gcdL (Nat.gcd g u.natAbs) ts ∣ t.natAbs
    rcases List.mem_cons.mp h with rfl | h
    · exact Nat.dvd_trans (gcdL_dvd ts _) (Nat.gcd_dvd_right _ _)
    · exact gcdL_mem ts _ t h
theorem low_mul {c : Nat} (hc : 0 < c) {b : Int} (hb : 0 < b) (ts : List Int) : lowB ((c : Int) * b) (ts.map fun t => (c : Int) * t) = lowB b ts ∧ lowT ((c : Int) * b) (ts.map fun t => (c : Int) * t) = lowT b ts := by
  have e : gcdL ((c : Int) * b).natAbs (ts.map fun t => (c : Int) * t) = c * gcdL b.natAbs ts := by
    rw [Int.natAbs_mul, Int.natAbs_natCast]
    exact gcdL_mul c ts _
  have c0 : (0 : Int) < (c : Int) := by omega
  unfold lowB lowT
  rw [e, Int.natCast_mul]
  refine ⟨Int.mul_ediv_mul_of_pos _ _ c0, ?_⟩
  rw [List.map_map]
  exact List.map_congr_left fun t _ => Int.mul_ediv_mul_of_pos _ _ c0
theorem gcdL_pos {b : Int} (hb : 0 < b) (ts : List Int) : 0 < gcdL b.natAbs ts := Nat.pos_of_dvd_of_pos (gcdL_dvd ts _) (by omega)
theorem mul_lowB {b : Int} (ts : List Int) : ((gcdL b.natAbs ts : Nat) : Int) * lowB b ts = b :=
  Int.mul_ediv_cancel' (Int.dvd_natAbs.mp (Int.natCast_dvd_natCast.mpr (gcdL_dvd ts _)))
theorem mul_lowT {b : Int} (ts : List Int) : (lowT b ts).map (fun t => ((gcdL b.natAbs ts : Nat) : Int) * t) = ts := by
  unfold lowT
  rw [List.map_map]
  conv => rhs; rw [← List.map_id ts]
  exact List.map_congr_left fun t ht => Int.mul_ediv_cancel' (Int.dvd_natAbs.mp (Int.natCast_dvd_natCast.mpr (gcdL_mem ts _ t ht)))
theorem lowB_pos {b : Int} (hb : 0 < b) (ts : List Int) : 0 < lowB b ts := by
  have h1 := mul_lowB (b := b) ts
  have h2 := gcdL_pos hb ts
  rcases Int.lt_trichotomy (lowB b ts) 0 with h | h | h
  · have := Int.mul_neg_of_pos_of_neg (a := ((gcdL b.natAbs ts : Nat) : Int)) (b := lowB b ts) (by omega) h
    omega
  · rw [h, Int.mul_zero] at h1
    omega
  · exact h
theorem lowB_le {b : Int} (hb : 0 < b) (ts : List Int) : lowB b ts ≤ b := Int.ediv_le_self _ (by omega)
/-- a deed on rows that keeps multiples -/
def Lin (F : List Int → List Int) : Prop := ∀ (c : Int) (ts : List Int), F (ts.map fun t => c * t) = (F ts).map fun t => c * t
theorem low_lin {F : List Int → List Int} (hF : Lin F) {b : Int} (hb : 0 < b) (ts : List Int) : lowB (lowB b ts) (F (lowT b ts)) = lowB b (F ts) ∧ lowT (lowB b ts) (F (lowT b ts)) = lowT b (F ts) := by
  have h := low_mul (gcdL_pos hb ts) (lowB_pos hb ts) (F (lowT b ts))
  rw [mul_lowB, ← hF, mul_lowT] at h
  exact ⟨h.1.symm, h.2.symm⟩
theorem getD_mul (c : Int) (ts : List Int) (i : Nat) : (ts.map fun t => c * t).getD i 0 = c * ts.getD i 0 := by
  rw [List.getD_eq_getElem?_getD, List.getD_eq_getElem?_getD, List.getElem?_map]
  cases ts[i]? with
  | none => exact (Int.mul_zero c).symm
  | some x => rfl
theorem getD_range (g : Nat → Int) (m i : Nat) : ((List.range m).map g).getD i 0 = if i < m then g i else 0 := by
  rw [List.getD_eq_getElem?_getD, List.getElem?_map]
  by_cases h : i < m
  · rw [List.getElem?_range h, if_pos h]; rfl
  · rw [List.getElem?_eq_none (by rw [List.length_range]; omega), if_neg h]; rfl
/-! ### texts of beginnings -/
theorem int_short {v : Int} (h : v.natAbs < 2 ^ 250) : (PyData.int v).leavesShort 100 = true := by
  have key : (PyData.shown (.int v)).length ≤ 100 := by
    have p : (2 : Int) ^ 140 < 10 ^ 78 := by decide
    rcases Int.lt_or_le v 0 with h0 | h0
    · obtain ⟨m, rfl⟩ : ∃ m : Nat, v = Int.negSucc m := ⟨v.natAbs - 1, by omega⟩
      have l := PyProof.Rows.toString_length_le (v := ((m + 1 : Nat) : Int)) (by omega) (k := 78) (by decide) (by omega)
      have e : toString (Int.negSucc m) = "-" ++ toString (m + 1) := rfl
      show (Str.ofString (toString (Int.negSucc m))).length ≤ 100
      rw [e, PyProof.Rows.ofString_length, String.toList_append, List.length_append]
      rw [PyProof.Rows.ofString_length] at l
      have l' : (toString (m + 1)).toList.length ≤ 78 := l
      have : "-".toList.length = 1 := by decide
      omega
    · have l := PyProof.Rows.toString_length_le h0 (k := 78) (by decide) (by omega)
      exact Nat.le_trans l (by decide)
  simpa only [PyData.leavesShort, decide_eq_true_eq] using key
theorem ints_short : ∀ {ts : List Int}, (∀ x ∈ ts, x.natAbs < 2 ^ 250) → PyData.leavesShortAll 100 (ts.map PyData.int) = true
  | [], _ => by simp only [List.map_nil, PyData.leavesShortAll]
  | t :: ts, h => by
    simp only [List.map_cons, PyData.leavesShortAll, Bool.and_eq_true]
    exact ⟨int_short (h t List.mem_cons_self), ints_short fun x hx => h x (List.mem_cons_of_mem _ hx)⟩
theorem ints_bulk : ∀ ts : List Int, PyData.bulkAll (ts.map PyData.int) = ts.length
  | [] => by simp only [List.map_nil, PyData.bulkAll, List.length_nil]
  | t :: ts => by
    simp only [List.map_cons, PyData.bulkAll, PyData.bulk, List.length_cons, ints_bulk ts]
    omega
theorem int_showable {v : Int} (h : v.natAbs < 2 ^ 250) : (PyData.int v).showable = true := by
  have := PySem.Flt.log2_lt_of (by decide) h
  simp only [PyData.showable, decide_eq_true_eq]
  omega
theorem ints_showable : ∀ {ts : List Int}, (∀ x ∈ ts, x.natAbs < 2 ^ 250) → PyData.showableAll (ts.map PyData.int) = true
  | [], _ => by simp only [List.map_nil, PyData.showableAll]
  | t :: ts, h => by
    simp only [List.map_cons, PyData.showableAll, Bool.and_eq_true]
    exact ⟨int_showable (h t List.mem_cons_self), ints_showable fun x hx => h x (List.mem_cons_of_mem _ hx)⟩
def bgD (b : Int) (ts : List Int) : PyData := .tuple [.int b, .tuple (ts.map PyData.int)]
/-- short enough to be shown -/
structure BgS (b : Int) (ts : List Int) : Prop where
  hb : b.natAbs < 2 ^ 250
  hts : ∀ x ∈ ts, x.natAbs < 2 ^ 250
  len : ts.length ≤ 1000
theorem dp_bg {K : PySem.W.Frag} {H : Hp} {v : V} {b : Int} {ts : List Int} (h : Bg H v b ts) : Dp K H v (bgD b ts) := by
  obtain ⟨p, q, rfl, h1, h2⟩ := h
  exact .tup (SqT.of h1) (.cons (.int b) (.cons (.tup (SqT.of h2) (dp_ints ts)) .nil))
/-- what repr asks of a datum -/
structure RepOk (d : PyData) : Prop where
  show_ : d.showable = true
  dict : d.hasDict = false
  depth : d.depth ≤ 64
  len : d.shown.length ≤ sizeLine
theorem bgD_depth (b : Int) (ts : List Int) : (bgD b ts).depth = 2 := by
  have e : PyData.depth (.tuple (ts.map PyData.int)) = 1 := by
    show PyData.depthAll (ts.map PyData.int) + 1 = 1
    rw [depth_ints]
  show max 0 (max (PyData.depth (.tuple (ts.map PyData.int))) 0) + 1 = 2
  rw [e]
  rfl
theorem bgD_short {b : Int} {ts : List Int} (h : BgS b ts) : (bgD b ts).leavesShort 100 = true := by
  simp only [bgD, PyData.leavesShort, PyData.leavesShortAll, Bool.and_eq_true, Bool.and_true]
  refine ⟨?_, ints_short h.hts⟩
  have := int_short h.hb
  simpa only [PyData.leavesShort] using this
theorem bgD_showable {b : Int} {ts : List Int} (h : BgS b ts) : (bgD b ts).showable = true := by
  simp only [bgD, PyData.showable, PyData.showableAll, Bool.and_eq_true, Bool.and_true]
  refine ⟨?_, ints_showable h.hts⟩
  have := int_showable h.hb
  simpa only [PyData.showable] using this
theorem ints_dict (ts : List Int) : PyData.hasDictAll (ts.map PyData.int) = false := by
  induction ts with
  | nil => simp only [List.map_nil, PyData.hasDictAll]
  | cons t ts ih => simp only [List.map_cons, PyData.hasDictAll, PyData.hasDict, ih, Bool.or_self]
theorem bgD_dict (b : Int) (ts : List Int) : (bgD b ts).hasDict = false := by
  simp only [bgD, PyData.hasDict, PyData.hasDictAll, ints_dict, Bool.or_self]
theorem bgD_bulk (b : Int) (ts : List Int) : (bgD b ts).bulk = ts.length + 2 := by
  simp only [bgD, PyData.bulk, PyData.bulkAll, ints_bulk]
  omega
theorem rep_bg {b : Int} {ts : List Int} (h : BgS b ts) : RepOk (bgD b ts) := by
  refine ⟨bgD_showable h, bgD_dict b ts, by rw [bgD_depth]; decide, ?_⟩
  have l := PyData.shown_le_bulk 100 (by decide) (bgD b ts) (bgD_short h)
  rw [bgD_bulk] at l
  have := h.len
  have e : sizeLine = 16777216 := by decide
  omega
theorem low_short {b : Int} {ts : List Int} (h : BgS b ts) : BgS (lowB b ts) (lowT b ts) := by
  refine ⟨Nat.lt_of_le_of_lt (Int.natAbs_ediv_le_natAbs _ _) h.hb, fun x hx => ?_, by unfold lowT; rw [List.length_map]; exact h.len⟩
  obtain ⟨t, ht, rfl⟩ := List.mem_map.mp hx
  exact Nat.lt_of_le_of_lt (Int.natAbs_ediv_le_natAbs _ _) (h.hts t ht)
theorem low_ok {b : Int} {ts : List Int} (h : BgOk b ts) : BgOk (lowB b ts) (lowT b ts) := by
  have b0 := h.1
  have p := lowB_pos (b := b) (by omega) ts
  refine ⟨by omega, ?_, ?_⟩
  · unfold lowT; rw [List.length_map]; exact h.2.1
  · unfold lowT; rw [List.length_map]; exact h.2.2
theorem rep_one {K : PySem.W.Frag} {H : Hp} {u : V} {b : Int} {ts : List Int} {Q : VK} (g : Bg H u b ts) (S : BgS b ts) (q : ∀ z, z = (bgD b ts).shown → Q (.str z) H) : rRepr K [u] H Q := by
  have d := dp_bg (K := K) g
  obtain ⟨p, r, rfl, _, _⟩ := g
  have R := rep_bg S
  exact ⟨p, _, rfl, d, R.show_, R.dict, R.depth, R.len, q _ rfl⟩
end Ft

set_option exponentiation.threshold 9000
namespace Ft
open PySem L2
theorem int_short7 {v : Int} (h : v.natAbs < 2 ^ 1900) : (PyData.int v).leavesShort 700 = true := by
  have key : (PyData.shown (.int v)).length ≤ 700 := by
    have p : (2 : Int) ^ 1900 < 10 ^ 650 := by decide
    have p2 : (2 : Int) ^ 1900 = ((2 ^ 1900 : Nat) : Int) := by rw [Int.natCast_pow]; rfl
    rcases Int.lt_or_le v 0 with h0 | h0
    · obtain ⟨m, rfl⟩ : ∃ m : Nat, v = Int.negSucc m := ⟨v.natAbs - 1, by omega⟩
      have l := PyProof.Rows.toString_length_le (v := ((m + 1 : Nat) : Int)) (by omega) (k := 650) (by decide) (Int.lt_trans (by rw [p2]; exact Int.ofNat_lt.mpr h) p)
      have e : toString (Int.negSucc m) = "-" ++ toString (m + 1) := rfl
      show (Str.ofString (toString (Int.negSucc m))).length ≤ 700
      rw [e, PyProof.Rows.ofString_length, String.toList_append, List.length_append]
      rw [PyProof.Rows.ofString_length] at l
      have l' : (toString (m + 1)).toList.length ≤ 650 := l
      have : "-".toList.length = 1 := by decide
      omega
    · have l := PyProof.Rows.toString_length_le h0 (k := 650) (by decide) (Int.lt_trans (by rw [p2]; omega) p)
      exact Nat.le_trans l (by decide)
  simpa only [PyData.leavesShort, decide_eq_true_eq] using key
theorem int_showable7 {v : Int} (h : v.natAbs < 2 ^ 1900) : (PyData.int v).showable = true := by
  have := PySem.Flt.log2_lt_of (by decide) h
  simp only [PyData.showable, decide_eq_true_eq]
  omega
structure Rs (k m : Nat) (d : PyData) : Prop where
  show_ : d.showable = true
  dict : d.hasDict = false
  depth : d.depth ≤ k
  short : d.leavesShort 700 = true
  bulk : d.bulk ≤ m
structure RsL (k m : Nat) (ds : List PyData) : Prop where
  show_ : PyData.showableAll ds = true
  dict : PyData.hasDictAll ds = false
  depth : PyData.depthAll ds ≤ k
  short : PyData.leavesShortAll 700 ds = true
  bulk : PyData.bulkAll ds ≤ m
theorem Rs.mono {k m k' m' : Nat} {d : PyData} (h : Rs k m d) (h1 : k ≤ k') (h2 : m ≤ m') : Rs k' m' d := ⟨h.show_, h.dict, Nat.le_trans h.depth h1, h.short, Nat.le_trans h.bulk h2⟩
theorem RsL.nil {k : Nat} : RsL k 0 [] := ⟨by simp only [PyData.showableAll], by simp only [PyData.hasDictAll], by simp only [PyData.depthAll]; omega, by simp only [PyData.leavesShortAll], by simp only [PyData.bulkAll]; omega⟩
theorem RsL.cons {k m n : Nat} {d : PyData} {ds : List PyData} (h : Rs k m d) (t : RsL k n ds) : RsL k (m + n + 2) (d :: ds) := by
  refine ⟨?_, ?_, ?_, ?_, ?_⟩
  · simp only [PyData.showableAll, h.show_, t.show_, Bool.and_self]
  · simp only [PyData.hasDictAll, h.dict, t.dict, Bool.or_self]
  · simp only [PyData.depthAll]
    have := h.depth
    have := t.depth
    omega
  · simp only [PyData.leavesShortAll, h.short, t.short, Bool.and_self]
  · simp only [PyData.bulkAll]
    have := h.bulk
    have := t.bulk
    omega
theorem Rs.tup {k m : Nat} {ds : List PyData} (t : RsL k m ds) : Rs (k + 1) (m + 2) (.tuple ds) := by
  refine ⟨?_, ?_, ?_, ?_, ?_⟩
  · simp only [PyData.showable, t.show_]
  · simp only [PyData.hasDict, t.dict]
  · simp only [PyData.depth]
    have := t.depth
    omega
  · simp only [PyData.leavesShort, t.short]
  · simp only [PyData.bulk]
    have := t.bulk
    omega
theorem Rs.list {k m : Nat} {ds : List PyData} (t : RsL k m ds) : Rs (k + 1) (m + 2) (.list ds) := by
  refine ⟨?_, ?_, ?_, ?_, ?_⟩
  · simp only [PyData.showable, t.show_]
  · simp only [PyData.hasDict, t.dict]
  · simp only [PyData.depth]
    have := t.depth
    omega
  · simp only [PyData.leavesShort, t.short]
  · simp only [PyData.bulk]
    have := t.bulk
    omega
theorem rs_int {v : Int} {k m : Nat} (h : v.natAbs < 2 ^ 1900) : Rs k (m + 1) (.int v) := ⟨int_showable7 h, by simp only [PyData.hasDict], by simp only [PyData.depth]; omega, int_short7 h, by simp only [PyData.bulk]; omega⟩
theorem rs_ints {k : Nat} : ∀ {ts : List Int}, (∀ x ∈ ts, x.natAbs < 2 ^ 1900) → RsL k (3 * ts.length) (ts.map PyData.int)
  | [], _ => .nil
  | t :: ts, h => by
    have := RsL.cons (rs_int (k := k) (m := 0) (h t List.mem_cons_self)) (rs_ints (k := k) (ts := ts) fun x hx => h x (List.mem_cons_of_mem _ hx))
    exact ⟨this.show_, this.dict, this.depth, this.short, Nat.le_trans this.bulk (by rw [List.length_cons]; omega)⟩
theorem Rs.rep {k m : Nat} {d : PyData} (h : Rs k m d) (hk : k ≤ 64) (hm : m ≤ 10000) : RepOk d := by
  refine ⟨h.show_, h.dict, Nat.le_trans h.depth hk, ?_⟩
  have l := PyData.shown_le_bulk 700 (by decide) d h.short
  have := h.bulk
  have e : sizeLine = 16777216 := by decide
  have b := Nat.mul_le_mul_left 702 (Nat.le_trans h.bulk hm)
  omega
theorem rs_bg {b : Int} {ts : List Int} (hb : b.natAbs < 2 ^ 1900) (ht : ∀ x ∈ ts, x.natAbs < 2 ^ 1900) (hl : ts.length ≤ 400) : Rs 2 1300 (bgD b ts) := (Rs.tup (RsL.cons (rs_int (m := 0) hb) (RsL.cons (Rs.tup (rs_ints (k := 0) ht)) .nil))).mono (Nat.le_refl _) (by omega)
theorem rep_big {K : PySem.W.Frag} {H : Hp} {u : V} {b : Int} {ts : List Int} {Q : VK} (g : Bg H u b ts) (hb : b.natAbs < 2 ^ 1900) (ht : ∀ x ∈ ts, x.natAbs < 2 ^ 1900) (hl : ts.length ≤ 400) (q : ∀ z, z = (bgD b ts).shown → Q (.str z) H) : rRepr K [u] H Q := by
  have d := dp_bg (K := K) g
  obtain ⟨p, r, rfl, _, _⟩ := g
  have R := (rs_bg hb ht hl).rep (by decide) (by decide)
  exact ⟨p, _, rfl, d, R.show_, R.dict, R.depth, R.len, q _ rfl⟩
theorem low_big {N : Nat} {b : Int} {ts : List Int} (hb : b.natAbs < N) (ht : ∀ x ∈ ts, x.natAbs < N) : (lowB b ts).natAbs < N ∧ ∀ x ∈ lowT b ts, x.natAbs < N := by
  refine ⟨Nat.lt_of_le_of_lt (Int.natAbs_ediv_le_natAbs _ _) hb, fun x hx => ?_⟩
  obtain ⟨t, h, rfl⟩ := List.mem_map.mp hx
  exact Nat.lt_of_le_of_lt (Int.natAbs_ediv_le_natAbs _ _) (ht t h)
end Ft

namespace Ft
open PySem L2 PySem.Spec PyProof.Rows
/-! ### any value that repr shows: leaves, lists, tuples, dicts with ints and texts as keys; N: where it may stand -/
def keyD : Key → PyData
  | .inl i => .int i
  | .inr x => .str x
inductive Rp (H : Hp) (a : Addr) (u : HO) : Prop
  | inl (e : H a = some u) : Rp H a u
theorem Rp.rd {H : Hp} {a : Addr} {u : HO} : Rp H a u → Rd H a u
  | .inl e => .inl e
instance {H : Hp} {a : Addr} {u : HO} : Coe (Rp H a u) (Rd H a u) := ⟨Rp.rd⟩
mutual
inductive Dq (H : Hp) (N : Addr → Prop) : V → PyData → Prop
  | non : Dq H N .non .none
  | bl (b : Bool) : Dq H N (.bl b) (.bool b)
  | int (i : Int) : Dq H N (.int i) (.int i)
  | str (x : Str) : Dq H N (.str x) (.str x)
  | lst {a : Addr} {xs : List V} {ds : List PyData} (n : N a) (e : Rp H a (.lst xs)) (h : DqAll H N xs ds) : Dq H N (.ref a) (.list ds)
  | tup {a : Addr} {xs : List V} {ds : List PyData} (n : N a) (e : Rp H a (.tup xs)) (h : DqAll H N xs ds) : Dq H N (.ref a) (.tuple ds)
  | dict {a : Addr} {kvs : List (Key × V)} {kds : List (PyData × PyData)} (n : N a) (e : H a = some (.dK kvs)) (hk : kds.map (·.1) = kvs.map fun kv => keyD kv.1) (h : DqAll H N (kvs.map (·.2)) (kds.map (·.2))) : Dq H N (.ref a) (.dict kds)
inductive DqAll (H : Hp) (N : Addr → Prop) : List V → List PyData → Prop
  | nil : DqAll H N [] []
  | cons {v : V} {vs : List V} {d : PyData} {ds : List PyData} (h : Dq H N v d) (t : DqAll H N vs ds) : DqAll H N (v :: vs) (d :: ds)
end
theorem Rp.move {H H' : Hp} {N : Addr → Prop} (m : ∀ b o, N b → H b = some o → (∀ ps, o ≠ .tbl ps) → H' b = some o) {a : Addr} {u : HO} (n : N a) (hu : ∀ ps, u ≠ .tbl ps) : Rp H a u → Rp H' a u
  | .inl e => .inl (m _ _ n e hu)
theorem Rp.ok' {H : Hp} {N M : Addr → Prop} (k : ∀ b o, N b → H b = some o → (∀ ps, o ≠ .tbl ps) → M b) {a : Addr} {u : HO} (n : N a) (hu : ∀ ps, u ≠ .tbl ps) : Rp H a u → M a
  | .inl e => k _ _ n e hu
mutual
theorem Dq.move {H H' : Hp} {N M : Addr → Prop} (m : ∀ b o, N b → H b = some o → (∀ ps, o ≠ .tbl ps) → H' b = some o) (k : ∀ b o, N b → H b = some o → (∀ ps, o ≠ .tbl ps) → M b) : ∀ {v : V} {d : PyData}, Dq H N v d → Dq H' M v d
  | _, _, .non => .non
  | _, _, .bl b => .bl b
  | _, _, .int i => .int i
  | _, _, .str x => .str x
  | _, _, .lst n e h => .lst (Rp.ok' k n (fun ps z => by cases z) e) (Rp.move m n (fun ps z => by cases z) e) (DqAll.move m k h)
  | _, _, .tup n e h => .tup (Rp.ok' k n (fun ps z => by cases z) e) (Rp.move m n (fun ps z => by cases z) e) (DqAll.move m k h)
  | _, _, .dict n e hk h => .dict (k _ _ n e fun ps z => by cases z) (m _ _ n e fun ps z => by cases z) hk (DqAll.move m k h)
theorem DqAll.move {H H' : Hp} {N M : Addr → Prop} (m : ∀ b o, N b → H b = some o → (∀ ps, o ≠ .tbl ps) → H' b = some o) (k : ∀ b o, N b → H b = some o → (∀ ps, o ≠ .tbl ps) → M b) : ∀ {vs : List V} {ds : List PyData}, DqAll H N vs ds → DqAll H' M vs ds
  | _, _, .nil => .nil
  | _, _, .cons h t => .cons (Dq.move m k h) (DqAll.move m k t)
end
theorem Dq.same {H H' : Hp} {N : Addr → Prop} {v : V} {d : PyData} (h : Dq H N v d) (s : Same H H') : Dq H' N v d := h.move (fun b o _ e _ => s b o e) fun _ _ n _ _ => n
theorem Dq.ext {H H' : Hp} {N : Addr → Prop} {v : V} {d : PyData} (h : Dq H N v d) (s : LamX.ExtN H H') : Dq H' N v d := h.move (fun b o _ e n => s b o e n) fun _ _ n _ _ => n
theorem Dq.any {H : Hp} {N : Addr → Prop} {v : V} {d : PyData} (h : Dq H N v d) : Dq H (fun _ => True) v d := h.move (fun _ _ _ e _ => e) fun _ _ _ _ _ => trivial
/-- away from a deck -/
def Off (d l : Addr) : Addr → Prop := fun a => a ≠ d ∧ a ≠ l
theorem Dq.but {H H' : Hp} {d l : Addr} {v : V} {D : PyData} (h : Dq H (Off d l) v D) (bt : But d l H H') : Dq H' (Off d l) v D := h.move (fun b o n e _ => bt b o e n.1 n.2) fun _ _ n _ _ => n
theorem DqAll.same {H H' : Hp} {N : Addr → Prop} {v : List V} {d : List PyData} (h : DqAll H N v d) (s : Same H H') : DqAll H' N v d := h.move (fun b o _ e _ => s b o e) fun _ _ n _ _ => n
theorem mem_short {ts : List Str} {x : Str} {B : Nat} (f : List Str → Str) (hf : ∀ {ts t}, t ∈ ts → t.length ≤ (f ts).length) (z : (f ts).length ≤ B) (h : x ∈ ts) : x.length ≤ B := Nat.le_trans (hf h) z
theorem reads_keys {h : Heap} {P : Program} {w : World} {es : List DictEntry} {vs : List (Key × Value)} (p : Pairs (mixKind P w) es vs) : ReadsAll h (es.map (·.key)) (vs.map fun kv => keyD kv.1) [] := by
  induction p with
  | nil => exact .nil
  | @cons e kv es kvs h1 h2 t ih =>
    obtain ⟨k, u⟩ := kv
    rcases keyIs_shape h1 with ⟨i, y, a, b⟩ | ⟨i, y, a, b⟩
    · have a : k = Sum.inl i := a
      subst a
      show ReadsAll h (e.key :: _) (PyData.int i :: _) ([] ++ [])
      rw [b]
      exact .cons (.int i y) ih
    · have a : k = Sum.inr i := a
      subst a
      show ReadsAll h (e.key :: _) (PyData.str i :: _) ([] ++ [])
      rw [b]
      exact .cons (.str i y) ih
theorem pairs_vals {P : Program} {w : World} {es : List DictEntry} {vs : List (Key × Value)} (p : Pairs (mixKind P w) es vs) : es.map (·.val) = vs.map (·.2) := by
  induction p with
  | nil => rfl
  | @cons e kv es kvs h1 h2 t ih => rw [List.map_cons, List.map_cons, h2, ih]
theorem kv_vals {kvs : List (Key × V)} {vs : List (Key × Value)} (r : KV kvs vs) : Vals (kvs.map (·.2)) (vs.map (·.2)) := by
  unfold KV at r
  induction r with
  | nil => exact .nil
  | cons h t ih => exact .cons h.2 ih
theorem noDict_keys : ∀ l : List (Key × V), PyData.hasDictAll (l.map fun kv => keyD kv.1) = false
  | [] => by simp only [List.map_nil, PyData.hasDictAll]
  | (.inl i, _) :: r => by
    have h := noDict_keys r
    rw [List.map_cons]
    simp only [PyData.hasDictAll, h, Bool.or_false]
    rfl
  | (.inr i, _) :: r => by
    have h := noDict_keys r
    rw [List.map_cons]
    simp only [PyData.hasDictAll, h, Bool.or_false]
    rfl
section
variable {X : Cx} {pins : List (Addr × Obj)} {σ : L2.St} {H : Hp} {s : Shared} {N : Addr → Prop}
/-- a value's repr within another's -/
abbrev Shows (P : Program) (w : World) (h : Heap) (n : Nat) (u : Value) (d : PyData) : Prop := ∃ as bs, Reads h u d as ∧ ReadAtMost h n bs ∧ ReprK P w bs h n u d.shown
abbrev ShowsAll (P : Program) (w : World) (h : Heap) (us : List Value) (ds : List PyData) : Prop := ∃ as bs, ReadsAll h us ds as ∧ ReadAtMost h (PyData.depthAll ds) bs ∧ ReprAllK P w bs h (PyData.depthAll ds) us (PyData.shownAll ds)
theorem tup_shows {a : Addr} {o : Obj} {n : Nat} {its : List Value} {ds : List PyData} {h : Heap} {P : Program} {w : World} (g : h.get? a = some o) (c : o.cls = .type "tuple") (dt : o.data = .seq its.toArray n) (q : ShowsAll P w h its ds) : Shows P w h (PyData.tuple ds).depth (.ref a) (.tuple ds) := by
  obtain ⟨as, bs, r, m, k⟩ := q
  have rr : Reads h (.ref a) (.tuple ds) as := .tuple g c dt r
  have lt : PyData.depthAll ds < (PyData.tuple ds).depth := by simp only [PyData.depth]; omega
  refine ⟨as, a :: bs, rr, m.cons rr (Nat.le_of_lt lt), ?_⟩
  have z := ReprK.tuple g c dt (not_mem_of_deeper rr lt m) k
  simpa only [PyData.depth, PyData.shown] using z
theorem lst_shows {a : Addr} {o : Obj} {n : Nat} {its : List Value} {ds : List PyData} {h : Heap} {P : Program} {w : World} (g : h.get? a = some o) (c : o.cls = .type "list") (dt : o.data = .seq its.toArray n) (q : ShowsAll P w h its ds) : Shows P w h (PyData.list ds).depth (.ref a) (.list ds) := by
  obtain ⟨as, bs, r, m, k⟩ := q
  have rr : Reads h (.ref a) (.list ds) (a :: as) := .list g c dt r
  have lt : PyData.depthAll ds < (PyData.list ds).depth := by simp only [PyData.depth]; omega
  refine ⟨_, a :: bs, rr, m.cons rr (Nat.le_of_lt lt), ?_⟩
  have nm := not_mem_of_deeper rr lt m
  cases its with
  | nil =>
    cases r
    have z := ReprK.listEmpty (prog := P) (w := w) (as := a :: bs) (d := (PyData.list []).depth) g c dt
    simpa only [PyData.shown, PyData.shownAll, listText_nil] using z
  | cons x l =>
    have z := ReprK.list g c dt nm (by simpa using k.length_eq) fun i y e => k.item i y (by simpa using e)
    simpa only [PyData.depth, PyData.shown] using z
theorem dict_shows {a : Addr} {kvs : List (Key × V)} {kds : List (PyData × PyData)} (ok : HOk X.prog X.w H s.heap) (e : H a = some (.dK kvs)) (hk : kds.map (·.1) = kvs.map fun kv => keyD kv.1) (hz : (PyData.dict kds).shown.length ≤ sizeLine) (hs : (PyData.dict kds).showable = true)
    (q : ∀ us, Vals (kvs.map (·.2)) us → ShowsAll X.prog X.w s.heap us (kds.map (·.2))) : (∃ (o : Obj) (es : Array DictEntry) (n : Nat) (bs : List Addr), s.heap.get? a = some o ∧ o.cls = .type "dict" ∧ o.data = .dict es n ∧ (a == sysModules) = false ∧ a ∉ bs ∧
      ReprEntriesK X.prog X.w bs s.heap (PyData.depthKv kds) es.toList (List.zipWith (fun k v : Str => k ++ ": " ++ v) (PyData.shownAll (kds.map (·.1))) (PyData.shownAll (kds.map (·.2))))) ∧ Shows X.prog X.w s.heap (PyData.dict kds).depth (.ref a) (.dict kds) := by
  obtain ⟨_, sm, vs, rel, o, es, ep, g, ex, dt, _, pr, _⟩ := dk_of ok e
  have hkeys : kvs.map (fun kv => keyD kv.1) = vs.map fun kv => keyD kv.1 := by
    have := congrArg (List.map keyD) rel.keys
    rw [List.map_map, List.map_map] at this
    exact this
  have r1 : ReadsAll s.heap (es.toList.map (·.key)) (kds.map (·.1)) [] := by
    rw [hk, hkeys]
    exact reads_keys pr
  obtain ⟨as2, b2, r2, m2, k2⟩ := q (es.toList.map (·.val)) (by rw [pairs_vals pr]; exact kv_vals rel)
  have z' : (dictText (PyData.shownKv kds)).length ≤ sizeLine := by simpa only [PyData.shown] using hz
  obtain ⟨s1, s2⟩ := PyData.showableKv_split kds (by simpa [PyData.showable] using hs)
  obtain ⟨b1, m1, k1⟩ := ReprAllK.of_readsAll (prog := X.prog) (w := X.w) r1 s1 (fun y => by rw [hk, noDict_keys] at y; cases y) fun t ht => by
    obtain ⟨p, hp, hl⟩ := PyData.shownKv_key_le kds t ht
    exact Nat.le_trans hl (mem_short dictText dictText_mem_le z' hp)
  have rr : Reads s.heap (.ref a) (.dict kds) _ := .dict g ex.1 dt r1 r2
  have mm : ReadAtMost s.heap (PyData.depthKv kds) (b1 ++ b2) := ReadAtMost.append (m1.mono (PyData.depthAll_keys_le kds)) (m2.mono (PyData.depthAll_vals_le kds))
  have lt : PyData.depthKv kds < (PyData.dict kds).depth := by simp only [PyData.depth]; omega
  have nm := not_mem_of_deeper rr lt mm
  have ent := ReprEntriesK.of_two (prog := X.prog) (w := X.w) (h₀ := s.heap) (as := b1 ++ b2) (d := PyData.depthKv kds) es.toList _ _ (k1.more_le (fun b hb => List.mem_append.mpr (.inl hb)) (PyData.depthAll_keys_le kds)) (k2.more_le (fun b hb => List.mem_append.mpr (.inr hb)) (PyData.depthAll_vals_le kds))
  refine ⟨⟨o, es, ep, _, g, ex.1, dt, sm, nm, ent⟩, _, a :: (b1 ++ b2), rr, mm.cons rr (Nat.le_of_lt lt), ?_⟩
  have z := ReprK.dict g ex.1 dt sm nm ent
  simpa only [PyData.depth, PyData.shown, PyData.shownKv_eq] using z
mutual
theorem Dq.shows (ok : HOk X.prog X.w H s.heap) : ∀ {v : V} {d : PyData}, Dq H N v d → ∀ {u : Value}, RelV v u → d.showable = true → d.shown.length ≤ sizeLine → Shows X.prog X.w s.heap d.depth u d
  | _, _, .non, _, r, hs, hz => by
    cases r
    obtain ⟨bs, m, k⟩ := ReprK.of_reads (prog := X.prog) (w := X.w) (h₀ := s.heap) .none hs (fun y => by simp [PyData.hasDict] at y) hz
    exact ⟨_, _, .none, m, k⟩
  | _, _, .bl b, _, r, hs, hz => by
    cases r
    obtain ⟨bs, m, k⟩ := ReprK.of_reads (prog := X.prog) (w := X.w) (h₀ := s.heap) (.bool b) hs (fun y => by simp [PyData.hasDict] at y) hz
    exact ⟨_, _, .bool b, m, k⟩
  | _, _, .int i, _, r, hs, hz => by
    obtain ⟨t, rfl⟩ := r
    obtain ⟨bs, m, k⟩ := ReprK.of_reads (prog := X.prog) (w := X.w) (h₀ := s.heap) (.int i t) hs (fun y => by simp [PyData.hasDict] at y) hz
    exact ⟨_, _, .int i t, m, k⟩
  | _, _, .str x, _, r, hs, hz => by
    obtain ⟨t, rfl⟩ := r
    obtain ⟨bs, m, k⟩ := ReprK.of_reads (prog := X.prog) (w := X.w) (h₀ := s.heap) (.str x t) hs (fun y => by simp [PyData.hasDict] at y) hz
    exact ⟨_, _, .str x t, m, k⟩
  | _, _, .lst (xs := xs) (ds := ds) _ e h, _, r, hs, hz => by
    cases r
    obtain ⟨_, its, n, rv, g⟩ := (show ObjOk X.prog X.w H s.heap _ (.lst xs) from e.rd.ok ok)
    exact lst_shows g rfl rfl (DqAll.shows ok h rv (by simpa [PyData.showable] using hs) fun t ht => mem_short listText listText_mem_le (by simpa only [PyData.shown] using hz) ht)
  | _, _, .tup (xs := xs) (ds := ds) _ e h, _, r, hs, hz => by
    cases r
    obtain ⟨_, its, rv, o, g, c, n, dt⟩ := (show ObjOk X.prog X.w H s.heap _ (.tup xs) from e.rd.ok ok)
    exact tup_shows g c dt (DqAll.shows ok h rv (by simpa [PyData.showable] using hs) fun t ht => mem_short tupleText tupleText_mem_le (by simpa only [PyData.shown] using hz) ht)
  | _, _, .dict (kvs := kvs) (kds := kds) _ e hk h, _, r, hs, hz => by
    cases r
    have z' : (dictText (PyData.shownKv kds)).length ≤ sizeLine := by simpa only [PyData.shown] using hz
    refine (dict_shows ok e hk hz hs fun us rv => DqAll.shows ok h rv (PyData.showableKv_split kds (by simpa [PyData.showable] using hs)).2 fun t ht => ?_).2
    obtain ⟨p, hp, hl⟩ := PyData.shownKv_val_le kds t ht
    exact Nat.le_trans hl (mem_short dictText dictText_mem_le z' hp)
theorem DqAll.shows (ok : HOk X.prog X.w H s.heap) : ∀ {vs : List V} {ds : List PyData}, DqAll H N vs ds → ∀ {us : List Value}, Vals vs us → PyData.showableAll ds = true → (∀ t ∈ PyData.shownAll ds, t.length ≤ sizeLine) → ShowsAll X.prog X.w s.heap us ds
  | _, _, .nil, _, r, _, _ => by
    cases r
    exact ⟨_, [], .nil, (fun _ y => by cases y), by simp only [PyData.shownAll]; exact .nil⟩
  | _, _, .cons (d := d) (ds := ds) h t, _, r, hs, hz => by
    cases r with
    | cons r1 r2 =>
      have hs' : d.showable = true ∧ PyData.showableAll ds = true := by simpa [PyData.showableAll] using hs
      obtain ⟨a1, b1, q1, m1, k1⟩ := Dq.shows ok h r1 hs'.1 (hz _ (by simp only [PyData.shownAll]; exact List.mem_cons_self))
      obtain ⟨a2, b2, q2, m2, k2⟩ := DqAll.shows ok t r2 hs'.2 fun t ht => hz t (by simp only [PyData.shownAll]; exact List.mem_cons_of_mem _ ht)
      have l1 : d.depth ≤ PyData.depthAll (d :: ds) := by simp only [PyData.depthAll]; omega
      have l2 : PyData.depthAll ds ≤ PyData.depthAll (d :: ds) := by simp only [PyData.depthAll]; omega
      refine ⟨_, b1 ++ b2, .cons q1 q2, (m1.mono l1).append (m2.mono l2), ?_⟩
      simp only [PyData.shownAll]
      exact .cons ((k1.more fun b hb => List.mem_append.mpr (.inl hb)).level_le l1) (k2.more_le (fun b hb => List.mem_append.mpr (.inr hb)) l2)
end
end
end Ft

namespace Ft
open PySem L2 PySem.Spec PyProof.Rows
structure RepQ (d : PyData) : Prop where
  show_ : d.showable = true
  depth : d.depth ≤ 64
  len : d.shown.length ≤ sizeLine
/-- repr of any value -/
def rReprQ : List V → Hp → VK → Prop := fun xs H Q => ∃ v d N, xs = [v] ∧ Dq H N v d ∧ RepQ d ∧ Q (.str d.shown) H
theorem call_reprU {X : Cx} (hgd : X.A.guards = some []) (un : X.A.units + 200 < cLine) : CallR X (.builtin "repr") rReprQ := by
  intro pins s σ H xs us Q I r h
  obtain ⟨v, d, N, rfl, hd, ⟨h1, h2, h3⟩, q⟩ := h
  obtain ⟨u, rfl, rx⟩ := vals1 r
  have fin : ∀ (h' : Heap) (u : Tok) (tk : Nat), (∀ b o, s.heap.get? b = some o → h'.get? b = some o) → ∃ (v : V) (H' : Hp), Inv X pins σ H' { s with heap := h', toks := tk } ∧ RelV v (.str d.shown u) ∧ Q v H' := fun h' u tk kept => ⟨.str d.shown, H, I.kept kept, ⟨_, rfl⟩, q⟩
  have tk1 : ∃ (v : V) (H' : Hp), Inv X pins σ H' { s with toks := s.toks + 1 } ∧ RelV v (.str d.shown s.toks) ∧ Q v H' := ⟨.str d.shown, H, I.tok _, ⟨_, rfl⟩, q⟩
  cases hd with
  | non => cases rx; exact P.repr_of_none tk1
  | bl b => cases rx; exact P.repr_of_bool tk1
  | int i =>
    obtain ⟨t, rfl⟩ := rx
    exact P.repr_of_int (by simpa [PyData.showable] using h1) tk1
  | str x =>
    obtain ⟨t, rfl⟩ := rx
    exact P.repr_of_str tk1 (by simpa only [PyData.shown] using h3)
  | @lst a xs ds _ e h =>
    cases rx
    obtain ⟨_, its, n, rv, g⟩ := (show ObjOk X.prog X.w H s.heap _ (.lst xs) from e.rd.ok I.hok)
    have z' : (listText (PyData.shownAll ds)).length ≤ sizeLine := by simpa only [PyData.shown] using h3
    obtain ⟨as, bs, rd, m, k⟩ := DqAll.shows I.hok h rv (by simpa [PyData.showable] using h1) fun t ht => mem_short listText listText_mem_le z' ht
    have rr : Reads s.heap (.ref a) (.list ds) (a :: as) := .list g rfl rfl rd
    have lt : PyData.depthAll ds < (PyData.list ds).depth := by simp only [PyData.depth]; omega
    have nm := not_mem_of_deeper rr lt m
    refine call_repr_slot (by omega) ⟨_, g, rfl⟩ F.slot_list_repr.toG ?_
    have un2 : X.A.in1.units + (PyData.depthAll ds + 1) < cLine := by
      show X.A.units + 1 + _ < _
      simp only [PyData.depth] at h2
      omega
    simp only [PyData.shown] at fin tk1
    cases its with
    | nil =>
      cases rd
      simp only [PyData.shownAll, listText_nil] at tk1
      exact call_list_repr_empty ⟨_, g, rfl⟩ g rfl ⟨_, _, rfl, tk1⟩
    | cons x l => exact call_list_reprK g rfl rfl nm (by simpa using k.length_eq) (fun i y e => k.item i y (by simpa using e)) hgd (fun b _ => Clear.nil b) un2 (fun _ _ e => e) (fun h' u tk kp => ⟨_, _, rfl, fin h' u tk kp⟩) z'
  | @tup a xs ds _ e h =>
    cases rx
    obtain ⟨_, its, rv, o, g, c, n, dt⟩ := (show ObjOk X.prog X.w H s.heap _ (.tup xs) from e.rd.ok I.hok)
    have z' : (tupleText (PyData.shownAll ds)).length ≤ sizeLine := by simpa only [PyData.shown] using h3
    obtain ⟨as, bs, rd, m, k⟩ := DqAll.shows I.hok h rv (by simpa [PyData.showable] using h1) fun t ht => mem_short tupleText tupleText_mem_le z' ht
    have rr : Reads s.heap (.ref a) (.tuple ds) as := .tuple g c dt rd
    have lt : PyData.depthAll ds < (PyData.tuple ds).depth := by simp only [PyData.depth]; omega
    have nm := not_mem_of_deeper rr lt m
    refine call_repr_slot (by omega) ⟨_, g, c⟩ F.slot_tuple_repr ?_
    have un2 : X.A.in1.units + (PyData.depthAll ds + 1) < cLine := by
      show X.A.units + 1 + _ < _
      simp only [PyData.depth] at h2
      omega
    simp only [PyData.shown] at fin
    exact call_tuple_reprK g c dt nm k hgd (fun b _ => Clear.nil b) un2 (fun _ _ e => e) (fun h' u tk kp => ⟨_, _, rfl, fin h' u tk kp⟩) z'
  | @dict a kvs kds _ e hk h =>
    cases rx
    have z' : (dictText (PyData.shownKv kds)).length ≤ sizeLine := by simpa only [PyData.shown] using h3
    obtain ⟨⟨o, es, n, bs, g, c, dt, sm, nm, ent⟩, _⟩ := dict_shows I.hok e hk h3 h1 fun us rv => DqAll.shows I.hok h rv (PyData.showableKv_split kds (by simpa [PyData.showable] using h1)).2 fun t ht => by
      obtain ⟨p, hp, hl⟩ := PyData.shownKv_val_le kds t ht
      exact Nat.le_trans hl (mem_short dictText dictText_mem_le z' hp)
    refine call_repr_slot (by omega) ⟨_, g, c⟩ F.slot_dict_repr ?_
    have un2 : X.A.in1.units + (PyData.depthKv kds + 1) < cLine := by
      show X.A.units + 1 + _ < _
      simp only [PyData.depth] at h2
      omega
    simp only [PyData.shown, PyData.shownKv_eq] at fin
    exact call_dict_reprK g c dt sm nm ent hgd (fun b _ => Clear.nil b) un2 (fun _ _ e => e) (fun h' u tk kp => ⟨_, _, rfl, fin h' u tk kp⟩) (by rw [← PyData.shownKv_eq]; exact z')
/-! small data, dicts too -/
theorem call_reprQ {X : Cx} {k : Nat} (hgd : X.A.guards = some []) (hr : Room k X.A) : CallR X (.builtin "repr") rReprQ := call_reprU hgd (by have := hr.un; omega)
structure Sq (k m : Nat) (d : PyData) : Prop where
  show_ : d.showable = true
  depth : d.depth ≤ k
  short : d.leavesShort 700 = true
  bulk : d.bulk ≤ m
structure SqA (k m : Nat) (ds : List PyData) : Prop where
  show_ : PyData.showableAll ds = true
  depth : PyData.depthAll ds ≤ k
  short : PyData.leavesShortAll 700 ds = true
  bulk : PyData.bulkAll ds ≤ m
theorem Rs.q {k m : Nat} {d : PyData} (h : Rs k m d) : Sq k m d := ⟨h.show_, h.depth, h.short, h.bulk⟩
theorem RsL.q {k m : Nat} {d : List PyData} (h : RsL k m d) : SqA k m d := ⟨h.show_, h.depth, h.short, h.bulk⟩
theorem Sq.mono {k m k' m' : Nat} {d : PyData} (h : Sq k m d) (h1 : k ≤ k') (h2 : m ≤ m') : Sq k' m' d := ⟨h.show_, Nat.le_trans h.depth h1, h.short, Nat.le_trans h.bulk h2⟩
theorem SqA.nil {k : Nat} : SqA k 0 [] := RsL.nil.q
theorem SqA.cons {k m n : Nat} {d : PyData} {ds : List PyData} (h : Sq k m d) (t : SqA k n ds) : SqA k (m + n + 2) (d :: ds) := by
  refine ⟨?_, ?_, ?_, ?_⟩
  · simp only [PyData.showableAll, h.show_, t.show_, Bool.and_self]
  · simp only [PyData.depthAll]
    have := h.depth
    have := t.depth
    omega
  · simp only [PyData.leavesShortAll, h.short, t.short, Bool.and_self]
  · simp only [PyData.bulkAll]
    have := h.bulk
    have := t.bulk
    omega
theorem Sq.tup {k m : Nat} {ds : List PyData} (t : SqA k m ds) : Sq (k + 1) (m + 2) (.tuple ds) := by
  refine ⟨?_, ?_, ?_, ?_⟩
  · simp only [PyData.showable, t.show_]
  · simp only [PyData.depth]
    have := t.depth
    omega
  · simp only [PyData.leavesShort, t.short]
  · simp only [PyData.bulk]
    have := t.bulk
    omega
theorem Sq.list {k m : Nat} {ds : List PyData} (t : SqA k m ds) : Sq (k + 1) (m + 2) (.list ds) := by
  refine ⟨?_, ?_, ?_, ?_⟩
  · simp only [PyData.showable, t.show_]
  · simp only [PyData.depth]
    have := t.depth
    omega
  · simp only [PyData.leavesShort, t.short]
  · simp only [PyData.bulk]
    have := t.bulk
    omega
theorem Sq.rep {k m : Nat} {d : PyData} (h : Sq k m d) (hk : k ≤ 64) (hm : m ≤ 10000) : RepQ d := by
  refine ⟨h.show_, Nat.le_trans h.depth hk, ?_⟩
  have l := PyData.shown_le_bulk 700 (by decide) d h.short
  have := h.bulk
  have e : sizeLine = 16777216 := by decide
  have b := Nat.mul_le_mul_left 702 (Nat.le_trans h.bulk hm)
  omega
/-! types of any value -/
def tyD : PyData → String
  | .none => "NoneType"
  | .bool _ => "bool"
  | .int _ => "int"
  | .str _ => "str"
  | .list _ => "list"
  | .tuple _ => "tuple"
  | .dict _ => "dict"
theorem Dq.ty {K : PySem.W.Frag} {H : Hp} {N : Addr → Prop} {v : V} {d : PyData} (h : Dq H N v d) : TyX K H v (.type (tyD d)) := by
  cases h with
  | non => exact .base .non
  | bl b => exact .base (.bl b)
  | int i => exact .base (.int i)
  | str x => exact .base (.str x)
  | lst n e h => exact e.rd.elim (fun e => .base (.lst e)) fun ⟨o, e⟩ => .base (.frz e)
  | tup n e h => exact e.rd.elim (fun e => .base (.tup e)) fun ⟨o, e⟩ => .fTuple e
  | dict n e hk h => exact .base (.dK e)
def isIntD : PyData → Bool
  | .int _ => true
  | _ => false
def isBoolD : PyData → Bool
  | .bool _ => true
  | _ => false
theorem kit_tab {K : PySem.W.Frag} {a b : String} (r : Bool) (h : kitB a b = some r := by decide +kernel) : PySem.W.kitOne K (.type a) (.type b) = some r := kit_ty h
theorem kit_intD {K : PySem.W.Frag} : ∀ d : PyData, PySem.W.kitOne K (.type (tyD d)) (.type "int") = some (isIntD d || isBoolD d)
  | .none => kit_tab (a := "NoneType") (b := "int") false
  | .bool _ => kit_tab (a := "bool") (b := "int") true
  | .int _ => kit_tab (a := "int") (b := "int") true
  | .str _ => kit_tab (a := "str") (b := "int") false
  | .list _ => kit_tab (a := "list") (b := "int") false
  | .tuple _ => kit_tab (a := "tuple") (b := "int") false
  | .dict _ => kit_tab (a := "dict") (b := "int") false
theorem kit_boolD {K : PySem.W.Frag} : ∀ d : PyData, PySem.W.kitOne K (.type (tyD d)) (.type "bool") = some (isBoolD d)
  | .none => kit_tab (a := "NoneType") (b := "bool") false
  | .bool _ => kit_tab (a := "bool") (b := "bool") true
  | .int _ => kit_tab (a := "int") (b := "bool") false
  | .str _ => kit_tab (a := "str") (b := "bool") false
  | .list _ => kit_tab (a := "list") (b := "bool") false
  | .tuple _ => kit_tab (a := "tuple") (b := "bool") false
  | .dict _ => kit_tab (a := "dict") (b := "bool") false
def isTupD : PyData → Bool
  | .tuple _ => true
  | _ => false
theorem kit_tupD {K : PySem.W.Frag} : ∀ d : PyData, PySem.W.kitOne K (.type (tyD d)) (.type "tuple") = some (isTupD d)
  | .none => kit_tab (a := "NoneType") (b := "tuple") false
  | .bool _ => kit_tab (a := "bool") (b := "tuple") false
  | .int _ => kit_tab (a := "int") (b := "tuple") false
  | .str _ => kit_tab (a := "str") (b := "tuple") false
  | .list _ => kit_tab (a := "list") (b := "tuple") false
  | .tuple _ => kit_tab (a := "tuple") (b := "tuple") true
  | .dict _ => kit_tab (a := "dict") (b := "tuple") false
end Ft

set_option maxHeartbeats 4000000
namespace Ft
open PySem PySem.Spec PySem.Calls PyProof.Rows
section
open PySem.W
variable {prog : Program} {w : World} {A : Around} {E : Value → Shared → Prop} {s : Shared} {K : Frag} {x D : Addr} {ox od : Obj}
theorem findObj_data {name : Str} {a g : Value} (hc : (clsIn K D).isSome = true) (ha : findIn K (.ref D) name = some (some a)) (hg : specialIn K a "__get__" = some (some g)) (ht : takesIn K a = some true) : findObj K D (some od) name = some (.bind g a) := by
  obtain ⟨cd, hc⟩ := Option.isSome_iff_exists.mp hc
  unfold findObj
  simp [hc, ha, hg, ht]
/-- __class__ of a caught error that has a dict -/
theorem class_exc {Q : Option Value → Shared → Prop} (T : L2.ExcC K D) (X : K.In s.heap) (I : InstAt s.heap x ox D (some od))
    (h : Q (some (.ref D)) { s with toks := s.toks + 1 }) : wpAny (model prog w) A (getAttr? (.ref x) "__class__") Q E s := by
  obtain ⟨ga, gg, sb, hd, hc, hn, ht, hm⟩ := T
  have hf : findObj K D (some od) "__class__" = some (.bind (.builtin "getset_descriptor.__get__") (.builtin "object.__class__")) := findObj_data (by obtain ⟨cd, hc, _⟩ := any_some hd; rw [hc]; rfl) hc hn ht
  obtain ⟨hp, g, d, t, os⟩ := s
  have A0 := I.type (M := model prog w)
  have A1 := looks_findIn (M := model prog w) X ga
  have A2 := looks_findIn (M := model prog w) X gg
  have A3 := looks_find (M := model prog w) X I hf
  have sub : Looks (model prog w) hp (isInstance (.ref x) (.type "BaseException")) true := A0.andThen (looks_subIn X sb)
  have n0 : (false && onTheHeap (Value.builtin "BaseException.__getattribute__")) = false := rfl
  have n2 : (Value.builtin "BaseException.__getattribute__" == Value.builtin "object.__getattribute__") = false := by decide +kernel
  have n1 : (onTheHeap (Value.ref D) && Value.builtin "BaseException.__getattribute__" == Value.builtin "object.__getattribute__") = false := by rw [n2]; rfl
  unfold getAttr? getAttrBy? getAttrBy
  refine wpAny_bind (wpAny_mkText (wpAny_bind (wpAny_attempt (wpAny_holding (wpAny_bind (A0.at (wpAny_bind (A1.at ?_))))))))
  show wpAny _ _ (if (onTheHeap (Value.ref D) && Value.builtin "BaseException.__getattribute__" == Value.builtin "object.__getattribute__") = true then _ else _) _ _ _
  rw [n1, if_neg Bool.false_ne_true]
  unfold getAttrByItsOwn hookBefore
  refine wpAny_bind ?_
  rw [if_pos (show onTheHeap (Value.ref D) = true from rfl)]
  refine A2.at ?_
  refine wpAny_bind (wpAny_attempt (wpAny_holding ?_))
  unfold callGetattribute
  rw [n0, if_neg Bool.false_ne_true]
  unfold boundAndCalled
  rw [PySem.F.excAttr_ValueError.ga.bind (.ref x)]
  refine wpAny_bind (wpAny_pure ?_)
  show wpAny _ _ (call (.builtin "BaseException.__getattribute__") [.ref x, .str "__class__" t]) _ _ _
  refine wpAny_call (codeAny_call_builtin PySem.F.excAttr_ValueError.ga.plain PySem.F.entry_bexc_ga ?_)
  refine @check_slot (model prog w) _ _ ⟨hp, g, d, t + 1, os⟩ "BaseException.__getattribute__" "BaseException" "__getattribute__" (.ref x) [.str "__class__" t] [] _ (by decide +kernel) (by decide +kernel) sub (PySem.F.args_bexc_ga (.ref x) (.str "__class__" t)) ?_
  unfold Builtin.«object.__getattribute__»
  refine wpAny_bind (wpAny_of_eq (a := ((Value.ref x : Value), [Value.str "__class__" t])) (by first | rfl | (simp only [slotArgs]; rfl)) ?_)
  refine wpAny_bind (wpAny_pure (wpAny_bind (A0.at (wpAny_bind (A3.at ?_)))))
  show wpAny _ _ (holding [Value.builtin "object.__class__"] (call (.builtin "getset_descriptor.__get__") [.builtin "object.__class__", .ref x, .ref D]) >>= ret) _ _ _
  refine wpAny_bind (wpAny_holding (wpAny_call (class_get (s := ⟨hp, g, d, t + 1, os⟩) (ox := ox) (od := some od) X I hm ?_)))
  refine wpAny_pure ?_
  show wpAny _ _ (handedOut (.ref D)) _ _ _
  rw [handedOut_of (v := .ref D) rfl]
  first
    | exact wpAny_pure (wpAny_pure h)
    | exact wpAny_pure h
    | exact wpAny_pure (wpAny_bind (wpAny_pure (wpAny_pure h)))
theorem kitx_exc (T : L2.ExcC K D) : KitX K (.ref x) (.ref D) (fun h => InstAt h x ox D (some od)) where
  ty := fun _ _ _ I => I.type
  it := fun _ h X _ => by
    obtain ⟨cd, hc, _⟩ := any_some T.hd
    unfold clsIn at hc
    split at hc
    · rename_i ho
      intro A' Q' E' s' k q
      unfold isType loadHead
      exact wpAny_bind (wpAny_loadPart (k _ _ (X _ _ ho)) (wpAny_pure q))
    · cases hc
  ne := (handS_kitx_exc (x := x) (ox := ox) T.hg T.hk T.hs T.hd T.ha T.hn T.ht T.hm).ne
  ca := fun X I k => class_exc T X I k
end
end Ft
namespace Ft
open PySem PySem.Spec PyProof.Rows L2
/-- isinstance(e, c), e the error that the suite holds, whose fields stand in a dict -/
def rIsD (K : PySem.W.Frag) (a : Addr) (cls : Value) (d : Option Addr) : List V → Hp → VK → Prop := fun xs H Q => ∃ (D dd : Addr) (fs : List (Str × V)) (c : V) (u : Value) (b : Bool), xs = [.ref a, c] ∧ cls = .ref D ∧ d = some dd ∧ L2.ExcC K D ∧ H dd = some (.xd fs) ∧ ClsV c u ∧ PySem.W.kitOne K (.ref D) u = some b ∧ Q (.bl b) H
/-- isinstance(e, (c1, c2)) -/
def rIsDT (K : PySem.W.Frag) (a : Addr) (cls : Value) (d : Option Addr) : List V → Hp → VK → Prop := fun xs H Q => ∃ (D dd tp : Addr) (fs : List (Str × V)) (cs : List V) (us : List Value) (b : Bool), xs = [.ref a, .ref tp] ∧ cls = .ref D ∧ d = some dd ∧ L2.ExcC K D ∧ H dd = some (.xd fs) ∧ H tp = some (.tup cs) ∧ Paired ClsV cs us ∧ PySem.W.kitAny K (.ref D) us = some b ∧ Q (.bl b) H
section
variable {X : Cx} {a : Addr} {oe : Obj} {cls : Value} {d : Option Addr} {pn : List (Addr × Obj)} {pins : List (Addr × Obj)} {σ : L2.St} {H : Hp} {s : Shared}
theorem inst_exc {D dd : Addr} {fs : List (Str × V)} (I : Inv (X.suite a ((a, oe) :: pn)) pins σ H s) (hz : Zc (.ref D) (some dd) oe) (hf : ∃ vs, oe.data = .fields vs) (ea : H dd = some (.xd fs)) : ∃ od, PySem.W.InstAt s.heap a oe D (some od) := by
  obtain ⟨ha, _⟩ := I.pin (a, oe) (List.mem_append_left _ List.mem_cons_self)
  obtain ⟨vs, hd⟩ := hf
  have hx : ObjOk X.prog X.w H s.heap dd (.xd fs) := I.hok dd _ ea
  obtain ⟨mA, hns, hr⟩ := hx
  obtain ⟨od, ho, hl⟩ := lookIn_ns hns
  exact ⟨od, ha, hz.1, by unfold PySem.W.notCls; rw [hd] <;> rfl, by rw [hz.2]; exact ho⟩
theorem call_isD (hz : Zc cls d oe) (hf : ∃ vs, oe.data = .fields vs) : CallR (X.suite a ((a, oe) :: pn)) (.builtin "isinstance") (rIsD X.K a cls d) := by
  intro pins s σ H xs us Q I r h
  obtain ⟨D, dd, fs, c, u, b, rfl, rfl, rfl, T, ea, k, e, q⟩ := h
  obtain ⟨u1, u2, rfl, r1, r2⟩ := vals2 r
  obtain rfl : u1 = Value.ref a := r1
  have e2 := k.eq r2
  subst e2
  obtain ⟨od, J⟩ := inst_exc I hz hf ea
  exact PySem.W.kia_one (kitx_exc T) I.kIn J e (fun z => nomatch z) fun tk => ⟨.bl b, H, I.tok tk, rfl, q⟩
theorem call_isDT (hz : Zc cls d oe) (hf : ∃ vs, oe.data = .fields vs) : CallR (X.suite a ((a, oe) :: pn)) (.builtin "isinstance") (rIsDT X.K a cls d) := by
  intro pins s σ H xs us Q I r h
  obtain ⟨D, dd, tp, fs, cs, ws, b, rfl, rfl, rfl, T, ea, hT, k, e, q⟩ := h
  obtain ⟨u1, u2, rfl, r1, r2⟩ := vals2 r
  obtain rfl : u1 = Value.ref a := r1
  cases (show u2 = Value.ref tp from r2)
  obtain ⟨od, J⟩ := inst_exc I hz hf ea
  obtain ⟨_, its, rv, o, h1, h2, n, h3⟩ := (show ObjOk X.prog X.w H s.heap tp (.tup cs) from I.hok tp _ hT)
  have e3 := ClsV.all k rv
  subst e3
  obtain ⟨oc, od, dt, sl⟩ := o
  simp only at h2 h3
  subst h2 h3
  exact PySem.W.kia_tup (kitx_exc T) I.kIn J h1 e (fun z => nomatch z) fun tk => ⟨.bl b, H, I.tok tk, rfl, q⟩
end
/-- xs.count(b), a list of bools -/
def rCntB (K : PySem.W.Frag) : V → List V → Hp → VK → Prop := fun x xs H Q => ∃ (p : Addr) (bs : List Bool) (k : Bool), x = .ref p ∧ xs = [.bl k] ∧ SqL K H p (bs.map V.bl) ∧ Q (.int (countIn (.bool k) (bs.map PyData.bool))) H
theorem bools_of {h : Heap} : ∀ {bs : List Bool} {us : List Value}, Vals (bs.map V.bl) us → ReadsAll h us (bs.map PyData.bool) []
  | [], _, .nil => .nil
  | b :: bs, _, .cons r t => by
    cases r
    exact ReadsAll.cons (as := []) (bs := []) (.bool b) (bools_of t)
theorem bools_has : ∀ bs : List Bool, (bs.map PyData.bool).all Shape.bool.has = true
  | [] => rfl
  | b :: bs => by rw [List.map_cons, List.all_cons, bools_has bs]; rfl
theorem mt_countB {X : Cx} : MtR X "list.count" (rCntB X.K) := by
  intro pins s σ H x xs v us Q I rx rxs h
  obtain ⟨p, bs, k, rfl, rfl, hs, q⟩ := h
  cases rx
  obtain ⟨u, rfl, ru⟩ := rxs.one
  cases ru
  obtain ⟨its, rv, hl, hlen⟩ := I.list hs
  exact count_list_bools (by obtain ⟨o, n, h1, h2, h3, h4⟩ := hl; exact ⟨o, h1, h2, n, h4⟩) (bools_of (h := s.heap) rv) (bools_has bs) ⟨.int (countIn (.bool k) (bs.map PyData.bool)), H, I.tok _, ⟨s.toks, rfl⟩, q⟩
end Ft

namespace Ft
open PySem L2
abbrev i_BadSum : Stmt := initOf (top 6)
theorem sc_i_BadSum : FnScope ["self", "thing"] ["self", "thing"] (defScope i_BadSum) := ⟨rfl, rfl, rfl, by decide +kernel, rfl, by decide +kernel, by decide +kernel⟩
abbrev i_BadCount : Stmt := initOf (top 5)
theorem sc_i_BadCount : FnScope ["self", "thing"] ["self", "thing"] (defScope i_BadCount) := ⟨rfl, rfl, rfl, by decide +kernel, rfl, by decide +kernel, by decide +kernel⟩
section
variable {P : Program} {w : World} {K : PySem.W.Frag} {mg : Str → Option Value} {base : Heap}
theorem err_BadSum {C : Addr} (T : ErrT K mg "BadSum" "thing" "BadSum.__init__" i_BadSum C) : Err P w K mg base "BadSum" C "thing" := by
  obtain ⟨c, g, fI, fd, i1, i2, F, b⟩ := T
  have sc := sc_i_BadSum
  refine ⟨c, g, fI, fd, _, i1, i2, F.ok sc (fun _ _ _ _ ⟨_, _, _, e, _⟩ => by rw [e]; rfl) (fun cdv A outer s H vs Q E hr h => ?_), b⟩
  obtain ⟨a, C, y, rfl, T, ha, q⟩ := h
  refine ⟨_, pss_one (ps_err (pv 0) (pv 1)), ?_⟩
  exact ⟨_, rfl, _, rfl, a, C, rfl, T, ha, q⟩
theorem err_BadCount {C : Addr} (T : ErrT K mg "BadCount" "thing" "BadCount.__init__" i_BadCount C) : Err P w K mg base "BadCount" C "thing" := by
  obtain ⟨c, g, fI, fd, i1, i2, F, b⟩ := T
  have sc := sc_i_BadCount
  refine ⟨c, g, fI, fd, _, i1, i2, F.ok sc (fun _ _ _ _ ⟨_, _, _, e, _⟩ => by rw [e]; rfl) (fun cdv A outer s H vs Q E hr h => ?_), b⟩
  obtain ⟨a, C, y, rfl, T, ha, q⟩ := h
  refine ⟨_, pss_one (ps_err (pv 0) (pv 1)), ?_⟩
  exact ⟨_, rfl, _, rfl, a, C, rfl, T, ha, q⟩
end
/-- whatever is wished of an error, the slots' number is known -/
theorem takes_len {X : Cx} {W : WX} (tk : Takes X W) : Takes X (fun cls d σ H => σ.length = X.N.length → W cls d σ H) := fun u s' ⟨a, B, sI, pins, σ, H, cls, d, e, I, nb, up, sky, na, os, ag, w⟩ =>
  tk u s' ⟨a, B, sI, pins, σ, H, cls, d, e, I, nb, up, sky, na, os, ag, w I.len⟩
/-! ### the law's _law_told -/
abbrev N_ref : List Str := ["_law_call", "_law_found", "_law_e"]
theorem sc_ref : FnScope N_ref ["_law_call"] (defScope s__law_told) := ⟨rfl, rfl, rfl, by decide +kernel, rfl, by decide +kernel, by decide +kernel⟩
/-- an error's class, its field, the word that is told of it -/
structure Kd where
  C : Addr
  f : Str
  wd : Str
/-- what it makes of what the lambda does -/
def TTref (cl : List Kd) : (XK → Hp → VK → Prop) → Hp → VK → Prop := fun tl H Q => ∀ (E1 : XK) (Q1 : VK),
  (∀ k ∈ cl, ∀ (dd : Addr) (v : V) (D : PyData) (H' : Hp), H' dd = some (.xd [(k.f, v)]) → Dq H' (fun _ => True) v D → RepQ D → (∀ p, H' p = none → Q (.ref p) (upd H' p (.tup [.str k.wd, .str D.shown, .bl true]))) → E1 (.ref k.C) (some dd) H') →
  (∀ (v : V) (D : PyData) (H' : Hp), Dq H' (fun _ => True) v D → RepQ D → (∀ p, H' p = none → Q (.ref p) (upd H' p (.tup [.str "told", .str D.shown, .bl true]))) → Q1 v H') → tl E1 H Q1
/-- the errors of this law -/
structure Ers (K : PySem.W.Frag) (mg : Str → Option Value) (C0 C1 CT : Addr) : Prop where
  c0 : ErrC K C0 "thing"
  c1 : ErrC K C1 "thing"
  g0 : mg "BadSum" = some (.ref C0)
  g1 : mg "BadCount" = some (.ref C1)
  gt : mg "TermError" = some (.ref CT)
  s0_0 : PySem.W.exmOne K (.ref C0) (.ref C0) = some true
  s1_0 : PySem.W.exmOne K (.ref C1) (.ref C0) = some false
  s1_1 : PySem.W.exmOne K (.ref C1) (.ref C1) = some true
abbrev kds (C0 C1 : Addr) : List Kd := [⟨C0, "thing", "BadSum"⟩, ⟨C1, "thing", "BadCount"⟩]
/-- the errors' classes under TermError -/
structure ErsU (K : PySem.W.Frag) (C0 C1 CT : Addr) : Prop where
  hn : PySem.W.specialIn K (.builtin "object.__class__") "__get__" = some (some (.builtin "getset_descriptor.__get__"))
  ht : PySem.W.takesIn K (.builtin "object.__class__") = some true
  tc : PySem.W.isClsIn K CT = true
  tt : PySem.W.typeIn K (.ref CT) = some (.type "type")
  a0 : PySem.W.findIn K (.ref C0) "__class__" = some (some (.builtin "object.__class__"))
  m0 : PySem.W.mroIn K C0 (.type "object") = some true
  p0 : PySem.W.subIn K (.ref C0) (.ref CT) = some true
  a1 : PySem.W.findIn K (.ref C1) "__class__" = some (some (.builtin "object.__class__"))
  m1 : PySem.W.mroIn K C1 (.type "object") = some true
  p1 : PySem.W.subIn K (.ref C1) (.ref CT) = some true
theorem kit_up {K : PySem.W.Frag} {C D : Addr} (hc : PySem.W.isClsIn K D = true) (ht : PySem.W.typeIn K (.ref D) = some (.type "type")) (hs : PySem.W.subIn K (.ref C) (.ref D) = some true) : PySem.W.kitOne K (.ref C) (.ref D) = some true := by
  unfold PySem.W.kitOne
  split
  · rfl
  · show (if ((PySem.W.clsIn K D).isSome && PySem.W.typeIn K (.ref D) == some (.type "type")) = true then PySem.W.subIn K (.ref C) (.ref D) else none) = _
    rw [if_pos ?_, hs]
    rw [ht]
    show (PySem.W.isClsIn K D && _) = true
    rw [hc]
    rfl
theorem xc_of {K : PySem.W.Frag} {C : Addr} {f : Str} (c : ErrC K C f) (a : PySem.W.findIn K (.ref C) "__class__" = some (some (.builtin "object.__class__"))) (m : PySem.W.mroIn K C (.type "object") = some true) (hn : PySem.W.specialIn K (.builtin "object.__class__") "__get__" = some (some (.builtin "getset_descriptor.__get__"))) (ht : PySem.W.takesIn K (.builtin "object.__class__") = some true) : L2.ExcC K C :=
  ⟨c.xf.ga, c.xf.gg, c.xf.exC, c.xf.hdC, a, hn, ht, m⟩
set_option maxHeartbeats 0 in
theorem ref_gives {X : Cx} {g C0 C1 CT : Addr} {cdg : Value} {q : Str} {j : Nat} (T : Ers X.K X.mg C0 C1 CT) (U : ErsU X.K C0 C1 CT) (B : Bi X.mg) (hgd : X.A.guards = some []) (hr : Room (j + 1) X.A) :
    LamX.GivesTo X N_ref "_law_told" (defScope s__law_told) g cdg (defBody s__law_told) "_law_call" q (TTref (kds C0 C1)) := by
  intro f c' s H Q tl act hc h
  refine ⟨_, pss_cons (ps_tryN (tb := fun W D σ H => ∃ Ech : XK, (∀ cls d σ' H', Ech cls d H' → σ'.length = 3 → W cls d σ' H') ∧ tAsg (fun σZ HZ Q => σZ[0]? = some (some (.ref f)) ∧ HZ c' = some (LamX.CodeO c' q) ∧ tl Ech HZ Q) (gName 1) D σ H) rfl rfl sc_ref.nd LamX.takes0
      (fun W pn xe tk _ => ?_)
      (HdN.named (i := 2) ⟨rfl, by decide, .inl T.g0⟩ rfl rfl (fun a oe cls d pn hz hf => pss_one (ps_ret (pe_tup (pa_cons pe_str (pa_cons (pe_callB (X := (cxOf C8.CX0 X.prog X.w X.K X.mg X.base N_ref "_law_told" (defScope s__law_told) g cdg X.A X.stack s H C8.E0).nox.suite a ((a, oe) :: pn)) (id := "repr") (r := rReprQ) (call_reprU hgd (by have := hr.un; show X.A.units + 3 + 200 < _; omega)) (by rfl) B.repr (by decide +kernel) (pa_cons (pe_xf (X := (cxOf C8.CX0 X.prog X.w X.K X.mg X.base N_ref "_law_told" (defScope s__law_told) g cdg X.A X.stack s H C8.E0).nox) (C := C0) T.c0.xf T.c0.no hz hf (pv 2)) pa_nil)) (pa_cons (pe_callB (id := "isinstance") (r := rIsD X.K a cls d) (call_isD hz hf) (by rfl) B.isinstance (by decide +kernel) (pa_cons (pv 2) (pa_cons (pe_glob (v := .ref CT) (by rfl) T.gt rfl) pa_nil))) pa_nil))))))
      (HdN.named (i := 2) ⟨rfl, by decide, .inl T.g1⟩ rfl rfl (fun a oe cls d pn hz hf => pss_one (ps_ret (pe_tup (pa_cons pe_str (pa_cons (pe_callB (X := (cxOf C8.CX0 X.prog X.w X.K X.mg X.base N_ref "_law_told" (defScope s__law_told) g cdg X.A X.stack s H C8.E0).nox.suite a ((a, oe) :: pn)) (id := "repr") (r := rReprQ) (call_reprU hgd (by have := hr.un; show X.A.units + 3 + 200 < _; omega)) (by rfl) B.repr (by decide +kernel) (pa_cons (pe_xf (X := (cxOf C8.CX0 X.prog X.w X.K X.mg X.base N_ref "_law_told" (defScope s__law_told) g cdg X.A X.stack s H C8.E0).nox) (C := C1) T.c1.xf T.c1.no hz hf (pv 2)) pa_nil)) (pa_cons (pe_callB (id := "isinstance") (r := rIsD X.K a cls d) (call_isD hz hf) (by rfl) B.isinstance (by decide +kernel) (pa_cons (pv 2) (pa_cons (pe_glob (v := .ref CT) (by rfl) T.gt rfl) pa_nil))) pa_nil))))))
        .nil)))
    (pss_one (ps_ret (pe_tup (pa_cons pe_str (pa_cons (pe_callB (X := (cxOf C8.CX0 X.prog X.w X.K X.mg X.base N_ref "_law_told" (defScope s__law_told) g cdg X.A X.stack s H C8.E0).nox) (id := "repr") (r := rReprQ) (call_reprQ (k := j) hgd (hr.deeper _)) (by rfl) B.repr (by decide +kernel) (pa_cons (pv 1) pa_nil)) (pa_cons pe_bl pa_nil)))))), ?_⟩
  · refine ⟨fun pins s' σ H' D I h' => ?_⟩
    obtain ⟨Ech, hW, h'⟩ := h'
    exact (pss_one (ps_set (i := 1) sc_ref.nd rfl (Or.inl rfl) (act (fun cls d σ H => σ.length = 3 → W cls d σ H) pn xe Ech _ _ (takes_len tk) hW))).run pins s' σ H' D I h'
  · refine ⟨fun cls d H' => ∃ k ∈ kds C0 C1, cls = .ref k.C ∧ ∃ (dd : Addr) (v : V) (D : PyData), d = some dd ∧ H' dd = some (.xd [(k.f, v)]) ∧ Dq H' (fun _ => True) v D ∧ RepQ D ∧ ∀ p, H' p = none → Q (.ref p) (upd H' p (.tup [.str k.wd, .str D.shown, .bl true])), ?_, rfl, hc, h _ _ ?_ ?_⟩
    · rintro cls d σ' H' ⟨k, hk, rfl, dd, v, D, rfl, hd, dq, rep, kk⟩ hl
      obtain ⟨a0, a1, a2, rfl⟩ : ∃ a0 a1 a2, σ' = [a0, a1, a2] := match σ', hl with | [a0, a1, a2], _ => ⟨a0, a1, a2, rfl⟩
      have z3 : (3 : Nat) ≤ sizeLine := by decide
      rcases List.mem_cons.mp hk with rfl | hk
      · exact ⟨true, T.s0_0, fun _ a na => ⟨_, rfl, rfl, rfl, dd, _, v, rfl, hd, rfl, v, D, _, rfl, dq, rep, _, rfl, C0, dd, _, .ref CT, _, _, rfl, rfl, rfl, xc_of T.c0 U.a0 U.m0 U.hn U.ht, hd, .own CT, kit_up U.tc U.tt U.p0, z3, kk⟩, fun z => by cases z⟩
      rw [List.mem_singleton.mp hk] at hd kk ⊢
      exact ⟨false, T.s1_0, (fun z => by cases z), fun _ => ⟨true, T.s1_1, fun _ a na => ⟨_, rfl, rfl, rfl, dd, _, v, rfl, hd, rfl, v, D, _, rfl, dq, rep, _, rfl, C1, dd, _, .ref CT, _, _, rfl, rfl, rfl, xc_of T.c1 U.a1 U.m1 U.hn U.ht, hd, .own CT, kit_up U.tc U.tt U.p1, z3, kk⟩, fun z => by cases z⟩⟩
    · exact fun k hk dd v D H' hd dq rep kk => ⟨k, hk, rfl, dd, v, D, rfl, hd, dq, rep, kk⟩
    · exact fun v D H' dq rep k => ⟨_, rfl, v, D, _, rfl, dq, rep, (by show (3 : Nat) ≤ sizeLine; decide), k⟩
/-- _law_told(lambda: body) -/
theorem pe_lamR {X : Cx} {c P C0 C1 CT : Addr} {k j : Nat} {params : Arguments} {body : Expr} {scope : Scope} {t : XK → TE} {p lpos pos : Pos} {T : List (Addr × Str)} (hg : Gl X "_law_told") (DR : Df X.K X.mg "_law_told" s__law_told ["_law_call"])
    (E1 : Ers X.K X.mg C0 C1 CT) (U : ErsU X.K C0 C1 CT) (B : Bi X.mg) (hgd : X.A.guards = some [])
    (TB : LamX.TabB X.base X.mg c P) (hcode : X.env.code = .ref c) (hm : (P, X.env.qual ++ "<lambda>") ∈ T) (hu : ∀ p ∈ T, p.1 = P → p.2 = X.env.qual ++ "<lambda>") (hr : Room j X.A) (hj : k + 2 ≤ j) (L : LamX.LamS X.env.scope scope) (hdef : defaultsOf params X.env = ([], []))
    (hbind : ∀ (q : Str) (cl : List (Str × Addr)) (pm cv ctv : Value), bindArgs (PySem.W.kla_fn "<lambda>" q params body scope cl pm cv ctv) ⟨[], []⟩ = pure [])
    (hbody : ∀ (A : Around) (outer : List Env) (s : Shared) (H : Hp) (E : XK) (f c' : Addr), Room k (A.deeper (LamX.lamEnv X scope s.heap.objs.size f c')) → PE (LamX.lamCx X A outer s H E scope f c') body (t E)) :
    PE X (.Call (.Name "_law_told" p) [.Lambda params body scope lpos] [] pos) (LamX.tLam T (TTref (kds C0 C1)) t) := by
  obtain ⟨g, fd, F, hmg, b⟩ := DR.ex
  obtain ⟨oc, od, kV, doc, pm, an, cdv, ct, osl, rfl, lk, hcd⟩ := F.ex
  exact LamX.pe_lamcall (Ng := N_ref) hg hmg F.kp lk hcd b sc_ref rfl (Or.inl rfl) (ref_gives (j := k + 1) E1 U B hgd (hr.mono hj)) TB hcode hm hu (hr.mono hj) L hdef hbind hbody
/-- what a lambda's body may let out -/
theorem passL {X : Cx} {A : Around} {outer : List Env} {s : Shared} {H : Hp} {E : XK} {scope : Scope} {f c' : Addr} : Passes (L2.CX X.prog X.w) (LamX.lamCx X A outer s H E scope f c') E :=
  passes_call (takes_of (X := LamX.lamCx X A outer s H E scope f c') (E := E) rfl rfl rfl rfl) fun _ _ _ _ h => h
/-- what the lambdas of a def stand on: the errors, _law_told, its code object's table -/
structure LamE (K : PySem.W.Frag) (mg : Str → Option Value) (base : Heap) (C0 C1 CT c Pt : Addr) (T : List (Addr × Str)) (q : Str) : Prop where
  e : Ers K mg C0 C1 CT
  r : Df K mg "_law_told" s__law_told ["_law_call"]
  t : LamX.TabB base mg c Pt
  m : (Pt, q ++ (".<locals>." : Str) ++ ("<lambda>" : Str)) ∈ T
  u : ∀ p ∈ T, p.1 = Pt → p.2 = q ++ (".<locals>." : Str) ++ ("<lambda>" : Str)
/-- a def that may raise, by place and by name -/
structure CalL (P : Program) (w : World) (K : PySem.W.Frag) (mg : Str → Option Value) (base : Heap) (k : Nat) (x : Str) (ps ks : List Str) (gU : List Value → List Value → List Value) (gV : List V → List V → List V) (sp : Sp) : Prop where
  ex : ∃ (f : Addr) (fd : FuncData), FnOk P w K mg base (L2.CX P w) k f fd ps sp ∧ mg x = some (.ref f) ∧ PySem.W.keepIn K (.ref f) = true ∧ Binds K fd ps [] ∧ KBinds K fd ps ks gU gV
/-- a def that may raise, by its name -/
structure CalX (P : Program) (w : World) (K : PySem.W.Frag) (mg : Str → Option Value) (base : Heap) (k : Nat) (x : Str) (sp : Sp) : Prop where
  ex : ∃ (f : Addr) (fd : FuncData) (ps : List Str), FnOk P w K mg base (L2.CX P w) k f fd ps sp ∧ mg x = some (.ref f) ∧ PySem.W.keepIn K (.ref f) = true ∧ Binds K fd ps []
section
variable {X : Cx} {k j : Nat} {f : Addr} {fd : FuncData} {ps ks : List Str} {sp : Sp} {x : Str} {g : List Value → List Value → List Value} {gV : List V → List V → List V} {p pos : Pos} {e : Expr} {es : List Expr} {t : TA} {kws : List Keyword} {tk : TA} {CX : CXT} {E : XK}
theorem pe_x (c : CalX X.prog X.w X.K X.mg X.base k x sp) (hr : Room j X.A) (hk : k ≤ j) (hg : Gl X x) (hx : Passes (L2.CX X.prog X.w) X E) (ha : PA X (e :: es) t)
    (hdb : (x == ("__debug__" : Str)) = false := by decide) (he : starEach (e :: es) X.env = (false, eval e X.env) :: starEach es X.env := by rfl) (hpl : (backTo pos (starEach es X.env)).any (·.1) = false := by rfl) :
    PE X (.Call (.Name x p) (e :: es) [] pos) (tCall sp [] E t) := by
  obtain ⟨f, fd, ps, F, hm, kp, b⟩ := c.ex
  exact pe_call F (hr.mono hk) hg hm kp b .nil hx ha hdb he hpl
/-- a def that may raise, by names alone -/
theorem pe_kx (F : FnOk X.prog X.w X.K X.mg X.base CX k f fd ps sp) (hr : Room k X.A) (hg : Gl X x) (hm : X.mg x = some (.ref f)) (kp : PySem.W.keepIn X.K (.ref f) = true) (hb : KBinds X.K fd ps ks g gV) (hx : Passes CX X E) (hkw : PK X kws tk)
    (hall : (backToKw pos (keywordEach kws X.env)).all (·.1.isSome) = true := by rfl) (hks : (backToKw pos (keywordEach kws X.env)).filterMap (·.1) = ks := by rfl) (hdb : (x == ("__debug__" : Str)) = false := by decide)
    (hpl : ((backTo pos (starEach [] X.env)).any (·.1) || (backToKw pos (keywordEach kws X.env)).any (·.1.isNone)) = false := by rfl) :
    PE X (.Call (.Name x p) [] kws pos) (tCallK sp gV E tNil tk) :=
  ⟨fun pins s σ H Q I h => wpAny_Call_Name_kw (ld_glob I hg hm (PySem.W.callWith_KW0 (h₀ := X.base) I.ok.mod.kin kp hall (thn (hkw.run pos pins s σ H _ I h) fun ws s2 ⟨zs, H2, I2, rz, q2⟩ => ⟨I2.kIn, by rw [hks]; exact run_fnk F hr hb hx I2 .nil rz q2⟩) hpl) hdb)⟩
end
end Ft

set_option exponentiation.threshold 9000
namespace Ft
open PySem L2
/-! ### displays that make any values -/
/-- te makes a value that shows D, from any heap beyond H0; σ: the slots -/
def Mk (N : Addr → Prop) (σ : L2.St) (H0 : Hp) (te : TE) (D : PyData) : Prop := ∀ H Q, Same H0 H → (∀ H' v, Same H H' → Dq H' N v D → Q v H') → te σ H Q
def MkA (N : Addr → Prop) (σ : L2.St) (H0 : Hp) (ta : TA) (Ds : List PyData) : Prop := ∀ H Q, Same H0 H → (∀ H' vs, Same H H' → DqAll H' N vs Ds → Q vs H') → ta σ H Q
theorem DqAll.length {H : Hp} {N : Addr → Prop} : ∀ {vs : List V} {ds : List PyData}, DqAll H N vs ds → vs.length = ds.length
  | _, _, .nil => rfl
  | _, _, .cons _ t => congrArg (· + 1) t.length
theorem DqAll.app {H : Hp} {N : Addr → Prop} {ws : List V} {es : List PyData} (k : DqAll H N ws es) : ∀ {vs : List V} {ds : List PyData}, DqAll H N vs ds → DqAll H N (vs ++ ws) (ds ++ es)
  | _, _, .nil => k
  | _, _, .cons h t => .cons h (DqAll.app k t)
theorem DqAll.get {H : Hp} {N : Addr → Prop} {v : V} : ∀ {vs : List V} {ds : List PyData}, DqAll H N vs ds → v ∈ vs → ∃ D ∈ ds, Dq H N v D
  | _, _, .nil, hv => by cases hv
  | _, _, .cons h t, hv => by
    rcases List.mem_cons.mp hv with rfl | hv
    · exact ⟨_, List.mem_cons_self, h⟩
    · obtain ⟨D, hD, e⟩ := DqAll.get t hv
      exact ⟨D, List.mem_cons_of_mem _ hD, e⟩
theorem DqAll.same' {H H' : Hp} {N : Addr → Prop} {vs : List V} {ds : List PyData} (h : DqAll H N vs ds) (s : Same H H') : DqAll H' N vs ds := h.same s
section
variable {N : Addr → Prop} {σ : L2.St} {H0 : Hp}
theorem mk_non : Mk N σ H0 (tC .non) .none := fun H _ _ q => q H _ (Same.refl _) .non
theorem mk_bl {b : Bool} : Mk N σ H0 (tC (.bl b)) (.bool b) := fun H _ _ q => q H _ (Same.refl _) (.bl b)
theorem mk_int {i : Int} : Mk N σ H0 (tC (.int i)) (.int i) := fun H _ _ q => q H _ (Same.refl _) (.int i)
theorem mk_st {x : Str} : Mk N σ H0 (tC (.str x)) (.str x) := fun H _ _ q => q H _ (Same.refl _) (.str x)
theorem mka_nil : MkA N σ H0 tNil [] := fun H _ _ q => q H _ (Same.refl _) .nil
theorem mka_cons {te : TE} {ta : TA} {D : PyData} {Ds : List PyData} (h : Mk N σ H0 te D) (t : MkA N σ H0 ta Ds) : MkA N σ H0 (tCons te ta) (D :: Ds) := fun H Q s q => h H _ s fun H1 v s1 e1 => t H1 _ (s.trans s1) fun H2 vs s2 e2 => q H2 _ (s1.trans s2) (.cons (e1.same s2) e2)
theorem mk_tup (nw : ∀ p, H0 p = none → N p) {ta : TA} {Ds : List PyData} (t : MkA N σ H0 ta Ds) (hl : Ds.length ≤ sizeLine) : Mk N σ H0 (tTup ta) (.tuple Ds) := fun H Q s q => t H _ s fun H1 vs s1 e1 => ⟨by rw [e1.length]; exact hl, fun p hp => by
  have s2 := Same.upd_new (o := .tup vs) hp
  exact q _ _ (s1.trans s2) (.tup (nw _ ((s.trans s1).free hp)) (.inl upd_same) (e1.same s2))⟩
theorem mk_lst (nw : ∀ p, H0 p = none → N p) {ta : TA} {Ds : List PyData} (t : MkA N σ H0 ta Ds) (hl : Ds.length ≤ sizeLine) : Mk N σ H0 (tLst ta) (.list Ds) := fun H Q s q => t H _ s fun H1 vs s1 e1 => ⟨by rw [e1.length]; exact hl, fun p hp => by
  have s2 := Same.upd_new (o := .lst vs) hp
  exact q _ _ (s1.trans s2) (.lst (nw _ ((s.trans s1).free hp)) (.inl upd_same) (e1.same s2))⟩
theorem mk_d0 (nw : ∀ p, H0 p = none → N p) : Mk N σ H0 tDNewK (.dict []) := fun H Q s q p hp => q _ _ (Same.upd_new hp) (.dict (nw _ (s.free hp)) upd_same rfl .nil)
theorem mk_d1 (nw : ∀ p, H0 p = none → N p) {x : Str} {te : TE} {D : PyData} (h : ∀ (M : Addr → Prop) (H1 : Hp), (∀ p, H1 p = none → M p) → Mk M σ H1 te D) : Mk N σ H0 (tDisp [(tC (.str x), te)]) (.dict [(.str x, D)]) := fun H Q s q p hp => by
  have s1 := Same.upd_new (o := .dK []) hp
  have nw2 : ∀ b, (upd H p (.dK [])) b = none → N b ∧ b ≠ p := fun b n => ⟨nw _ ((s.trans s1).free n), fun z => by rw [z, upd_same] at n; cases n⟩
  refine h (fun a => N a ∧ a ≠ p) _ nw2 _ _ (Same.refl _) fun H2 v s2 e2 => ⟨s2 _ _ upd_same, [(.inr x, v)], rfl, by show (1 : Nat) ≤ 15; decide, ?_⟩
  have st : Same H (upd H2 p (.dK (mergeK [] [(.inr x, v)]))) := fun b o e => by
    rw [upd_ne (ne_of_none e hp)]
    exact s2 _ _ (s1 _ _ e)
  refine q _ _ st (.dict (kvs := [(.inr x, v)]) (nw _ (s.free hp)) upd_same rfl (.cons ?_ .nil))
  exact e2.move (fun b o n e nt => by rw [upd_ne n.2]; exact e) fun b _ n _ _ => n.1
theorem mk_neg {t : TE} {i : Int} (h : Mk N σ H0 t (.int i)) : Mk N σ H0 (tUn (rU fun i => V.int (-i)) t) (.int (-i)) := fun H Q s q => h H _ s fun H1 v s1 e => by
  cases e
  exact ⟨i, rfl, q _ _ s1 (.int _)⟩
theorem mk_pow {t1 t2 : TE} {i j : Int} (h1 : Mk N σ H0 t1 (.int i)) (h2 : Mk N σ H0 t2 (.int j)) (hc : CPow i j := by exact ⟨by decide, by decide, by decide⟩) : Mk N σ H0 (tOp (rI CPow fun i j => V.int (i ^ j.toNat)) t1 t2) (.int (i ^ j.toNat)) := fun H Q s q => h1 H _ s fun H1 v s1 e1 => h2 H1 _ (s.trans s1) fun H2 w s2 e2 => by
  cases e1
  cases e2
  exact ⟨i, j, rfl, rfl, hc, q _ _ (s1.trans s2) (.int _)⟩
theorem mk_i0 {t1 t2 : TE} {i j : Int} {g : Int → Int → Int} (h1 : Mk N σ H0 t1 (.int i)) (h2 : Mk N σ H0 t2 (.int j)) : Mk N σ H0 (tOp (rI0 fun i j => V.int (g i j)) t1 t2) (.int (g i j)) := fun H Q s q => h1 H _ s fun H1 v s1 e1 => h2 H1 _ (s.trans s1) fun H2 w s2 e2 => by
  cases e1
  cases e2
  exact ⟨i, j, rfl, rfl, q _ _ (s1.trans s2) (.int _)⟩
theorem mk_mulW {t1 t2 : TE} {i j : Int} (h1 : Mk N σ H0 t1 (.int i)) (h2 : Mk N σ H0 t2 (.int j)) (hc : CMulW i j) : Mk N σ H0 (tOp (rI CMulW fun i j => V.int (i * j)) t1 t2) (.int (i * j)) := fun H Q s q => h1 H _ s fun H1 v s1 e1 => h2 H1 _ (s.trans s1) fun H2 w s2 e2 => by
  cases e1
  cases e2
  exact ⟨i, j, rfl, rfl, hc, q _ _ (s1.trans s2) (.int _)⟩
theorem mk_eqI {t1 t2 : TE} {i j : Int} (h1 : Mk N σ H0 t1 (.int i)) (h2 : Mk N σ H0 t2 (.int j)) : Mk N σ H0 (tOp rEq t1 t2) (.bool (decide (V.int i = V.int j))) := fun H Q s q => h1 H _ s fun H1 v s1 e1 => h2 H1 _ (s.trans s1) fun H2 w s2 e2 => by
  cases e1
  cases e2
  exact ⟨rfl, q _ _ (s1.trans s2) (.bl _)⟩
theorem mk_strI {t : TE} {i : Int} (h : Mk N σ H0 t (.int i)) (hi : i.natAbs.log2 < 1920) : Mk N σ H0 (tCB (fun xs H Q => ∃ i, xs = [V.int i] ∧ i.natAbs.log2 < 1920 ∧ Q (V.str (Str.ofString (toString i))) H) (tCons t tNil)) (.str (Str.ofString (toString i))) := fun H Q s q => h H _ s fun H1 v s1 e => by
  cases e
  exact ⟨i, rfl, hi, q _ _ s1 (.str _)⟩
theorem mk_var {k : Nat} {v : V} {D : PyData} (hs : σ[k]? = some (some v)) (h : Dq H0 N v D) : Mk N σ H0 (tVar k) D := fun H Q s q => ⟨v, hs, q _ _ (Same.refl _) (h.same s)⟩
/-- a list display to a name -/
theorem asg_lst {ta : TA} {Ds : List PyData} {g : TG} {b : TS} {Dn : Ends} {H : Hp} (h : MkA N σ H ta Ds) (hl : Ds.length ≤ sizeLine) (q : ∀ H1 vs p, Same H H1 → DqAll H1 N vs Ds → H1 p = none → g (.ref p) σ (upd H1 p (.lst vs)) (b Dn)) : tSeq (tAsg (tLst ta) g) b Dn σ H :=
  h H _ (Same.refl _) fun H1 vs s1 e1 => ⟨by rw [e1.length]; exact hl, fun p hp => q H1 vs p s1 e1 hp⟩
/-- a list and a list display, joined -/
theorem asg_cat {ta : TA} {Ds Es : List PyData} {g : TG} {b : TS} {Dn : Ends} {H : Hp} {k : Nat} {p : Addr} {xs : List V} (hs : σ[k]? = some (some (.ref p))) (hp : H p = some (.lst xs)) (hx : DqAll H N xs Es) (h : MkA N σ H ta Ds) (hl : Es.length + Ds.length ≤ sizeLine)
    (q : ∀ H1 vs p, Same H H1 → DqAll H1 N vs (Es ++ Ds) → H1 p = none → g (.ref p) σ (upd H1 p (.lst vs)) (b Dn)) : tSeq (tAsg (tOp rCat (tVar k) (tLst ta)) g) b Dn σ H := by
  have l1 := hx.length
  refine ⟨_, hs, h H _ (Same.refl _) fun H1 vs s1 e1 => ⟨by rw [e1.length]; omega, fun r hr => ?_⟩⟩
  have s2 := Same.upd_new (o := .lst vs) hr
  have l2 := e1.length
  exact ⟨p, r, xs, vs, rfl, rfl, s2 _ _ (s1 _ _ hp), upd_same, by omega, fun u hu => q _ _ u (s1.trans s2) ((e1.same s2).app (hx.same (s1.trans s2))) hu⟩
/-- a list and three times a list display, joined -/
theorem asg_cat3 {ta : TA} {Ds Es : List PyData} {g : TG} {Dn : Ends} {H : Hp} {k : Nat} {p : Addr} {xs : List V} (hs : σ[k]? = some (some (.ref p))) (hp : H p = some (.lst xs)) (hx : DqAll H N xs Es) (h : MkA N σ H ta Ds) (hl : Es.length + Ds.length * 3 ≤ sizeLine)
    (q : ∀ H1 vs p, Same H H1 → DqAll H1 N vs (Es ++ (Ds ++ (Ds ++ Ds))) → H1 p = none → g (.ref p) σ (upd H1 p (.lst vs)) Dn.nx) : tAsg (tOp rCat (tVar k) (tOp rRep (tLst ta) (tC (.int 3)))) g Dn σ H := by
  have l1 := hx.length
  refine ⟨_, hs, h H _ (Same.refl _) fun H1 vs s1 e1 => ⟨by rw [e1.length]; omega, fun r hr => ?_⟩⟩
  have s2 := Same.upd_new (o := .lst vs) hr
  have l2 := e1.length
  refine ⟨r, 3, vs, rfl, rfl, upd_same, by decide, by decide, by show vs.length * 3 ≤ _; omega, fun u hu => ?_⟩
  have s3 := Same.upd_new (o := .lst (List.replicate (3 : Int).toNat vs).flatten) hu
  have e3 : (List.replicate (3 : Int).toNat vs).flatten = vs ++ (vs ++ vs) := by
    show vs ++ (vs ++ (vs ++ [])) = _
    rw [List.append_nil]
  rw [e3] at s3 ⊢
  have s := s1.trans (s2.trans s3)
  have e := e1.same (s2.trans s3)
  refine ⟨p, u, xs, _, rfl, rfl, s _ _ hp, upd_same, by rw [List.length_append, List.length_append]; omega, fun w hw => q _ _ w s (DqAll.app (DqAll.app (DqAll.app e e) e) (hx.same s)) hw⟩
/-- a value appended to a list of them -/
theorem app_mk {K : PySem.W.Frag} {te : TE} {D : PyData} {Es : List PyData} {b : TS} {Dn : Ends} {H : Hp} {k : Nat} {p : Addr} {xs : List V} (hs : σ[k]? = some (some (.ref p))) (hp : H p = some (.lst xs)) (np : ∀ a, N a → a ≠ p) (hx : DqAll H N xs Es) (h : Mk N σ H te D) (hl : Es.length < sizeLine)
    (q : ∀ H1 ys, (∀ b o, H b = some o → b ≠ p → H1 b = some o) → H1 p = some (.lst ys) → DqAll H1 N ys (Es ++ [D]) → b Dn σ H1) : tSeq (tDrop (tBM K "list" rAppend (tVar k) (tCons te tNil))) b Dn σ H := by
  have l1 := hx.length
  refine ⟨_, hs, .inl ⟨rfl, _, .inl (.inl hp)⟩, h H _ (Same.refl _) fun H1 v s1 e1 => ⟨p, xs, v, rfl, rfl, s1 _ _ hp, by omega, ?_⟩⟩
  have all : DqAll H1 N (xs ++ [v]) (Es ++ [D]) := DqAll.app (.cons e1 .nil) (hx.same s1)
  exact q _ _ (fun b o e n => by rw [upd_ne n]; exact s1 _ _ e) upd_same (all.move (fun b o n e _ => by rw [upd_ne (np b n)]; exact e) fun _ _ n _ _ => n)
end
end Ft

set_option exponentiation.threshold 9000
namespace Ft
open PySem L2
def Rz (E : XK) (C : Addr) (f : Str) (v : V) (H : Hp) : Prop := ∀ H' d, Same H H' → H' d = none → E (.ref C) (some d) (upd H' d (.xd [(f, v)]))
theorem Rz.same {E : XK} {C : Addr} {f : Str} {v : V} {H H' : Hp} (h : Rz E C f v H) (s : Same H H') : Rz E C f v H' := fun H2 d s2 n => h H2 d (s.trans s2) n
def fromD (a : Int) : PyData → Bool
  | .int n => decide (a ≤ n)
  | _ => false
def sp_isIntQ : Sp := fun vs H Q _ => ∃ v d N, vs = [v] ∧ Dq H N v d ∧ Q (.bl (isIntD d)) H
def sp_fromQ : Sp := fun vs H Q _ => ∃ v d N a, vs = [v, .int a] ∧ Dq H N v d ∧ Q (.bl (fromD a d)) H
section
variable {P : Program} {w : World} {K : PySem.W.Frag} {mg : Str → Option Value} {base : Heap}
theorem ok_isIntQ (D : Df K mg "is_integer" s_is_integer ["thing"]) (B : Bi mg)  : Cal P w K mg base 1 "is_integer" sp_isIntQ := by
  obtain ⟨f, fd, F, m, b⟩ := D.ex
  have sc := sc_is_integer
  refine ⟨f, fd, _, F.ok sc (fun _ _ _ _ ⟨_, _, _, e, _⟩ => by rw [e]; rfl) (fun cdv A outer s H vs Q E hr h => ?_), m, F.kp, b⟩
  obtain ⟨v, d, N, rfl, hd, q⟩ := h
  refine ⟨_, (pss_one (ps_ret (pe_and (pe_callB call_isi (by rfl) B.isinstance (by decide +kernel) (pa_cons (pv 0) (pa_cons (pe_ty (n := "int") (by rfl) B.int_ (by decide +kernel)) pa_nil))) (pe_one (pe_not (pe_callB call_isi (by rfl) B.isinstance (by decide +kernel) (pa_cons (pv 0) (pa_cons (pe_ty (n := "bool") (by rfl) B.bool (by decide +kernel)) pa_nil)))))))), ?_⟩
  refine ⟨_, rfl, _, _, _, _, _, rfl, .ty _, hd.ty, kit_intD d, _, rfl, ?_⟩
  cases hi : (isIntD d || isBoolD d) with
  | false =>
    rw [(Bool.or_eq_false_iff.mp hi).1] at q
    exact iteF q
  | true =>
    refine iteT ⟨_, rfl, _, _, _, _, _, rfl, .ty _, hd.ty, kit_boolD d, _, rfl, ?_⟩
    have e : isIntD d = !isBoolD d := by cases d <;> first | rfl | cases hi
    rw [e] at q
    exact q
theorem ok_fromQ (D : Df K mg "is_from" s_is_from ["thing", "least"]) (c_is_integer : Cal P w K mg base 1 "is_integer" sp_isIntQ) : Cal P w K mg base 2 "is_from" sp_fromQ := by
  obtain ⟨f, fd, F, m, b⟩ := D.ex
  have sc := sc_is_from
  refine ⟨f, fd, _, F.ok sc (fun _ _ _ _ ⟨_, _, _, _, e, _⟩ => by rw [e]; rfl) (fun cdv A outer s H vs Q E hr h => ?_), m, F.kp, b⟩
  obtain ⟨v, d, N, a, rfl, hd, q⟩ := h
  refine ⟨_, (pss_one (ps_ret (pe_and (pe_c c_is_integer hr (by decide) (by rfl) (pa_cons (pv 0) pa_nil)) (pe_one (pe_cmpR op_ge (pv 0) (pv 1) (nomark _)))))), ?_⟩
  refine ⟨_, rfl, v, d, N, rfl, hd, _, rfl, ?_⟩
  cases hd with
  | int n => exact iteT ⟨_, rfl, _, rfl, _, _, rfl, rfl, q⟩
  | non => exact iteF q
  | bl _ => exact iteF q
  | str _ => exact iteF q
  | lst _ _ _ => exact iteF q
  | tup _ _ _ => exact iteF q
  | dict _ _ _ _ => exact iteF q
end
end Ft

set_option exponentiation.threshold 9000
namespace Ft
open PySem L2
def sqB (D : PyData) : Bool := D.showable && decide (D.depth ≤ 5) && D.leavesShort 700 && decide (D.bulk ≤ 300)
theorem sq_of {D : PyData} (h : sqB D = true) : Sq 5 300 D := by
  unfold sqB at h
  simp only [Bool.and_eq_true, decide_eq_true_eq] at h
  exact ⟨h.1.1.1, h.1.1.2, h.1.2, h.2⟩
theorem str_short (x : String) : (PyData.str (Str.ofString x)).leavesShort 700 = true := by
  simp only [PyData.leavesShort, List.all_eq_true, decide_eq_true_eq]
  intro c hc
  rw [Str.ofString_eq_toList] at hc
  obtain ⟨ch, _, rfl⟩ := List.mem_map.mp (show c ∈ x.toList.map Char.toNat from hc)
  exact ch.val.toNat_lt
theorem digits_len {z : Int} (h : z.natAbs < 10 ^ 28) : (Str.ofString (toString z)).length ≤ 40 := by
  rcases Int.lt_or_le z 0 with h0 | h0
  · obtain ⟨m, rfl⟩ : ∃ m : Nat, z = Int.negSucc m := ⟨z.natAbs - 1, by omega⟩
    have l := PyProof.Rows.toString_length_le (v := ((m + 1 : Nat) : Int)) (by omega) (k := 28) (by decide) (by
      have h : m + 1 < 10 ^ 28 := h
      have e : (10 : Int) ^ 28 = ((10 ^ 28 : Nat) : Int) := by decide
      rw [e]
      exact Int.ofNat_lt.mpr h)
    have e : toString (Int.negSucc m) = "-" ++ toString (m + 1) := rfl
    rw [e, PyProof.Rows.ofString_length, String.toList_append, List.length_append]
    rw [PyProof.Rows.ofString_length] at l
    have l' : (toString (m + 1)).toList.length ≤ 28 := l
    have : "-".toList.length = 1 := by decide
    omega
  · have l := PyProof.Rows.toString_length_le h0 (k := 28) (by decide) (by
      have e : (10 : Int) ^ 28 = ((10 ^ 28 : Nat) : Int) := by decide
      rw [e]
      omega)
    exact Nat.le_trans l (by decide)
abbrev All : Addr → Prop := fun _ => True
def Yg (H0 : Hp) (l : Addr) : Prop := ∀ o, H0 l = some o → ∃ ps, o = .tbl ps
def twoD (x : Str) (d : PyData) : PyData := .list [.tuple [.str x, d], .tuple [.str x, d]]
theorem rs_word {x : Str} (h : sqB (.str x) = true) (h2 : (PyData.str x).bulk ≤ 40) : Rs 5 40 (.str x) := ⟨(sq_of h).show_, by simp only [PyData.hasDict], (sq_of h).depth, (sq_of h).short, h2⟩
def sp_sameQ : Sp := fun vs H Q _ => ∃ (u v : V) (d : PyData) (N M : Addr → Prop), vs = [u, v] ∧ Dq H N u d ∧ Dq H M v d ∧ RepQ d ∧ Q (.bl true) H
theorem Dq.tup_inv {H : Hp} {N : Addr → Prop} {v : V} {ds : List PyData} (h : Dq H N v (.tuple ds)) : ∃ a xs, v = .ref a ∧ N a ∧ Rp H a (.tup xs) ∧ DqAll H N xs ds := by
  cases h with
  | tup n e h => exact ⟨_, _, rfl, n, e, h⟩
end Ft

set_option exponentiation.threshold 9000
namespace Ft
open PySem L2 PySem.Spec PyProof.Rows PySem.SeqAt
open AutoSeq1 (wpAny_loadPart')
open MeetsSeq
theorem str_eq_declines_obj (b : Str) (u : Tok) (l : Addr) (o : Obj) (ho : ∀ z t, o.data ≠ .prim (.str z t)) :
    Meets (Builtin.«str.__eq__» ⟨[.str b u, .ref l], []⟩) (fun _ R s => s.heap.get? l = some o ∧ R (.ok (.ret .notImplemented)) s) :=
  .of_wp fun prog w A R s h => by
    obtain ⟨hp, g, d, tk, os⟩ := s
    obtain ⟨hl, h⟩ := h
    wp_walk using wpAny_loadPart' hl, wpAny_load hl
    split
    · next z t e => exact absurd e (ho z t)
    · wp_walk
      exact ⟨_, rfl, h⟩
section
variable {prog : Program} {w : World} {A : Around} {s : Shared}
theorem dict_eq_declines_str {kd : KeyKind prog w Key} {a : Addr} {kvs : List (Key × Value)} (da : s.heap.DictOf kd a kvs) (b : Str) (u : Tok) {E : Value → Shared → Prop} {Q : Value → Shared → Prop} (h : Q .notImplemented s) :
    wpAny (model prog w) A (call (.builtin "dict.__eq__") [.ref a, .str b u]) Q E s := by
  refine wpAny_call_entry PySem.F.slot_dict_eq da.typeIs PySem.F.entry_dict_eq ?_ (PySem.F.args_dict_eq_2 _ _)
  show wpAny _ _ (Builtin.Dict.dictSlotArgs "__eq__" ⟨[.ref a, .str b u], []⟩ >>= _) _ _ s
  refine wpAny_bind ?_
  unfold Builtin.Dict.dictSlotArgs
  refine wpAny_bind (wpAny_notOrdered_dict da.typeIs ?_)
  show wpAny _ _ (pure (Value.ref a, Value.str b u)) _ _ s
  refine wpAny_pure ?_
  refine wpAny_bind (wpAny_isInstance (typeIs_str s b u) PySem.F.sub_str_dict ?_)
  refine wpAny_bind (wpAny_rule ?_)
  exact wpAny_pure ⟨_, rfl, h⟩
theorem RcAt.dict_str {kd : KeyKind prog w Key} {a : Addr} {kvs : List (Key × Value)} (da : s.heap.DictOf kd a kvs) (b : Str) (u : Tok) (hu : A.units < cLine) {E : Value → Shared → Prop} {Q : Value → Shared → Prop} (h : Q (.bool false) s) :
    wpAny (model prog w) A (compareOp .Eq (.ref a) (.str b u)) Q E s := by
  obtain ⟨o, es, ep, ho, hx, hd, _⟩ := id da
  exact rc_eq_decline_or (k := false) da.typeIs (typeIs_str s b u) (by decide) PySem.F.sub_str_dict PySem.F.slot_dict_eq PySem.F.slot_str_eq_refl
    (fun _ hq => dict_eq_declines_str da b u hq)
    (fun _ hq => call_meets PySem.F.slot_str_eq_refl (typeIs_str s b u) PySem.F.entry_str_eq (PySem.F.args_str_eq_2 _ _) (str_eq_declines_obj b u a o fun z t e => by rw [hd] at e; cases e) ⟨ho, hq⟩)
    (fun _ hq => wpAny_of_eq (rfl : isSame (.ref a) (.str b u) = pure false) hq) (.inr hu) h
end
/-- is any value this text -/
def strD (w : Str) : PyData → Bool
  | .str x => decide (x = w)
  | _ => false
def rEqS : R2 := fun x y H Q => ∃ (D : PyData) (N : Addr → Prop) (w : Str), y = .str w ∧ Dq H N x D ∧ Q (.bl (strD w D)) H
theorem op_eqS {X : Cx} (hu : X.A.units < cLine) : OpR X (compareOp .Eq) rEqS := by
  intro pins s σ H x y v u Q I rx ry h
  obtain ⟨D, N, w, rfl, hx, q⟩ := h
  have flat : scal x (.str w) = true → strD w D = decide (x = V.str w) → wpAny (model X.prog X.w) X.A (compareOp .Eq v u) (fun v s' => ∃ y H', Inv X pins σ H' s' ∧ RelV y v ∧ Q y H') X.xe s := fun a b => op_eq pins s σ H x (.str w) v u Q I rx ry ⟨a, by rw [← b]; exact q⟩
  cases hx with
  | non => exact flat rfl rfl
  | bl b => exact flat rfl rfl
  | int i => exact flat rfl rfl
  | str z => exact flat rfl (decide_eq_decide.mpr ⟨fun h => congrArg V.str h, fun h => V.str.inj h⟩)
  | lst n e h =>
    cases (show v = Value.ref _ from rx)
    obtain ⟨t, rfl⟩ := ry
    obtain ⟨its, rv, pl, hz⟩ := I.list (.inl e.rd)
    exact RcAt.list_str w t pl.isList hu _ _ _ _ ⟨.bl false, H, I, rfl, q⟩
  | tup n e h =>
    cases (show v = Value.ref _ from rx)
    obtain ⟨t, rfl⟩ := ry
    obtain ⟨its, rv, pl, _⟩ := I.tuple (.inl e.rd)
    exact RcAt.tuple_str w t (show s.heap.IsTuple _ its.toArray from pl) hu _ _ _ _ ⟨.bl false, H, I, rfl, q⟩
  | dict n e hk h =>
    cases (show v = Value.ref _ from rx)
    obtain ⟨t, rfl⟩ := ry
    have ok := I.hok _ _ e
    simp only [ObjOk] at ok
    obtain ⟨_, _, vs, rv, da⟩ := ok
    exact RcAt.dict_str da w t hu ⟨.bl false, H, I, rfl, q⟩
end Ft

set_option exponentiation.threshold 9000
namespace Ft
open PySem L2 PySem.Spec PyProof.Rows PySem.SeqAt
open AutoSeq1 (wpAny_loadPart')
open MeetsSeq
theorem str_ne_declines_obj (b : Str) (u : Tok) (l : Addr) (o : Obj) (ho : ∀ z t, o.data ≠ .prim (.str z t)) :
    Meets (Builtin.«str.__ne__» ⟨[.str b u, .ref l], []⟩) (fun _ R s => s.heap.get? l = some o ∧ R (.ok (.ret .notImplemented)) s) :=
  .of_wp fun prog w A R s h => by
    obtain ⟨hp, g, d, tk, os⟩ := s
    obtain ⟨hl, h⟩ := h
    wp_walk using wpAny_loadPart' hl, wpAny_load hl
    split
    · next z t e => exact absurd e (ho z t)
    · wp_walk
      exact ⟨_, rfl, h⟩
section
variable {prog : Program} {w : World} {A : Around} {s : Shared}
theorem dict_ne_declines_str {kd : KeyKind prog w Key} {a : Addr} {kvs : List (Key × Value)} (da : s.heap.DictOf kd a kvs) (b : Str) (u : Tok) {E : Value → Shared → Prop} {Q : Value → Shared → Prop} (h : Q .notImplemented s) :
    wpAny (model prog w) A (call (.builtin "dict.__ne__") [.ref a, .str b u]) Q E s := by
  refine wpAny_call_entry PySem.F.slot_dict_ne da.typeIs PySem.F.entry_dict_ne ?_ (PySem.F.args_dict_ne_2 _ _)
  show wpAny _ _ (Builtin.Dict.dictSlotArgs "__ne__" ⟨[.ref a, .str b u], []⟩ >>= _) _ _ s
  refine wpAny_bind ?_
  unfold Builtin.Dict.dictSlotArgs
  refine wpAny_bind (wpAny_notOrdered_dict da.typeIs ?_)
  show wpAny _ _ (pure (Value.ref a, Value.str b u)) _ _ s
  refine wpAny_pure ?_
  refine wpAny_bind (wpAny_isInstance (typeIs_str s b u) PySem.F.sub_str_dict ?_)
  refine wpAny_bind (wpAny_rule ?_)
  exact wpAny_pure ⟨_, rfl, h⟩
theorem RcNeAt.dict_str {kd : KeyKind prog w Key} {a : Addr} {kvs : List (Key × Value)} (da : s.heap.DictOf kd a kvs) (b : Str) (u : Tok) (hu : A.units < cLine) {E : Value → Shared → Prop} {Q : Value → Shared → Prop} (h : Q (.bool true) s) :
    wpAny (model prog w) A (compareOp .NotEq (.ref a) (.str b u)) Q E s := by
  obtain ⟨o, es, ep, ho, hx, hd, _⟩ := id da
  exact rc_ne_decline_or (k := false) da.typeIs (typeIs_str s b u) (by decide) PySem.F.sub_str_dict PySem.F.slot_dict_ne PySem.F.slot_str_ne_refl
    (fun _ hq => dict_ne_declines_str da b u hq)
    (fun _ hq => call_meets PySem.F.slot_str_ne_refl (typeIs_str s b u) PySem.F.entry_str_ne (PySem.F.args_str_ne_2 _ _) (str_ne_declines_obj b u a o fun z t e => by rw [hd] at e; cases e) ⟨ho, hq⟩)
    (fun _ hq => wpAny_of_eq (rfl : isSame (.ref a) (.str b u) = pure false) hq) (.inr hu) h
end
def rNeS : R2 := fun x y H Q => ∃ (D : PyData) (N : Addr → Prop) (w : Str), y = .str w ∧ Dq H N x D ∧ Q (.bl (!strD w D)) H
theorem op_neS {X : Cx} (hu : X.A.units < cLine) : OpR X (compareOp .NotEq) rNeS := by
  intro pins s σ H x y v u Q I rx ry h
  obtain ⟨D, N, w, rfl, hx, q⟩ := h
  have flat : scal x (.str w) = true → strD w D = decide (x = V.str w) → wpAny (model X.prog X.w) X.A (compareOp .NotEq v u) (fun v s' => ∃ y H', Inv X pins σ H' s' ∧ RelV y v ∧ Q y H') X.xe s := fun a b => op_ne pins s σ H x (.str w) v u Q I rx ry ⟨a, by rw [← b]; exact q⟩
  cases hx with
  | non => exact flat rfl rfl
  | bl b => exact flat rfl rfl
  | int i => exact flat rfl rfl
  | str z => exact flat rfl (decide_eq_decide.mpr ⟨fun h => congrArg V.str h, fun h => V.str.inj h⟩)
  | lst n e h =>
    cases (show v = Value.ref _ from rx)
    obtain ⟨t, rfl⟩ := ry
    obtain ⟨its, rv, pl, hz⟩ := I.list (.inl e.rd)
    exact RcNeAt.list_str w t pl.isList hu _ _ _ _ ⟨.bl true, H, I, rfl, q⟩
  | tup n e h =>
    cases (show v = Value.ref _ from rx)
    obtain ⟨t, rfl⟩ := ry
    obtain ⟨its, rv, pl, _⟩ := I.tuple (.inl e.rd)
    exact RcNeAt.tuple_str w t (show s.heap.IsTuple _ its.toArray from pl) hu _ _ _ _ ⟨.bl true, H, I, rfl, q⟩
  | dict n e hk h =>
    cases (show v = Value.ref _ from rx)
    obtain ⟨t, rfl⟩ := ry
    have ok := I.hok _ _ e
    simp only [ObjOk] at ok
    obtain ⟨_, _, vs, rv, da⟩ := ok
    exact RcNeAt.dict_str da w t hu ⟨.bl true, H, I, rfl, q⟩
end Ft

set_option exponentiation.threshold 9000
namespace Ft
open PySem L2
def headD (w : Str) : List PyData → Bool
  | d :: _ => strD w d
  | [] => false
def toldD (w : Str) (many : Nat) : PyData → Bool
  | .tuple ds => decide (ds.length = many) && headD w ds
  | _ => false
def intsD (many : Nat) : PyData → Bool
  | .tuple ds => decide (ds.length = many) && ds.all isIntD
  | _ => false
def overD : PyData → Bool
  | .tuple (_ :: .int b :: _) => decide (1 ≤ b)
  | _ => false
def numD (D : PyData) : Bool := intsD 2 D && overD D
def sp_toldQ : Sp := fun vs H Q _ => ∃ v D N w many, vs = [v, .str w, .int ((many : Nat) : Int)] ∧ Dq H N v D ∧ 1 ≤ many ∧ Q (.bl (toldD w many D)) H
def sp_tupQ : Sp := fun vs H Q _ => ∃ v D N many, vs = [v, .int ((many : Nat) : Int)] ∧ Dq H N v D ∧ many ≤ 400 ∧ ∀ H', Same H H' → Q (.bl (intsD many D)) H'
def sp_pairQ : Sp := fun vs H Q _ => ∃ v D N, vs = [v] ∧ Dq H N v D ∧ ∀ H', Same H H' → Q (.bl (intsD 2 D)) H'
def sp_numQ : Sp := fun vs H Q _ => ∃ v D N, vs = [v] ∧ Dq H N v D ∧ ∀ H', Same H H' → Q (.bl (numD D)) H'
theorem tup_of {D : PyData} (h : isTupD D = true) : ∃ ds, D = .tuple ds := by
  cases D with
  | tuple ds => exact ⟨ds, rfl⟩
  | int _ => cases h
  | str _ => cases h
  | none => cases h
  | bool _ => cases h
  | list _ => cases h
  | dict _ => cases h
theorem dq_at {H : Hp} {N : Addr → Prop} : ∀ {vs : List V} {ds : List PyData} {i : Nat} {d : PyData}, DqAll H N vs ds → ds[i]? = some d → ∃ v, vs[i]? = some v ∧ Dq H N v d
  | _, _, 0, _, .cons a _, e => ⟨_, rfl, by cases e; exact a⟩
  | _, _, i + 1, _, .cons _ t, e => dq_at (i := i) t e
theorem dq_of {H : Hp} {N : Addr → Prop} : ∀ {vs : List V} {ds : List PyData} {i : Nat} {v : V}, DqAll H N vs ds → vs[i]? = some v → ∃ d, ds[i]? = some d ∧ Dq H N v d
  | _, _, 0, _, .cons a _, e => ⟨_, rfl, by cases e; exact a⟩
  | _, _, i + 1, _, .cons _ t, e => dq_of (i := i) t e
theorem ints2 {D : PyData} (h : intsD 2 D = true) : ∃ x y, D = .tuple [.int x, .int y] := by
  cases D with
  | tuple ds =>
    obtain ⟨h1, h2⟩ := Bool.and_eq_true_iff.mp (show (decide (ds.length = 2) && ds.all isIntD) = true from h)
    match ds, of_decide_eq_true h1 with
    | [a, b], _ =>
      have ha := List.all_eq_true.mp h2 a (by simp)
      have hb := List.all_eq_true.mp h2 b (by simp)
      have i : ∀ {d : PyData}, isIntD d = true → ∃ x, d = .int x := fun {d} h => by cases d <;> first | exact ⟨_, rfl⟩ | cases h
      obtain ⟨x, rfl⟩ := i ha
      obtain ⟨y, rfl⟩ := i hb
      exact ⟨x, y, rfl⟩
  | int _ => cases h
  | str _ => cases h
  | none => cases h
  | bool _ => cases h
  | list _ => cases h
  | dict _ => cases h
section
variable {P : Program} {w : World} {K : PySem.W.Frag} {mg : Str → Option Value} {base : Heap}
theorem ok_toldQ (D : Df K mg "is_told" s_is_told ["thing", "word", "many"]) (B : Bi mg) : Cal P w K mg base 1 "is_told" sp_toldQ := by
  obtain ⟨f, fd, F, m, b⟩ := D.ex
  have sc := sc_is_told
  refine ⟨f, fd, _, F.ok sc (fun _ _ _ _ ⟨_, _, _, _, _, e, _⟩ => by rw [e]; rfl) (fun cdv A outer s H vs Q E hr h => ?_), m, F.kp, b⟩
  obtain ⟨v, D, N, w, many, rfl, hd, m1, q⟩ := h
  have hu : (A.deeper (PyProof.Rows.envOfC "is_told" (defScope s_is_told) s.heap.objs.size f cdv)).units < cLine := by have := hr.un; omega
  refine ⟨_, (pss_one (ps_ret (pe_and (pe_callB call_isi (by rfl) B.isinstance (by decide +kernel) (pa_cons (pv 0) (pa_cons (pe_ty (n := "tuple") (by rfl) B.tuple (by decide +kernel)) pa_nil))) (pe_and (pe_cmpR op_eq (pe_callB call_len_seq (by rfl) B.len_ (by decide +kernel) (pa_cons (pv 0) pa_nil)) (pv 2) (nomark _)) (pe_one (pe_cmpR (op_eqS hu) (pe_ix (show IxR _ (rIx K) from ix_seq) (pv 0) pe_int (fun _ _ => rfl)) (pv 1) (nomark _))))))), ?_⟩
  refine ⟨_, rfl, _, _, _, _, isTupD D, rfl, .ty _, hd.ty, kit_tupD D, _, rfl, ?_⟩
  cases hT : isTupD D with
  | false =>
    have e : toldD w many D = false := by cases D <;> first | rfl | cases hT
    rw [e] at q
    exact iteF q
  | true =>
  obtain ⟨ds, rfl⟩ := tup_of hT
  obtain ⟨a, xs, rfl, na, ra, hx⟩ := hd.tup_inv
  have lx := hx.length
  refine iteT ⟨_, rfl, a, xs, rfl, .inr (.inl ra), ?_⟩
  rw [lx]
  have et : toldD w many (.tuple ds) = (decide (ds.length = many) && headD w ds) := rfl
  rw [et] at q
  refine ⟨_, rfl, rfl, _, rfl, ifI (fun e => ?_) fun e => ?_⟩
  · have e : ds.length = many := by omega
    rw [decide_eq_true e, Bool.true_and] at q
    obtain ⟨d0, hd0⟩ : ∃ d, ds[0]? = some d := ⟨_, List.getElem?_eq_getElem (by omega)⟩
    obtain ⟨x, hx0, dx⟩ := dq_at hx hd0
    refine ⟨_, rfl, .inr (.inl ⟨a, xs, _, x, rfl, rfl, .inl ra.rd, atI_nat (j := 0) hx0, _, rfl, d0, N, w, rfl, dx, ?_⟩)⟩
    have eh : headD w ds = strD w d0 := by
      cases ds with
      | nil => cases hd0
      | cons y ys => cases hd0; rfl
    rw [← eh]
    exact q
  · have e : ¬ ds.length = many := by omega
    rw [decide_eq_false e, Bool.false_and] at q
    exact q
end
end Ft

set_option exponentiation.threshold 9000
namespace Ft
open PySem L2
theorem no_odd {α : Type} (p : α → Bool) : ∀ ds : List α, (ds.filter fun d => !p d).isEmpty = ds.all p
  | [] => rfl
  | d :: ds => by
    rw [List.filter_cons, List.all_cons]
    cases h : p d with
    | false => rfl
    | true => rw [Bool.true_and]; exact no_odd p ds
theorem ones_dp {K : PySem.W.Frag} {H : Hp} {α : Type} : ∀ l : List α, DpAll K H (l.map fun _ => V.int 1) (l.map fun _ => PyData.int 1)
  | [] => .nil
  | _ :: l => .cons (.int 1) (ones_dp l)
theorem ones_shaped {α : Type} (l : List α) : SeqAt.shaped (.list (l.map fun _ => PyData.int 1)) = true := by
  have := PySem.W.ke_shaped_ints (l.map fun _ => (1 : Int))
  rw [List.map_map] at this
  exact this
theorem ones_nil {α : Type} (l : List α) : PyData.eqv (.list (l.map fun _ => PyData.int 1)) (.list []) = l.isEmpty := by rw [eqv_nil]; cases l <;> rfl
section
variable {P : Program} {w : World} {K : PySem.W.Frag} {mg : Str → Option Value} {base : Heap}
theorem ok_lints (D : Df K mg "_law_are_integers" s__law_are_integers ["_law_thing", "_law_many"]) (B : Bi mg) (c__law_is_integer : Cal P w K mg base 1 "_law_is_integer" sp_isIntQ) : Cal P w K mg base 2 "_law_are_integers" sp_tupQ := by
  obtain ⟨f, fd, F, m, b⟩ := D.ex
  have sc := sc__law_are_integers
  refine ⟨f, fd, _, F.ok sc (fun _ _ _ _ ⟨_, _, _, _, e, _⟩ => by rw [e]; rfl) (fun cdv A outer s H vs Q E hr h => ?_), m, F.kp, b⟩
  obtain ⟨v, D, N, many, rfl, hd, m4, q⟩ := h
  have h64 : (A.deeper (PyProof.Rows.envOfC "_law_are_integers" (defScope s__law_are_integers) s.heap.objs.size f cdv)).units + 64 < cLine := by have := hr.un; omega
  refine ⟨_, (pss_one (ps_ret (pe_and (pe_callB (id := "isinstance") (r := rIsi K) call_isi (by rfl) B.isinstance (by decide +kernel) (pa_cons (pv 0) (pa_cons (pe_ty (n := "tuple") (by rfl) B.tuple (by decide +kernel)) pa_nil))) (pe_and (pe_cmpR op_eq (pe_callB call_len_seq (by rfl) B.len_ (by decide +kernel) (pa_cons (pv 0) pa_nil)) (pv 1) (nomark _)) (pe_one (pe_cmpR (op_eqD h64) (pe_lc (own := [("_law_x", 2)]) (g := gName 2)  (by rfl) sc.nd (pi_tup (pv 0)) (blkOk_by (own := [("_law_x", 2)]) (N := N__law_are_integers) (sc := defScope s__law_are_integers) (by decide +kernel)) (fun _ _ _ _ _ => (pg_name (i := 2) sc.nd rfl (Or.inl rfl))) (fun _ _ _ _ _ => (pts_one (pt_not (pt_val (pe_c c__law_is_integer hr (by decide) (by rfl) (pa_cons (pv 2) pa_nil)))))) (fun _ _ _ _ _ => pe_int)) (pe_lst pa_nil) (nomark _))))))), ?_⟩
  refine ⟨_, rfl, _, _, _, _, isTupD D, rfl, .ty _, hd.ty, kit_tupD D, _, rfl, ?_⟩
  cases hT : isTupD D with
  | false =>
    have e : intsD many D = false := by cases D <;> first | rfl | cases hT
    rw [e] at q
    exact iteF (q _ (Same.refl _))
  | true =>
  obtain ⟨ds, rfl⟩ := tup_of hT
  obtain ⟨a, xs, rfl, na, ra, hx⟩ := hd.tup_inv
  have lx := hx.length
  refine iteT ⟨_, rfl, a, xs, rfl, .inr (.inl ra), ?_⟩
  rw [lx]
  have et : intsD many (.tuple ds) = (decide (ds.length = many) && ds.all isIntD) := rfl
  rw [et] at q
  refine ⟨_, rfl, rfl, _, rfl, ifI (fun e => ?_) fun e => ?_⟩
  · have e : ds.length = many := by omega
    rw [decide_eq_true e, Bool.true_and] at q
    refine ⟨_, rfl, a, rfl, ⟨xs, .inl ra⟩, fun D1 hD1 => ?_⟩
    have fr : ∀ {H' : Hp}, Same H H' → SqT K H' a xs := fun s2 => by cases ra with | inl e => exact .inl (.inl (s2 _ _ e))
    refine lc_tup (K := K) (a := a) (xs := xs) (fun i H' => Same H H' ∧ H' D1 = some (.lst (((ds.take i).filter fun d => !isIntD d).map fun _ => V.int 1))) ⟨Same.upd_new hD1, upd_same⟩ (fun i H' _ ⟨s2, _⟩ => fr s2) ?_ ?_
    · rintro i x H2 hi ⟨s2, h2⟩
      obtain ⟨d0, hd0, dx⟩ := dq_of hx hi
      refine ⟨rfl, ?_⟩
      refine ⟨_, rfl, x, d0, N, rfl, dx.same s2, _, rfl, ?_⟩
      have et : (ds.take (i + 1)).filter (fun d => !isIntD d) = (ds.take i).filter (fun d => !isIntD d) ++ (if (!isIntD d0) = true then [d0] else []) := by
        rw [List.take_add_one, hd0, List.filter_append]
        congr 1
        show List.filter _ [d0] = _
        rw [List.filter_cons]
        cases isIntD d0 <;> rfl
      cases hI : isIntD d0 with
      | true =>
        rw [hI] at et
        refine iteF ⟨s2, ?_⟩
        rw [et]
        show _ = some (HO.lst (List.map _ (_ ++ [])))
        rw [List.append_nil]
        exact h2
      | false =>
        rw [hI] at et
        refine iteT ⟨_, h2, ?_, fun b o e => ?_, ?_⟩
        · rw [List.length_map]
          refine Nat.lt_of_le_of_lt (Nat.le_trans (List.length_filter_le _ _) (by rw [List.length_take]; omega : _ ≤ 400)) (by decide)
        · rw [upd_ne (ne_of_none e hD1)]
          exact s2 _ _ e
        · rw [upd_same, et]
          show _ = some (HO.lst (List.map _ (_ ++ [d0])))
          rw [List.map_append]
          rfl
    · rintro H2 ⟨s2, h2⟩
      rw [lx, List.take_length] at h2
      refine ⟨(by show (0 : Nat) ≤ sizeLine; decide), fun E1 hE1 => ?_⟩
      have s3 : Same H2 (upd H2 E1 (.lst [])) := Same.upd_new hE1
      refine ⟨_, .list [], .lst (SqL.of (s3 _ _ h2)) (ones_dp _), .lst (SqL.of upd_same) .nil, ones_shaped _, rfl, ?_⟩
      rw [ones_nil, no_odd]
      exact q _ (s2.trans s3)
  · have e : ¬ ds.length = many := by omega
    rw [decide_eq_false e, Bool.false_and] at q
    exact q _ (Same.refl _)
end
end Ft

set_option exponentiation.threshold 9000
namespace Ft
open PySem L2
/-! signs of any value -/
def btwD (lo hi : Int) : PyData → Bool
  | .int n => decide (lo ≤ n) && decide (n ≤ hi)
  | _ => false
def signD : PyData → Bool
  | .int n => isSign n
  | _ => false
theorem signD_int {D : PyData} (h : signD D = true) : ∃ n, D = .int n ∧ isSign n = true := by
  cases D with
  | int n => exact ⟨n, rfl, h⟩
  | none => cases h
  | bool _ => cases h
  | str _ => cases h
  | list _ => cases h
  | tuple _ => cases h
  | dict _ => cases h
theorem isIntD_int {D : PyData} (h : isIntD D = true) : ∃ n, D = .int n := by
  cases D with
  | int n => exact ⟨n, rfl⟩
  | none => cases h
  | bool _ => cases h
  | str _ => cases h
  | list _ => cases h
  | tuple _ => cases h
  | dict _ => cases h
def sp_betweenQ : Sp := fun vs H Q _ => ∃ v d N lo hi, vs = [v, .int lo, .int hi] ∧ Dq H N v d ∧ Q (.bl (btwD lo hi d)) H
def sp_isSignQ : Sp := fun vs H Q _ => ∃ v d N, vs = [v] ∧ Dq H N v d ∧ Q (.bl (signD d)) H
def sp_checkSignX (C : Addr) : Sp := fun vs H Q E => ∃ v d N, vs = [v] ∧ Dq H N v d ∧ (signD d = true → Q .non H) ∧ (signD d = false → Rz E C "thing" v H)
def sp_checkIntX (C : Addr) : Sp := fun vs H Q E => ∃ v d N, vs = [v] ∧ Dq H N v d ∧ (isIntD d = true → Q .non H) ∧ (isIntD d = false → Rz E C "thing" v H)
def sp_signAtX (CS CN : Addr) : Sp := fun vs H Q E => ∃ v u d e N M, vs = [v, u] ∧ Dq H N v d ∧ Dq H M u e ∧ (signD d = false → Rz E CS "thing" v H) ∧ (signD d = true → isIntD e = false → Rz E CN "thing" u H) ∧ (∀ s n, d = .int s → e = .int n → isSign s = true → Q (.int (valueAt s n)) H)
section
variable {P : Program} {w : World} {K : PySem.W.Frag} {mg : Str → Option Value} {base : Heap}
theorem ok_betweenQ (D : Df K mg "is_between" s_is_between ["thing", "least", "most"]) (c_is_integer : Cal P w K mg base 1 "is_integer" sp_isIntQ) : Cal P w K mg base 2 "is_between" sp_betweenQ := by
  obtain ⟨f, fd, F, m, b⟩ := D.ex
  have sc := sc_is_between
  refine ⟨f, fd, _, F.ok sc (fun _ _ _ _ ⟨_, _, _, _, _, e, _⟩ => by rw [e]; rfl) (fun cdv A outer s H vs Q E hr h => ?_), m, F.kp, b⟩
  obtain ⟨v, d, N, lo, hi, rfl, hd, q⟩ := h
  refine ⟨_, (pss_one (ps_ret (pe_and (pe_c c_is_integer hr (by decide) (by rfl) (pa_cons (pv 0) pa_nil)) (pe_one (pe_chain op_le op_le (pv 1) (pv 0) (pv 2)))))), ?_⟩
  refine ⟨_, rfl, v, d, N, rfl, hd, _, rfl, ?_⟩
  cases hd with
  | int n =>
    have e : btwD lo hi (.int n) = (decide (lo ≤ n) && decide (n ≤ hi)) := rfl
    rw [e] at q
    refine iteT ⟨_, rfl, _, rfl, lo, n, rfl, rfl, _, rfl, ifD (fun le => ?_) fun gt => ?_⟩
    · refine ⟨_, rfl, n, hi, rfl, rfl, ?_⟩
      rw [decide_eq_true le, Bool.true_and] at q
      exact q
    · rw [decide_eq_false gt, Bool.false_and] at q
      exact q
  | non => exact iteF q
  | bl _ => exact iteF q
  | str _ => exact iteF q
  | lst _ _ _ => exact iteF q
  | tup _ _ _ => exact iteF q
  | dict _ _ _ _ => exact iteF q
theorem fn_isSignQ {f : Addr} {fd : FuncData} (F : Fun K "is_sign" "is_sign" s_is_sign f fd) (c_any_sign_of : Cal P w K mg base 2 "any_sign_of" sp_any_sign_of) (c_is_between : Cal P w K mg base 2 "is_between" sp_betweenQ) : FnOk P w K mg base CX0 3 f fd ["thing"] sp_isSignQ := by
  have sc := sc_is_sign
  refine F.ok sc (fun _ _ _ _ ⟨_, _, _, e, _⟩ => by rw [e]; rfl) (fun cdv A outer s H vs Q E hr h => ?_)
  obtain ⟨v, d, N, rfl, hd, q⟩ := h
  refine ⟨_, (pss_one (ps_ret (pe_and (pe_c c_is_between hr (by decide) (by rfl) (pa_cons (pv 0) (pa_cons (pe_un un_neg pe_int) (pa_cons pe_int pa_nil)))) (pe_and (pe_cmpR op_ne (pv 0) pe_int (nomark _)) (pe_one (pe_cmpR op_eq (pe_c c_any_sign_of hr (by decide) (by rfl) (pa_cons (pv 0) pa_nil)) (pv 0) (nomark _))))))), ?_⟩
  refine ⟨_, rfl, _, rfl, v, d, N, -400, 400, rfl, hd, _, rfl, ?_⟩
  cases hd with
  | int z =>
    replace q : Q (.bl (isSign z)) H := q
    unfold isSign at q
    show if (decide (-400 ≤ z) && decide (z ≤ 400)) = true then _ else _
    cases e1 : decide (-400 ≤ z)
    · rw [e1] at q; exact iteF q
    · cases e2 : decide (z ≤ 400)
      · rw [e1, e2] at q; exact iteF q
      · rw [e1, e2] at q
        refine iteT ?_
        refine ⟨_, rfl, rfl, _, rfl, ifNI (fun e => ?_) fun e => ?_⟩
        · rw [decide_eq_true e] at q
          have k1 := of_decide_eq_true e1
          have k2 := of_decide_eq_true e2
          refine ⟨_, rfl, z, rfl, ⟨e, by omega⟩, _, rfl, rfl, ?_⟩
          have ee : decide (V.int (anySign z) = V.int z) = decide (anySign z = z) := by
            by_cases h : anySign z = z
            · rw [decide_eq_true h, h]; exact decide_eq_true rfl
            · rw [decide_eq_false h]; exact decide_eq_false fun k => h (V.int.inj k)
          show Q (.bl (decide (V.int (anySign z) = V.int z))) H
          rw [ee]
          exact q
        · rw [show decide (z ≠ 0) = false from decide_eq_false fun k => k e] at q
          exact q
  | non => exact iteF q
  | bl _ => exact iteF q
  | str _ => exact iteF q
  | lst _ _ _ => exact iteF q
  | tup _ _ _ => exact iteF q
  | dict _ _ _ _ => exact iteF q
theorem cx_checkSign {C : Addr} (D : Df K mg "check_sign" s_check_sign ["sign"]) (T : Err P w K mg base "BadSign" C "thing") (c_is_sign : Cal P w K mg base 3 "is_sign" sp_isSignQ) : CalX P w K mg base 5 "check_sign" (sp_checkSignX C) := by
  obtain ⟨f, fd, F, m, b⟩ := D.ex
  have sc := sc_check_sign
  refine ⟨f, fd, _, F.okX sc (fun _ _ _ _ ⟨_, _, _, e, _⟩ => by rw [e]; rfl) (fun cdv A outer s H vs Q E hr h => ?_), m, F.kp, b⟩
  obtain ⟨v, d, N, rfl, hd, q1, q2⟩ := h
  refine ⟨_, (pss_one (ps_if (pt_not (pt_val (pe_c c_is_sign hr (by decide) (by rfl) (pa_cons (pv 0) pa_nil))))
      (pss_one (ps_raise rfl (takes_of rfl rfl rfl rfl) (pmk_err T hr (by decide) (by rfl) (pa_cons (pv 0) pa_nil))))
      pss_nil)), ?_⟩
  refine ⟨_, rfl, v, d, N, rfl, hd, _, rfl, ?_⟩
  cases hf : signD d with
  | true => exact iteF (q1 hf)
  | false => exact iteT ⟨_, rfl, v, rfl, fun d hd => q2 hf _ _ (Same.refl _) hd⟩
end
end Ft

namespace Ft
/-! the numbers of k26 -/
def divL (n : Nat) : List Nat := ((List.range n).filter fun i => decide (n % (i + 1) = 0)).map fun i => i + 1
def manyOf (N c : Nat) : Nat := ((List.range (Nat.gcd c (N / c))).filter fun i => decide (Nat.gcd (i + 1) (Nat.gcd c (N / c)) = 1)).length
abbrev Tri := Nat × Nat × Nat
def edgeOf (N c : Nat) : Tri := (c, manyOf N c, N / Nat.gcd (c * c) N)
def edges (N : Nat) : List Tri := (divL N).map (edgeOf N)
def sumE (l : List Tri) : Nat := l.foldl (fun s e => s + e.2.1 * e.2.2) 0
/-- the program's way to the divisors -/
def lowL (n r : Nat) : List Nat := ((List.range r).filter fun i => decide (n % (i + 1) = 0)).map fun i => i + 1
def divP (n r : Nat) : List Nat := lowL n r ++ (((lowL n r).reverse.filter fun d => decide (d * d ≠ n)).map fun d => n / d)
/-- Bool checks -/
def eqL : List Nat → List Nat → Bool
  | [], [] => true
  | a :: l, b :: m => Nat.beq a b && eqL l m
  | _, _ => false
def divF (n : Nat) : Nat → List Nat → List Nat
  | 0, acc => acc
  | i + 1, acc => divF n i (bif Nat.beq (n % (i + 1)) 0 then (i + 1) :: acc else acc)
end Ft

set_option exponentiation.threshold 9000
namespace Ft
open PySem L2
/-! ### numbers as pairs -/
abbrev Fq := Int × Int
def low (a b : Int) : Fq := (a / ((Nat.gcd a.natAbs b.natAbs : Nat) : Int), b / ((Nat.gcd a.natAbs b.natAbs : Nat) : Int))
def nsum (x y : Fq) : Fq := low (x.1 * y.2 + y.1 * x.2) (x.2 * y.2)
def nprod (x y : Fq) : Fq := low (x.1 * y.1) (x.2 * y.2)
/-- of at most b bits, over a positive number -/
def Small (b : Nat) (x : Fq) : Prop := x.1.natAbs < 2 ^ b ∧ x.2.natAbs < 2 ^ b ∧ 0 < x.2
/-- the value v is the number x -/
def Fr (H : Hp) (v : V) (x : Fq) : Prop := ∃ t, v = .ref t ∧ H t = some (.tup [.int x.1, .int x.2])
theorem Fr.same {H H' : Hp} {v : V} {x : Fq} (h : Fr H v x) (s : Same H H') : Fr H' v x := by
  obtain ⟨t, e, z⟩ := h
  exact ⟨t, e, s _ _ z⟩
theorem Fr.new {H : Hp} {p : Addr} {a b : Int} : Fr (upd H p (.tup [.int a, .int b])) (.ref p) (a, b) := ⟨p, rfl, upd_same⟩
theorem two0 {a b : V} : atI [a, b] 0 = some a := atI_nat (j := 0) rfl
theorem two1 {a b : V} : atI [a, b] 1 = some b := atI_nat (j := 1) rfl
theorem fr0 {K : PySem.W.Frag} {H : Hp} {v : V} {x : Fq} {Q : VK} (h : Fr H v x) (q : Q (.int x.1) H) : rIx K v (.int 0) H Q := by
  obtain ⟨t, rfl, z⟩ := h
  exact .inr (.inl ⟨t, _, 0, _, rfl, rfl, SqT.of z, two0, q⟩)
theorem fr1 {K : PySem.W.Frag} {H : Hp} {v : V} {x : Fq} {Q : VK} (h : Fr H v x) (q : Q (.int x.2) H) : rIx K v (.int 1) H Q := by
  obtain ⟨t, rfl, z⟩ := h
  exact .inr (.inl ⟨t, _, 1, _, rfl, rfl, SqT.of z, two1, q⟩)
def sp_low : Sp := fun vs H Q _ => ∃ a b : Int, vs = [.int a, .int b] ∧ 0 < b ∧ b.natAbs < 2 ^ 8001 ∧ ∀ H' v, Same H H' → Fr H' v (low a b) → Q v H'
def sp_num (g : Fq → Fq → Fq) : Sp := fun vs H Q _ => ∃ u v x y, vs = [u, v] ∧ Fr H u x ∧ Fr H v y ∧ Small 4000 x ∧ Small 4000 y ∧ ∀ H' r, Same H H' → Fr H' r (g x y) → Q r H'
theorem gcd_bit {a b : Int} (h : 0 < b) : 0 < ((Nat.gcd a.natAbs b.natAbs : Nat) : Int) ∧ Nat.gcd a.natAbs b.natAbs ≤ b.natAbs := by
  have h1 : 0 < b.natAbs := by omega
  have h2 := Nat.gcd_pos_of_pos_right a.natAbs h1
  exact ⟨by omega, Nat.le_of_dvd h1 (Nat.gcd_dvd_right _ _)⟩
section
variable {P : Program} {w : World} {K : PySem.W.Frag} {mg : Str → Option Value} {base : Heap}
theorem ok_lowest_terms (D : Df K mg "lowest_terms" s_lowest_terms ["top", "bottom"]) (B : Bi mg)  : Cal P w K mg base 1 "lowest_terms" sp_low := by
  obtain ⟨f, fd, F, m, b⟩ := D.ex
  have sc := sc_lowest_terms
  refine ⟨f, fd, _, F.ok sc (fun _ _ _ _ ⟨_, _, e, _⟩ => by rw [e]; rfl) (fun cdv A outer s H vs Q E hr h => ?_), m, F.kp, b⟩
  obtain ⟨x, y, rfl, h0, h1, q⟩ := h
  refine ⟨_, (pss_cons (ps_set (i := 2) sc.nd rfl (Or.inl rfl) (pe_callBfun cr_gcd (by rfl) B.gcd (pa_cons (pv 0) (pa_cons (pv 1) pa_nil))))
      (pss_one (ps_ret (pe_tup (pa_cons (pe_op op_fdivW (pv 0) (pv 2)) (pa_cons (pe_op op_fdivW (pv 1) (pv 2)) pa_nil)))))), ?_⟩
  have g := gcd_bit (a := x) h0
  have gb : ∀ i : Int, CDivW i ((Nat.gcd x.natAbs y.natAbs : Nat) : Int) := fun i => wide_div (b := 8001) g.1 (Nat.lt_of_le_of_lt g.2 h1) (by decide) (by decide)
  refine ⟨_, rfl, _, rfl, x, y, rfl, ?_⟩
  refine ⟨_, rfl, _, rfl, _, _, rfl, rfl, gb x, _, rfl, _, rfl, _, _, rfl, rfl, gb y, ?_⟩
  exact ⟨(by show (2 : Nat) ≤ sizeLine; decide), fun p hp => q _ _ (Same.upd_new hp) Fr.new⟩
end
end Ft

namespace Ft
open PySem L2
section
variable {P : Program} {w : World} {K : PySem.W.Frag} {mg : Str → Option Value} {base : Heap}
theorem mulS {i j : Int} (h1 : i.natAbs < 2 ^ 4000) (h2 : j.natAbs < 2 ^ 4000) : CMulW i j := wide_mul h1 h2 (by decide) (by decide) (by decide)
theorem ok_number_product (D : Df K mg "number_product" s_number_product ["one", "other"]) (c_lowest_terms : Cal P w K mg base 1 "lowest_terms" sp_low) : Cal P w K mg base 2 "number_product" (sp_num nprod) := by
  obtain ⟨f, fd, F, m, b⟩ := D.ex
  have sc := sc_number_product
  refine ⟨f, fd, _, F.ok sc (fun _ _ _ _ ⟨_, _, _, _, e, _⟩ => by rw [e]; rfl) (fun cdv A outer s H vs Q E hr h => ?_), m, F.kp, b⟩
  obtain ⟨u, v, x, y, rfl, hu, hv, sx, sy, q⟩ := h
  refine ⟨_, (pss_one (ps_ret (pe_c c_lowest_terms hr (by decide) (by rfl) (pa_cons (pe_op op_mulW (pe_ix ix_seq (pv 0) pe_int (fun _ _ => rfl)) (pe_ix ix_seq (pv 1) pe_int (fun _ _ => rfl))) (pa_cons (pe_op op_mulW (pe_ix ix_seq (pv 0) pe_int (fun _ _ => rfl)) (pe_ix ix_seq (pv 1) pe_int (fun _ _ => rfl))) pa_nil))))), ?_⟩
  refine ⟨_, rfl, fr0 hu ⟨_, rfl, fr0 hv ⟨_, _, rfl, rfl, mulS sx.1 sy.1, ?_⟩⟩⟩
  refine ⟨_, rfl, fr1 hu ⟨_, rfl, fr1 hv ⟨_, _, rfl, rfl, mulS sx.2.1 sy.2.1, ?_⟩⟩⟩
  exact ⟨_, _, rfl, Int.mul_pos sx.2.2 sy.2.2, Nat.lt_trans (wide_lt sx.2.1 sy.2.1) (Nat.pow_lt_pow_right (by decide) (by decide)), q⟩
theorem ok_number_sum (D : Df K mg "number_sum" s_number_sum ["one", "other"]) (c_lowest_terms : Cal P w K mg base 1 "lowest_terms" sp_low) : Cal P w K mg base 2 "number_sum" (sp_num nsum) := by
  obtain ⟨f, fd, F, m, b⟩ := D.ex
  have sc := sc_number_sum
  refine ⟨f, fd, _, F.ok sc (fun _ _ _ _ ⟨_, _, _, _, e, _⟩ => by rw [e]; rfl) (fun cdv A outer s H vs Q E hr h => ?_), m, F.kp, b⟩
  obtain ⟨u, v, x, y, rfl, hu, hv, sx, sy, q⟩ := h
  refine ⟨_, (pss_one (ps_ret (pe_c c_lowest_terms hr (by decide) (by rfl) (pa_cons (pe_op op_add (pe_op op_mulW (pe_ix ix_seq (pv 0) pe_int (fun _ _ => rfl)) (pe_ix ix_seq (pv 1) pe_int (fun _ _ => rfl))) (pe_op op_mulW (pe_ix ix_seq (pv 1) pe_int (fun _ _ => rfl)) (pe_ix ix_seq (pv 0) pe_int (fun _ _ => rfl)))) (pa_cons (pe_op op_mulW (pe_ix ix_seq (pv 0) pe_int (fun _ _ => rfl)) (pe_ix ix_seq (pv 1) pe_int (fun _ _ => rfl))) pa_nil))))), ?_⟩
  refine ⟨_, rfl, fr0 hu ⟨_, rfl, fr1 hv ⟨_, _, rfl, rfl, mulS sx.1 sy.2.1, ?_⟩⟩⟩
  refine ⟨_, rfl, fr0 hv ⟨_, rfl, fr1 hu ⟨_, _, rfl, rfl, mulS sy.1 sx.2.1, ?_⟩⟩⟩
  refine ⟨_, _, rfl, rfl, ?_⟩
  refine ⟨_, rfl, fr1 hu ⟨_, rfl, fr1 hv ⟨_, _, rfl, rfl, mulS sx.2.1 sy.2.1, ?_⟩⟩⟩
  exact ⟨_, _, rfl, Int.mul_pos sx.2.2 sy.2.2, Nat.lt_trans (wide_lt sx.2.1 sy.2.1) (Nat.pow_lt_pow_right (by decide) (by decide)), q⟩
end
end Ft

set_option exponentiation.threshold 9000
namespace Ft
open PySem L2
/-! ### powers -/
def sp_raised : Sp := fun vs H Q _ => ∃ b e : Nat, vs = [.int (b : Int), .int (e : Int)] ∧ 0 < b ∧ b ^ e < 2 ^ 4000 ∧ Q (.int ((b ^ e : Nat) : Int)) H
def sp_power : Sp := fun vs H Q _ => ∃ b e : Nat, vs = [.int (b : Int), .int (e : Int)] ∧ 0 < b ∧ e ≤ 4000 ∧ b ^ e < 2 ^ 4000 ∧ Q (.int ((b ^ e : Nat) : Int)) H
theorem sq_pow (s q : Nat) : (s * s) ^ q = s ^ (2 * q) := by rw [Nat.mul_pow, ← Nat.pow_add, Nat.two_mul]
theorem pow_even {s e : Nat} (h : e % 2 = 0) : (s * s) ^ (e / 2) = s ^ e := by
  rw [sq_pow]; congr 1; omega
theorem pow_odd {s e : Nat} (h : e % 2 = 1) : s * (s * s) ^ (e / 2) = s ^ e := by
  have e1 : e = 2 * (e / 2) + 1 := by omega
  rw [sq_pow, Nat.mul_comm]
  exact (Nat.pow_succ (n := s) (m := 2 * (e / 2))).symm.trans (congrArg (s ^ ·) e1.symm)
theorem natS {n : Nat} (h : n < 2 ^ 4000) : ((n : Int)).natAbs < 2 ^ 4000 := h
/-- the number of turns left, by slot 1 -/
theorem mul_le_of {r s M : Nat} (h : r * s = M) (hr : 0 < r) (hs : 0 < s) : r ≤ M ∧ s ≤ M := by
  subst h
  exact ⟨Nat.le_mul_of_pos_right _ hs, Nat.le_mul_of_pos_left _ hr⟩
section
variable {P : Program} {w : World} {K : PySem.W.Frag} {mg : Str → Option Value} {base : Heap}
theorem ok_raised (D : Df K mg "raised" s_raised ["base", "exponent"]) : Cal P w K mg base 1 "raised" sp_raised := by
  obtain ⟨f, fd, F, m, b⟩ := D.ex
  have sc := sc_raised
  refine ⟨f, fd, _, F.ok sc (fun _ _ _ _ ⟨_, _, e, _⟩ => by rw [e]; rfl) (fun cdv A outer s H vs Q E hr h => ?_), m, F.kp, b⟩
  obtain ⟨x, n, rfl, hx, hM, q⟩ := h
  refine ⟨_, (pss_cons (ps_set (i := 2) sc.nd rfl (Or.inl rfl) pe_int)
      (pss_cons (ps_set (i := 3) sc.nd rfl (Or.inl rfl) (pv 0))
      (pss_cons (ps_while PassesOwn.never (pt_cmpR op_gt (pv 1) pe_int (nomark _))
      (pss_cons (ps_if (pt_cmpR op_eq (pe_op op_mod (pv 1) pe_int) pe_int (nomark _))
        (pss_one (ps_set (i := 2) sc.nd rfl (Or.inl rfl) (pe_op op_mulW (pv 2) (pv 3))))
        pss_nil)
        (pss_cons (ps_set (i := 3) sc.nd rfl (Or.inl rfl) (pe_op op_mulW (pv 3) (pv 3)))
        (pss_one (ps_set (i := 1) sc.nd rfl (Or.inl rfl) (pe_op op_fdivW (pv 1) pe_int))))))
      (pss_one (ps_ret (pv 2)))))), ?_⟩
  generalize hMM : x ^ n = M at hM q
  refine ⟨_, rfl, ?_⟩
  refine while_go (fun σ H' => H = H' ∧ ∃ (e r s : Nat), σ = [some (.int (x : Nat)), some (.int (e : Nat)), some (.int (r : Nat)), some (.int (s : Nat))] ∧ 0 < r ∧ 0 < s ∧ r * s ^ e = M) (fun σ _ => m0 1 σ)
    ⟨rfl, n, 1, x, rfl, by decide, hx, by rw [Nat.one_mul]; exact hMM⟩ ?_
  rintro σ _ ⟨rfl, e, r, t, rfl, r0, t0, hm⟩
  have hp : 0 < t ^ e := Nat.pow_pos t0
  have lr := mul_le_of hm r0 hp
  have rS : ((r : Int)).natAbs < 2 ^ 4000 := Nat.lt_of_le_of_lt lr.1 hM
  refine ⟨_, rfl, _, _, rfl, rfl, _, rfl, ifD (fun h => ?_) fun h => ?_⟩
  · have e0 : e ≠ 0 := by omega
    have tS : ((t : Int)).natAbs < 2 ^ 4000 := Nat.lt_of_le_of_lt (Nat.le_trans (Nat.le_self_pow e0 t) lr.2) hM
    refine ⟨fun σ' H' => H = H' ∧ ∃ (e' r s : Nat), σ' = [some (.int (x : Nat)), some (.int (e' : Nat)), some (.int (r : Nat)), some (.int (s : Nat))] ∧ 0 < r ∧ 0 < s ∧ r * s ^ e' = M ∧ e' < e, ?_, ?_⟩
    · rintro σ' _ ⟨rfl, e', r', s', rfl, h1, h2, h3, h4⟩
      exact ⟨_, (by show ((e' : Int)).toNat < ((e : Int)).toNat; omega), rfl, rfl, e', r', s', rfl, h1, h2, h3⟩
    refine ⟨_, rfl, _, _, rfl, rfl, (by show (0 : Int) < 2; decide), rfl, _, rfl, ifI (fun k => ?_) fun k => ?_⟩
    · have k' : e % 2 = 1 := by omega
      refine ⟨_, rfl, _, rfl, _, _, rfl, rfl, mulS rS tS, ?_⟩
      refine ⟨_, rfl, _, rfl, _, _, rfl, rfl, mulS tS tS, ?_⟩
      refine ⟨_, rfl, _, _, rfl, rfl, ⟨by decide, by decide⟩, ?_⟩
      refine ⟨rfl, e / 2, r * t, t * t, rfl, Nat.mul_pos r0 t0, Nat.mul_pos t0 t0, ?_, by omega⟩
      rw [Nat.mul_assoc, pow_odd k']
      exact hm
    · have k' : e % 2 = 0 := by omega
      refine ⟨_, rfl, _, rfl, _, _, rfl, rfl, mulS tS tS, ?_⟩
      refine ⟨_, rfl, _, _, rfl, rfl, ⟨by decide, by decide⟩, ?_⟩
      refine ⟨rfl, e / 2, r, t * t, rfl, r0, Nat.mul_pos t0 t0, ?_, by omega⟩
      rw [pow_even k']
      exact hm
  · have e0 : e = 0 := by omega
    subst e0
    rw [Nat.pow_zero, Nat.mul_one] at hm
    subst hm
    exact ⟨_, rfl, q⟩
end
/-- the sum of the powers, by the values of a sign -/
def psumTo (s : Int) (e : Nat) : Nat → Int
  | 0 => 0
  | n + 1 => psumTo s e n + valueAt s (1 + (n : Int)) * (((1 + n) ^ e : Nat) : Int)
def psum (s : Int) (e : Nat) : Int := psumTo s e s.natAbs
theorem mul_one {a b : Int} (h1 : a.natAbs ≤ 1) (h2 : b.natAbs ≤ 1) : (a * b).natAbs ≤ 1 := by
  rw [Int.natAbs_mul]
  exact Nat.mul_le_mul h1 h2
theorem twos_one {z : Int} (hz : z.natAbs ≤ 1) : ∀ (f r : Nat) (v : Int), v.natAbs ≤ 1 → (twos z f r v).2.natAbs ≤ 1
  | 0, r, v, h => h
  | f + 1, r, v, h => by
    by_cases e : r % 2 = 0
    · rw [twos_go e]
      exact twos_one hz f (r / 2) (v * z) (mul_one h hz)
    · rw [twos_stop e]
      exact h
theorem valueAt_one (s n : Int) : (valueAt s n).natAbs ≤ 1 := by
  unfold valueAt valueRest
  split
  · split <;> decide
  · refine mul_one (twos_one ?_ _ _ _ (by decide)) ?_
    · have := valueTwo_le s
      omega
    · unfold valueOdd sg
      dsimp only
      split
      · split <;> decide
      · decide
section
variable {P : Program} {w : World} {K : PySem.W.Frag} {mg : Str → Option Value} {base : Heap}
def sp_psum : Sp := fun vs H Q _ => ∃ (s : Int) (e : Nat), vs = [.int s, .int (e : Int)] ∧ s ≠ 0 ∧ s.natAbs ≤ 400 ∧ e ≤ 24 ∧ Q (.int (psum s e)) H
theorem pow_400 {a e : Nat} (ha : a ≤ 400) (he : e ≤ 24) : a ^ e < 2 ^ 4000 :=
  Nat.lt_of_le_of_lt (Nat.le_trans (Nat.pow_le_pow_left ha e) (Nat.pow_le_pow_right (by decide) he)) (Nat.lt_of_lt_of_le (show 400 ^ 24 < 2 ^ 256 by decide) (Nat.pow_le_pow_right (by decide) (by decide)))
theorem ok_power_sum (D : Df K mg "power_sum" s_power_sum ["sign", "e"]) (B : Bi mg) (c_value_at : Cal P w K mg base 2 "value_at" sp_value_at) (c_raised : Cal P w K mg base 1 "raised" sp_raised) : Cal P w K mg base 3 "power_sum" sp_psum := by
  obtain ⟨f, fd, F, m, b⟩ := D.ex
  have sc := sc_power_sum
  refine ⟨f, fd, _, F.ok sc (fun _ _ _ _ ⟨_, _, e, _⟩ => by rw [e]; rfl) (fun cdv A outer s H vs Q E hr h => ?_), m, F.kp, b⟩
  obtain ⟨z, e, rfl, z0, hz, he, q⟩ := h
  refine ⟨_, (pss_cons (ps_set (i := 2) sc.nd rfl (Or.inl rfl) pe_int)
      (pss_cons (ps_for PassesOwn.never rfl (pi_range2 (by rfl) B.range (pa_cons pe_int (pa_cons (pe_op op_add (pe_callB call_abs (by rfl) B.abs (by decide +kernel) (pa_cons (pv 0) pa_nil)) pe_int) pa_nil))) (pg_name (i := 3) sc.nd rfl (Or.inl rfl))
      (pss_one (ps_aug (i := 2) sc.nd rfl (Or.inl rfl) (pe_op op_mulW (pe_c c_value_at hr (by decide) (by rfl) (pa_cons (pv 0) (pa_cons (pv 3) pa_nil))) (pe_c c_raised hr (by decide) (by rfl) (pa_cons (pv 3) (pa_cons (pv 1) pa_nil)))) ip_add)))
      (pss_one (ps_ret (pv 2))))), ?_⟩
  have ea : (if z < 0 then -z else z) = (z.natAbs : Int) := by split <;> omega
  refine ⟨_, rfl, z, rfl, _, _, rfl, rfl, 1, _, rfl, (by rw [ea]; omega), ?_⟩
  rw [ea]
  refine for_range (lo := 1) (n := ((z.natAbs : Int) + 1 - 1).toNat) (fun i σ H' => H = H' ∧ ∃ o : Option V, σ = [some (.int z), some (.int (e : Nat)), some (.int (psumTo z e i)), o]) ⟨rfl, none, rfl⟩ ?_ ?_
  · rintro i σ _ hi ⟨rfl, o, rfl⟩
    have hin : i < z.natAbs := by omega
    have hp : (1 + i) ^ e < 2 ^ 4000 := pow_400 (by omega) he
    refine ⟨_, rfl, _, rfl, _, rfl, z, _, rfl, z0, ?_⟩
    refine ⟨_, rfl, _, rfl, 1 + i, e, ?_, by omega, hp, ?_⟩
    · show [V.int ((1 : Int) + (i : Int)), V.int (e : Int)] = _
      rw [Int.natCast_add]; rfl
    refine ⟨_, _, rfl, rfl, wide_mul (a := 4000) (b := 4000) (Nat.lt_of_le_of_lt (valueAt_one z _) (Nat.one_lt_two_pow (by decide))) hp (by decide) (by decide) (by decide), ?_⟩
    exact ⟨_, _, rfl, rfl, rfl, some (V.int (1 + (i : Int))), rfl⟩
  · rintro σ _ ⟨rfl, o, rfl⟩
    have e1 : ((z.natAbs : Int) + 1 - 1).toNat = z.natAbs := by omega
    rw [e1]
    exact ⟨_, rfl, q⟩
end
end Ft

set_option exponentiation.threshold 9000
namespace Ft
open PySem L2
/-- the divisors, as the program lists them -/
def dvs (n : Nat) : List Nat := divP n (Float64.isqrt n)
theorem isqrt_316 {n : Nat} (h : n ≤ 100000) : Float64.isqrt n ≤ 316 := by
  have s := (Float64.isqrt_spec n).1
  rcases Nat.lt_or_ge 316 (Float64.isqrt n) with z | z
  · have := Nat.mul_le_mul (show 317 ≤ Float64.isqrt n from z) (show 317 ≤ Float64.isqrt n from z)
    omega
  · exact z
theorem lowL_mem {n r d : Nat} (h : d ∈ lowL n r) : 1 ≤ d ∧ d ≤ r ∧ n % d = 0 := by
  unfold lowL at h
  obtain ⟨j, hj, rfl⟩ := List.mem_map.mp h
  have h1 := List.mem_range.mp (List.mem_filter.mp hj).1
  have h2 := of_decide_eq_true (List.mem_filter.mp hj).2
  exact ⟨by omega, by omega, h2⟩
theorem lowL_len (n r : Nat) : (lowL n r).length ≤ r := by unfold lowL; rw [List.length_map]; exact filter_len _ _
theorem dvs_mem {n d : Nat} (n1 : 1 ≤ n) (h : d ∈ dvs n) : 1 ≤ d ∧ d ≤ n := by
  have r1 := isqrt_le n
  unfold dvs divP at h
  rcases List.mem_append.mp h with h | h
  · have := lowL_mem h
    omega
  · obtain ⟨e, he, rfl⟩ := List.mem_map.mp h
    have m := lowL_mem (List.mem_reverse.mp (List.mem_filter.mp he).1)
    have dv := Nat.dvd_of_mod_eq_zero m.2.2
    exact ⟨Nat.div_pos (Nat.le_of_dvd (by omega) dv) (by omega), Nat.div_le_self _ _⟩
theorem dvs_len {n : Nat} (h : n ≤ 100000) : (dvs n).length ≤ 632 := by
  have r1 := isqrt_316 h
  have l1 := lowL_len n (Float64.isqrt n)
  unfold dvs divP
  rw [List.length_append, List.length_map]
  have := List.length_filter_le (fun d => decide (d * d ≠ n)) (lowL n (Float64.isqrt n)).reverse
  rw [List.length_reverse] at this
  omega
def dsT (k : Nat) (D E : Int) (n d : Nat) : Int := valueAt D ((n / d : Nat) : Int) * valueAt E (d : Int) * ((d ^ k : Nat) : Int)
def dsF (k : Nat) (D E : Int) (n : Nat) : Int := ((dvs n).map (dsT k D E n)).sum
theorem one_mul_le {a b : Int} {c : Nat} (h1 : a.natAbs ≤ 1) (h2 : b.natAbs ≤ c) : (a * b).natAbs ≤ c := by
  rw [Int.natAbs_mul]
  have := Nat.mul_le_mul h1 h2
  omega
theorem val_le (s n : Int) : (valueAt s n).natAbs ≤ 1 := valueAt_one s n
theorem pow_100k {d k : Nat} (hd : d ≤ 100000) (hk : k ≤ 24) : d ^ k ≤ 2 ^ 408 := Nat.le_trans (Nat.pow_le_pow_left (by omega : d ≤ 2 ^ 17) k) (Nat.le_trans (Nat.pow_le_pow_right (by decide) hk) (by decide))
theorem dsT_le {k : Nat} {D E : Int} {n d : Nat} (hd : d ≤ 100000) (hk : k ≤ 24) : (dsT k D E n d).natAbs ≤ 2 ^ 408 := by
  unfold dsT
  refine one_mul_le ?_ (by rw [Int.natAbs_natCast]; exact pow_100k hd hk)
  exact one_mul_le (val_le _ _) (val_le _ _)
theorem sum_le {l : List Int} {B : Nat} (h : ∀ x ∈ l, x.natAbs ≤ B) : l.sum.natAbs ≤ l.length * B := by
  induction l with
  | nil => simp
  | cons x l ih =>
    rw [List.sum_cons, List.length_cons, Nat.add_mul]
    have h1 := h x List.mem_cons_self
    have h2 := ih fun y hy => h y (List.mem_cons_of_mem _ hy)
    have := Int.natAbs_add_le x l.sum
    omega
theorem dsF_le {k : Nat} {D E : Int} {n : Nat} (n1 : 1 ≤ n) (hn : n ≤ 100000) (hk : k ≤ 24) : (dsF k D E n).natAbs < 2 ^ 500 := by
  have h := sum_le (l := (dvs n).map (dsT k D E n)) (B := 2 ^ 408) fun x hx => by
    obtain ⟨d, hd, rfl⟩ := List.mem_map.mp hx
    have := dvs_mem n1 hd
    exact dsT_le (by omega) hk
  rw [List.length_map] at h
  exact Nat.lt_of_le_of_lt (Nat.le_trans h (Nat.mul_le_mul_right _ (dvs_len hn))) (by decide)
end Ft

set_option exponentiation.threshold 9000
namespace Ft
/-! ### the divisors are all divisors, ascending -/
theorem lowL_iff {n r d : Nat} : d ∈ lowL n r ↔ 1 ≤ d ∧ d ≤ r ∧ n % d = 0 := by
  refine ⟨lowL_mem, fun ⟨h1, h2, h3⟩ => ?_⟩
  unfold lowL
  refine List.mem_map.mpr ⟨d - 1, List.mem_filter.mpr ⟨List.mem_range.mpr (by omega), ?_⟩, by omega⟩
  rw [show d - 1 + 1 = d by omega]
  exact decide_eq_true h3
theorem lowL_asc (n r : Nat) : (lowL n r).Pairwise (· < ·) := by
  unfold lowL
  rw [List.pairwise_map]
  exact (List.Pairwise.filter _ List.pairwise_lt_range).imp fun h => by omega
theorem div_part {n d : Nat} (n1 : 1 ≤ n) (h : n % d = 0) (d1 : 1 ≤ d) : d * (n / d) = n ∧ 1 ≤ n / d ∧ n % (n / d) = 0 := by
  have e : d * (n / d) = n := Nat.mul_div_cancel' (Nat.dvd_of_mod_eq_zero h)
  refine ⟨e, Nat.div_pos (Nat.le_of_dvd (by omega) (Nat.dvd_of_mod_eq_zero h)) (by omega), ?_⟩
  exact Nat.mod_eq_zero_of_dvd ⟨d, by rw [Nat.mul_comm, e]⟩
theorem div_back {n d : Nat} (n1 : 1 ≤ n) (h : n % d = 0) (d1 : 1 ≤ d) : n / (n / d) = d := by
  obtain ⟨e, p, _⟩ := div_part n1 h d1
  exact Nat.div_eq_of_eq_mul_left (by omega) e.symm
theorem dvs_iff {n : Nat} (n1 : 1 ≤ n) (d : Nat) : d ∈ dvs n ↔ 1 ≤ d ∧ n % d = 0 := by
  have sp := PySem.Float64.isqrt_spec n
  unfold dvs divP
  generalize PySem.Float64.isqrt n = r at sp
  rw [List.mem_append, lowL_iff]
  constructor
  · rintro (h | h)
    · exact ⟨h.1, h.2.2⟩
    · obtain ⟨e, he, rfl⟩ := List.mem_map.mp h
      obtain ⟨a, b, c⟩ := lowL_iff.mp (List.mem_reverse.mp (List.mem_filter.mp he).1)
      exact (div_part n1 c a).2
  · rintro ⟨h1, h2⟩
    by_cases k : d ≤ r
    · exact .inl ⟨h1, k, h2⟩
    · obtain ⟨e, p, m⟩ := div_part n1 h2 h1
      have er : n / d ≤ r := by
        rcases Nat.lt_or_ge r (n / d) with z | z
        · have := Nat.mul_le_mul (show r + 1 ≤ d by omega) (show r + 1 ≤ n / d by omega)
          have := sp.2
          omega
        · exact z
      refine .inr (List.mem_map.mpr ⟨n / d, List.mem_filter.mpr ⟨List.mem_reverse.mpr (lowL_iff.mpr ⟨p, er, m⟩), decide_eq_true fun z => ?_⟩, div_back n1 h2 h1⟩)
      have := Nat.mul_lt_mul_of_pos_right (show n / d < d by omega) (show 0 < n / d by omega)
      omega
theorem div_lt {n a b : Nat} (n1 : 1 ≤ n) (ha : n % a = 0) (hb : n % b = 0) (a1 : 1 ≤ a) (h : a < b) : n / b < n / a := by
  obtain ⟨ea, pa, _⟩ := div_part n1 ha a1
  obtain ⟨eb, pb, _⟩ := div_part n1 hb (by omega)
  rcases Nat.lt_or_ge (n / b) (n / a) with z | z
  · exact z
  · have := Nat.mul_lt_mul_of_lt_of_le h z (by omega)
    omega
theorem dvs_asc {n : Nat} (n1 : 1 ≤ n) : (dvs n).Pairwise (· < ·) := by
  have sp := PySem.Float64.isqrt_spec n
  unfold dvs divP
  generalize PySem.Float64.isqrt n = r at sp
  rw [List.pairwise_append]
  refine ⟨lowL_asc n r, ?_, ?_⟩
  · rw [List.pairwise_map]
    refine List.Pairwise.imp_of_mem (R := fun a b => b < a) (fun {a b} ha hb h => ?_) (List.Pairwise.filter _ (List.pairwise_reverse.mpr (lowL_asc n r)))
    have ma := lowL_iff.mp (List.mem_reverse.mp (List.mem_filter.mp ha).1)
    have mb := lowL_iff.mp (List.mem_reverse.mp (List.mem_filter.mp hb).1)
    exact div_lt n1 mb.2.2 ma.2.2 mb.1 h
  · intro d hd y hy
    obtain ⟨e, he, rfl⟩ := List.mem_map.mp hy
    have hn := of_decide_eq_true (List.mem_filter.mp he).2
    obtain ⟨a, b, c⟩ := lowL_iff.mp (List.mem_reverse.mp (List.mem_filter.mp he).1)
    have hd := lowL_iff.mp hd
    obtain ⟨ee, pe, _⟩ := div_part n1 c a
    rcases Nat.lt_or_ge r (n / e) with z | z
    · omega
    · exfalso
      have h1 := Nat.mul_le_mul (show e ≤ r from b) z
      have h0 := sp.1
      have : e * (n / e) = r * r := by omega
      have er : e = r := by
        rcases Nat.lt_or_ge e r with y | y
        · have := Nat.mul_lt_mul_of_lt_of_le y z (by omega)
          omega
        · omega
      have qr : n / e = r := by
        rcases Nat.lt_or_ge (n / e) r with y | y
        · have := Nat.mul_lt_mul_of_le_of_lt b y (by omega)
          omega
        · omega
      rw [qr] at ee
      rw [← er] at ee
      exact hn ee
theorem asc_nodup {l : List Nat} (h : l.Pairwise (· < ·)) : l.Nodup := h.imp fun h => by omega
theorem perm_of {l1 l2 : List Nat} (h1 : l1.Nodup) (h2 : l2.Nodup) (h : ∀ a, a ∈ l1 ↔ a ∈ l2) : l1.Perm l2 := by
  rw [List.perm_iff_count]
  intro a
  rw [h1.count, h2.count]
  by_cases k : a ∈ l1
  · rw [if_pos k, if_pos ((h a).mp k)]
  · rw [if_neg k, if_neg fun z => k ((h a).mpr z)]
theorem dvs_perm {n : Nat} (n1 : 1 ≤ n) {l : List Nat} (h : l.Nodup) (m : ∀ d, d ∈ l ↔ 1 ≤ d ∧ n % d = 0) : (dvs n).Perm l := perm_of (asc_nodup (dvs_asc n1)) h fun a => (dvs_iff n1 a).trans (m a).symm
theorem perm_sum {l1 l2 : List Int} (h : l1.Perm l2) : l1.sum = l2.sum := by
  induction h with
  | nil => rfl
  | cons x _ ih => rw [List.sum_cons, List.sum_cons, ih]
  | swap x y l => simp only [List.sum_cons]; omega
  | trans _ _ a b => exact a.trans b
/-! ### products -/
def prods (m n : Nat) : List Nat := (dvs m).flatMap fun d => (dvs n).map fun e => d * e
theorem gcd_left {m n d e : Nat} (c : Nat.gcd m n = 1) (hd : d ∣ m) (he : e ∣ n) : Nat.gcd (d * e) m = d := by
  have c1 : Nat.Coprime e m := Nat.Coprime.coprime_dvd_left he (Nat.Coprime.symm c)
  rw [Nat.Coprime.gcd_mul_right_cancel d c1]
  exact Nat.gcd_eq_left hd
theorem gcd_right {m n d e : Nat} (c : Nat.gcd m n = 1) (hd : d ∣ m) (he : e ∣ n) : Nat.gcd (d * e) n = e := by
  rw [Nat.mul_comm]
  exact gcd_left (by rw [Nat.gcd_comm]; exact c) he hd
theorem prods_perm {m n : Nat} (m1 : 1 ≤ m) (n1 : 1 ≤ n) (c : Nat.gcd m n = 1) : (dvs (m * n)).Perm (prods m n) := by
  have mn1 : 1 ≤ m * n := Nat.mul_pos m1 n1
  have dm : ∀ d ∈ dvs m, d ∣ m := fun d h => Nat.dvd_of_mod_eq_zero ((dvs_iff m1 d).mp h).2
  have dn : ∀ d ∈ dvs n, d ∣ n := fun d h => Nat.dvd_of_mod_eq_zero ((dvs_iff n1 d).mp h).2
  refine dvs_perm mn1 ?_ fun x => ?_
  · unfold prods List.Nodup
    rw [List.pairwise_flatMap]
    refine ⟨fun d hd => ?_, ?_⟩
    · rw [List.pairwise_map]
      refine List.Pairwise.imp_of_mem (fun {a b} ha hb h z => h ?_) (asc_nodup (dvs_asc n1))
      rw [← gcd_right c (dm d hd) (dn a ha), z, gcd_right c (dm d hd) (dn b hb)]
    · refine List.Pairwise.imp_of_mem (fun {a b} ha hb h x hx y hy z => h ?_) (asc_nodup (dvs_asc m1))
      obtain ⟨e, he, rfl⟩ := List.mem_map.mp hx
      obtain ⟨f, hf, rfl⟩ := List.mem_map.mp hy
      rw [← gcd_left c (dm a ha) (dn e he), z, gcd_left c (dm b hb) (dn f hf)]
  · unfold prods
    rw [List.mem_flatMap]
    constructor
    · rintro ⟨d, hd, hx⟩
      obtain ⟨e, he, rfl⟩ := List.mem_map.mp hx
      have h1 := (dvs_iff m1 d).mp hd
      have h2 := (dvs_iff n1 e).mp he
      exact ⟨Nat.mul_pos h1.1 h2.1, Nat.mod_eq_zero_of_dvd (Nat.mul_dvd_mul (dm d hd) (dn e he))⟩
    · rintro ⟨h1, h2⟩
      have hx : x ∣ m * n := Nat.dvd_of_mod_eq_zero h2
      have e := Nat.Coprime.gcd_mul x (show Nat.Coprime m n from c)
      rw [Nat.gcd_eq_left hx] at e
      refine ⟨Nat.gcd x m, (dvs_iff m1 _).mpr ⟨Nat.gcd_pos_of_pos_left _ h1, Nat.mod_eq_zero_of_dvd (Nat.gcd_dvd_right _ _)⟩, List.mem_map.mpr ⟨Nat.gcd x n, (dvs_iff n1 _).mpr ⟨Nat.gcd_pos_of_pos_left _ h1, Nat.mod_eq_zero_of_dvd (Nat.gcd_dvd_right _ _)⟩, e.symm⟩⟩
/-! ### the sums -/
/-- what the sums want of a sign -/
structure Sm (s : Int) : Prop where
  mul : ∀ a b : Nat, valueAt s ((a * b : Nat) : Int) = valueAt s (a : Int) * valueAt s (b : Int)
  one : valueAt s ((1 : Nat) : Int) = 1
theorem sum_mul_left (c : Int) (l : List Nat) (f : Nat → Int) : (l.map fun x => c * f x).sum = c * (l.map f).sum := by
  induction l with
  | nil => simp
  | cons x l ih => simp only [List.map_cons, List.sum_cons, ih, Int.mul_add]
theorem sum_prods (f g : Nat → Int) (h : Nat → Int) (l1 l2 : List Nat) (e : ∀ a ∈ l1, ∀ b ∈ l2, h (a * b) = f a * g b) : ((l1.flatMap fun d => l2.map fun e => d * e).map h).sum = (l1.map f).sum * (l2.map g).sum := by
  induction l1 with
  | nil => simp
  | cons x l ih =>
    rw [List.flatMap_cons, List.map_append, List.sum_append, ih (fun a ha => e a (List.mem_cons_of_mem _ ha)), List.map_cons, List.sum_cons, Int.add_mul, List.map_map]
    congr 1
    rw [← sum_mul_left]
    congr 1
    exact List.map_congr_left fun b hb => e x List.mem_cons_self b hb
theorem mul4 (a b c d e f : Int) : a * b * (c * d) * (e * f) = a * c * e * (b * d * f) := by grind
theorem dsT_mul {k : Nat} {D E : Int} (hD : Sm D) (hE : Sm E) {m n d e : Nat} (hd : d ∣ m) (he : e ∣ n) : dsT k D E (m * n) (d * e) = dsT k D E m d * dsT k D E n e := by
  unfold dsT
  rw [Nat.mul_div_mul_comm hd he, hD.mul, hE.mul, Nat.mul_pow, Int.natCast_mul]
  exact mul4 _ _ _ _ _ _
theorem dsF_mul {k : Nat} {D E : Int} (hD : Sm D) (hE : Sm E) {m n : Nat} (m1 : 1 ≤ m) (n1 : 1 ≤ n) (c : Nat.gcd m n = 1) : dsF k D E (m * n) = dsF k D E m * dsF k D E n := by
  unfold dsF
  rw [perm_sum ((prods_perm m1 n1 c).map _)]
  exact sum_prods _ _ _ _ _ fun a ha b hb => dsT_mul hD hE (Nat.dvd_of_mod_eq_zero ((dvs_iff m1 a).mp ha).2) (Nat.dvd_of_mod_eq_zero ((dvs_iff n1 b).mp hb).2)
/-! ### two signs exchanged -/
theorem dsF_swap {D E : Int} {n : Nat} (n1 : 1 ≤ n) : dsF 0 D E n = dsF 0 E D n := by
  have dv := fun d (h : d ∈ dvs n) => (dvs_iff n1 d).mp h
  have p : (dvs n).Perm ((dvs n).map fun d => n / d) := by
    refine dvs_perm n1 ?_ fun x => ?_
    · unfold List.Nodup
      rw [List.pairwise_map]
      refine List.Pairwise.imp_of_mem (fun {a b} ha hb h z => h ?_) (asc_nodup (dvs_asc n1))
      rw [← div_back n1 (dv a ha).2 (dv a ha).1, z, div_back n1 (dv b hb).2 (dv b hb).1]
    · rw [List.mem_map]
      constructor
      · rintro ⟨d, hd, rfl⟩
        exact (div_part n1 (dv d hd).2 (dv d hd).1).2
      · rintro ⟨h1, h2⟩
        exact ⟨n / x, (dvs_iff n1 _).mpr (div_part n1 h2 h1).2, div_back n1 h2 h1⟩
  unfold dsF
  rw [perm_sum (p.map (dsT 0 D E n)), List.map_map]
  congr 1
  refine List.map_congr_left fun d hd => ?_
  show dsT 0 D E n (n / d) = dsT 0 E D n d
  unfold dsT
  rw [div_back n1 (dv d hd).2 (dv d hd).1, Nat.pow_zero, Nat.pow_zero, Int.mul_comm (valueAt D _)]
theorem dsF_ones {n : Nat} (h1 : ∀ x : Nat, valueAt 1 (x : Int) = 1) : dsF 0 1 1 n = ((dvs n).length : Int) := by
  unfold dsF
  have : ∀ l : List Nat, (l.map (dsT 0 1 1 n)).sum = (l.length : Int) := fun l => by
    induction l with
    | nil => rfl
    | cons x l ih =>
      rw [List.map_cons, List.sum_cons, ih, List.length_cons]
      unfold dsT
      rw [h1, h1, Nat.pow_zero]
      simp
      omega
  exact this _
/-! ### prime powers -/
def Pri (p : Nat) : Prop := 2 ≤ p ∧ ∀ d, d ∣ p → d = 1 ∨ d = p
theorem Pri.cop {p n : Nat} (h : Pri p) (k : ¬ n % p = 0) : Nat.gcd p n = 1 := by
  rcases h.2 _ (Nat.gcd_dvd_left p n) with e | e
  · exact e
  · exact absurd (Nat.mod_eq_zero_of_dvd (by rw [← e]; exact Nat.gcd_dvd_right p n)) k
theorem Pri.pow {p : Nat} (h : Pri p) : ∀ e d, d ∣ p ^ e → ∃ i, i ≤ e ∧ d = p ^ i
  | 0, d, hd => ⟨0, Nat.le_refl _, by rw [Nat.pow_zero] at hd ⊢; exact Nat.dvd_one.mp hd⟩
  | e + 1, d, hd => by
    by_cases k : d % p = 0
    · obtain ⟨c, rfl⟩ := Nat.dvd_of_mod_eq_zero k
      rw [Nat.pow_succ, Nat.mul_comm (p ^ e)] at hd
      obtain ⟨i, hi, rfl⟩ := h.pow e c (Nat.dvd_of_mul_dvd_mul_left (by have := h.1; omega) hd)
      exact ⟨i + 1, by omega, by rw [Nat.pow_succ, Nat.mul_comm]⟩
    · rw [Nat.pow_succ] at hd
      have c : Nat.Coprime d p := Nat.Coprime.symm (h.cop k)
      obtain ⟨i, hi, rfl⟩ := h.pow e d (Nat.Coprime.dvd_of_dvd_mul_right c hd)
      exact ⟨i, by omega, rfl⟩
def geo (a b : Int) (e : Nat) : Int := ((List.range (e + 1)).map fun i => a ^ (e - i) * b ^ i).sum
theorem geo_0 (a b : Int) : geo a b 0 = 1 := by unfold geo; simp
theorem geo_succ (a b : Int) (e : Nat) : geo a b (e + 1) = a * geo a b e + b ^ (e + 1) := by
  unfold geo
  rw [List.range_succ, List.map_append, List.sum_append, ← sum_mul_left]
  congr 1
  · congr 1
    refine List.map_congr_left fun i hi => ?_
    have := List.mem_range.mp hi
    rw [show e + 1 - i = (e - i) + 1 by omega, Int.pow_succ]
    grind
  · simp
theorem geo_1 (a b : Int) : geo a b 1 = a + b := by rw [geo_succ, geo_0]; grind
theorem geo_two (a b : Int) (e : Nat) : geo a b (e + 2) = (a + b) * geo a b (e + 1) - a * b * geo a b e := by
  rw [geo_succ a b (e + 1), geo_succ a b e, Int.pow_succ b (e + 1)]
  grind
theorem val_pow {s : Int} (h : Sm s) (p : Nat) : ∀ e, valueAt s ((p ^ e : Nat) : Int) = valueAt s (p : Int) ^ e
  | 0 => by rw [Nat.pow_zero, h.one, Int.pow_zero]
  | e + 1 => by rw [Nat.pow_succ, h.mul, val_pow h p e, Int.pow_succ]
theorem dsF_pow {k : Nat} {D E : Int} (hD : Sm D) (hE : Sm E) {p : Nat} (hp : Pri p) (e : Nat) : dsF k D E (p ^ e) = geo (valueAt D (p : Int)) (valueAt E (p : Int) * ((p ^ k : Nat) : Int)) e := by
  have p0 : 0 < p := by have := hp.1; omega
  have pe1 : 1 ≤ p ^ e := Nat.pow_pos p0
  have pm : (dvs (p ^ e)).Perm ((List.range (e + 1)).map fun i => p ^ i) := by
    refine dvs_perm pe1 ?_ fun x => ?_
    · unfold List.Nodup
      rw [List.pairwise_map]
      refine List.Pairwise.imp (fun {a b} h z => ?_) List.pairwise_lt_range
      have := Nat.pow_lt_pow_right (show 1 < p by have := hp.1; omega) h
      omega
    · rw [List.mem_map]
      constructor
      · rintro ⟨i, hi, rfl⟩
        have := List.mem_range.mp hi
        exact ⟨Nat.pow_pos p0, Nat.mod_eq_zero_of_dvd (Nat.pow_dvd_pow p (by omega))⟩
      · rintro ⟨h1, h2⟩
        obtain ⟨i, hi, rfl⟩ := hp.pow e x (Nat.dvd_of_mod_eq_zero h2)
        exact ⟨i, List.mem_range.mpr (by omega), rfl⟩
  unfold dsF geo
  rw [perm_sum (pm.map _), List.map_map]
  congr 1
  refine List.map_congr_left fun i hi => ?_
  have hi : i < e + 1 := List.mem_range.mp hi
  show dsT k D E (p ^ e) (p ^ i) = _
  unfold dsT
  rw [Nat.pow_div (by omega) p0, val_pow hD, val_pow hE, Int.mul_pow, ← Nat.pow_mul, Nat.mul_comm i k, Nat.pow_mul, Int.natCast_pow (p ^ k) i, Int.mul_assoc]
theorem dsF_one {k : Nat} {D E : Int} (hD : Sm D) (hE : Sm E) : dsF k D E 1 = 1 := by
  unfold dsF
  rw [show dvs 1 = [1] by decide +kernel, List.map_cons, List.map_nil, List.sum_cons]
  unfold dsT
  rw [show 1 / 1 = 1 from rfl, hD.one, hE.one, Nat.one_pow]
  rfl
/-! ### joined signs -/
theorem dsF_join {k : Nat} {D E J1 J2 t : Int} {n : Nat} (n1 : 1 ≤ n) (ht : Sm t) (h1 : ∀ d, d ∣ n → valueAt J1 (d : Int) = valueAt D (d : Int) * valueAt t (d : Int)) (h2 : ∀ d, d ∣ n → valueAt J2 (d : Int) = valueAt E (d : Int) * valueAt t (d : Int)) : dsF k J1 J2 n = dsF k D E n * valueAt t (n : Int) := by
  unfold dsF
  rw [Int.mul_comm, ← sum_mul_left]
  congr 1
  refine List.map_congr_left fun d hd => ?_
  obtain ⟨d1, dm⟩ := (dvs_iff n1 d).mp hd
  obtain ⟨e, _, m2⟩ := div_part n1 dm d1
  unfold dsT
  rw [h1 _ (Nat.dvd_of_mod_eq_zero m2), h2 _ (Nat.dvd_of_mod_eq_zero dm)]
  rw [show valueAt t (n : Int) = valueAt t (d : Int) * valueAt t ((n / d : Nat) : Int) by rw [← ht.mul, e]]
  grind
end Ft

namespace Ft
open PySem L2
/-- reading an item of a list, for an augmented store -/
def rGetL : V → V → Hp → VK → Prop := fun o i H Q => ∃ (p : Addr) (xs : List V) (k : Nat) (x : V), o = .ref p ∧ i = .int (k : Int) ∧ H p = some (.lst xs) ∧ xs[k]? = some x ∧ xs.length < 2 ^ 62 ∧ Q x H
theorem get_lst {X : Cx} : PGet X rGetL := by
  intro pins s σ H o i ov iv Q I ro ri h
  obtain ⟨p, xs, k, x, rfl, rfl, hp, hx, hl, q⟩ := h
  obtain rfl : ov = Value.ref p := ro
  obtain ⟨t, rfl⟩ : ∃ t, iv = Value.int (k : Int) t := ri
  have hk := I.hok _ _ hp
  simp only [ObjOk] at hk
  obtain ⟨_, its, n, rv, ho⟩ := hk
  obtain ⟨u, hu, ru⟩ := Vals.get rv hx
  have hkl : k < xs.length := (List.getElem?_eq_some_iff.mp hx).1
  refine PySem.wpAny_getItem_list (items := its.toArray) (k := (k : Int)) (x := u) ⟨_, ho, rfl, n, rfl⟩ (by omega) (by omega) ?_ ⟨x, H, I, ru, q⟩
  rw [Int.toNat_natCast, List.getElem?_toArray]
  exact hu
theorem rgC {d M : Nat} (hd : 1 ≤ d) (hd2 : d ≤ 400) (hM : M ≤ 400) : RgC (d : Int) (M : Int) (d : Int) ((M - 1) / d) := by
  have key : Builtin.Range.rangeSize (d : Int) (M : Int) (d : Int) = (((M - 1) / d : Nat) : Int) := by
    unfold Builtin.Range.rangeSize
    rw [if_pos (by omega)]
    by_cases h : (d : Int) < (M : Int)
    · rw [if_pos h]
      have e1 : ((M : Int) - (d : Int) - 1) = ((M - d - 1 : Nat) : Int) := by omega
      rw [e1]
      have e2 : (M - 1) / d = (M - d - 1) / d + 1 := by
        rw [show M - 1 = M - d - 1 + d by omega, Nat.add_div_right _ (by omega)]
      rw [e2]
      rfl
    · rw [if_neg h]
      have : (M - 1) / d = 0 := Nat.div_eq_of_lt (by omega)
      rw [this]
      rfl
  have hle : (M - 1) / d ≤ 400 := Nat.le_trans (Nat.div_le_self _ _) (by omega)
  have fit : ∀ z : Int, -2000 ≤ z → z ≤ 2000 → Builtin.Range.rangeFitsLong z = true := fun z a b => by
    unfold Builtin.Range.rangeFitsLong
    simp only [Bool.and_eq_true, decide_eq_true_eq]
    omega
  generalize (M - 1) / d = q at key hle
  refine ⟨by omega, by omega, ?_, key⟩
  unfold Builtin.Range.small
  rw [key, if_pos (by omega), fit _ (by omega) (by omega), fit _ (by omega) (by omega), fit _ (by omega) (by omega), fit ((M : Int) + ((d : Int) - 1)) (by omega) (by omega)]
  simp
theorem set_map {α : Type} (f : Nat → α) (v : α) {M k : Nat} (hk : k < M) : ((List.range M).map f).set k v = (List.range M).map fun n => if n = k then v else f n := by
  apply List.ext_getElem?
  intro i
  rw [List.getElem?_set, List.getElem?_map, List.getElem?_map]
  rcases Nat.lt_or_ge i M with hi | hi
  · rw [List.getElem?_range hi, List.length_map, List.length_range]
    by_cases h : k = i
    · rw [if_pos h, if_pos (by omega)]
      show some v = some (if i = k then v else f i)
      rw [if_pos h.symm]
    · rw [if_neg h]
      show some (f i) = some (if i = k then v else f i)
      rw [if_neg (fun z => h z.symm)]
  · rw [List.getElem?_eq_none (by rw [List.length_range]; exact hi)]
    by_cases h : k = i
    · omega
    · rw [if_neg h]
      rfl
end Ft

set_option exponentiation.threshold 9000
namespace Ft
open PySem L2
/-! ### the program's row of sums over divisors, divisor by divisor -/
def dsU (k : Nat) (D E : Int) : Nat → Nat → Int
  | 0, _ => 0
  | d + 1, n => dsU k D E d n + if n % (d + 1) = 0 ∧ 1 ≤ n then dsT k D E n (d + 1) else 0
def dsV (k : Nat) (D E : Int) (d i n : Nat) : Int := dsU k D E d n + if n % (d + 1) = 0 ∧ 1 ≤ n / (d + 1) ∧ n / (d + 1) ≤ i then dsT k D E n (d + 1) else 0
theorem dsV_zero {k : Nat} {D E : Int} {d n : Nat} : dsV k D E d 0 n = dsU k D E d n := by
  unfold dsV
  rw [if_neg (by omega)]
  omega
theorem dsV_last {k : Nat} {D E : Int} {d M n : Nat} (hn : n < M) : dsV k D E d ((M - 1) / (d + 1)) n = dsU k D E (d + 1) n := by
  show dsU k D E d n + _ = dsU k D E d n + _
  congr 1
  have hle : n / (d + 1) ≤ (M - 1) / (d + 1) := Nat.div_le_div_right (by omega)
  by_cases h : n % (d + 1) = 0 ∧ 1 ≤ n
  · have h1 : 1 ≤ n / (d + 1) := (Nat.le_div_iff_mul_le (by omega)).mpr (by rw [Nat.one_mul]; exact Nat.le_of_dvd (by omega) (Nat.dvd_of_mod_eq_zero h.1))
    rw [if_pos h, if_pos ⟨h.1, h1, hle⟩]
  · rw [if_neg h, if_neg fun z => h ⟨z.1, by
      rcases Nat.eq_zero_or_pos n with e | e
      · rw [e, Nat.zero_div] at z; omega
      · exact e⟩]
theorem dsV_step {k : Nat} {D E : Int} {d i n : Nat} : dsV k D E d (i + 1) n = if n = (d + 1) + i * (d + 1) then dsV k D E d i n + dsT k D E n (d + 1) else dsV k D E d i n := by
  unfold dsV
  have hp : 0 < d + 1 := by omega
  generalize dsU k D E d n = x
  generalize dsT k D E n (d + 1) = y
  generalize d + 1 = d at hp
  have key : n = d + i * d ↔ n % d = 0 ∧ n / d = i + 1 := by
    constructor
    · intro h
      have : n = d * (i + 1) := by rw [h, Nat.mul_add, Nat.mul_one, Nat.mul_comm, Nat.add_comm]
      rw [this]
      exact ⟨Nat.mul_mod_right _ _, Nat.mul_div_cancel_left _ hp⟩
    · rintro ⟨h1, h2⟩
      have := Nat.div_add_mod n d
      rw [h1, h2, Nat.add_zero, Nat.mul_add, Nat.mul_one, Nat.mul_comm] at this
      omega
  by_cases hk : n = d + i * d
  · obtain ⟨h1, h2⟩ := key.mp hk
    rw [if_pos hk, if_pos ⟨h1, by omega, by omega⟩, if_neg (by omega)]
    omega
  · rw [if_neg hk]
    have hne : ¬ (n % d = 0 ∧ n / d = i + 1) := fun z => hk (key.mpr z)
    by_cases hc : n % d = 0 ∧ 1 ≤ n / d ∧ n / d ≤ i
    · rw [if_pos hc, if_pos ⟨hc.1, hc.2.1, by omega⟩]
    · rw [if_neg hc, if_neg (fun z => hc ⟨z.1, z.2.1, by have : n / d ≠ i + 1 := fun k => hne ⟨z.1, k⟩; omega⟩)]
theorem dsU_0 (k : Nat) (D E : Int) : ∀ d, dsU k D E d 0 = 0
  | 0 => rfl
  | d + 1 => by
    show dsU k D E d 0 + _ = 0
    rw [dsU_0 k D E d, if_neg (by omega)]
    rfl
theorem dsU_sum (k : Nat) (D E : Int) {n : Nat} (n1 : 1 ≤ n) : ∀ d, dsU k D E d n = ((((List.range d).filter fun e => decide (n % (e + 1) = 0)).map fun e => e + 1).map (dsT k D E n)).sum
  | 0 => rfl
  | d + 1 => by
    show dsU k D E d n + _ = _
    rw [dsU_sum k D E n1 d, filter_succ, List.map_append, List.map_append, List.sum_append]
    congr 1
    by_cases h : n % (d + 1) = 0
    · rw [if_pos ⟨h, n1⟩, if_pos (decide_eq_true h)]
      simp
    · rw [if_neg (fun z => h z.1), if_neg (by simpa using h)]
      rfl
theorem dsU_all (k : Nat) (D E : Int) {n d : Nat} (n1 : 1 ≤ n) (h : n ≤ d) : dsU k D E d n = dsF k D E n := by
  rw [dsU_sum k D E n1]
  unfold dsF
  refine (perm_sum ((dvs_perm n1 ?_ fun x => ?_).map _)).symm
  · unfold List.Nodup
    rw [List.pairwise_map]
    exact (List.Pairwise.filter _ List.pairwise_lt_range).imp fun h => by omega
  · rw [List.mem_map]
    constructor
    · rintro ⟨e, he, rfl⟩
      exact ⟨by omega, of_decide_eq_true (List.mem_filter.mp he).2⟩
    · rintro ⟨h1, h2⟩
      have := Nat.le_of_dvd (by omega) (Nat.dvd_of_mod_eq_zero h2)
      refine ⟨x - 1, List.mem_filter.mpr ⟨List.mem_range.mpr (by omega), ?_⟩, by omega⟩
      rw [show x - 1 + 1 = x by omega]
      exact decide_eq_true h2
/-- the told row: 0 at 0 -/
def dsR (k : Nat) (D E : Int) (n : Nat) : Int := if n = 0 then 0 else dsF k D E n
theorem dsU_row (k : Nat) (D E : Int) {n M : Nat} (h : n < M) : dsU k D E (M - 1) n = dsR k D E n := by
  unfold dsR
  by_cases e : n = 0
  · rw [if_pos e, e, dsU_0]
  · rw [if_neg e, dsU_all k D E (by omega) (by omega)]
def rowL (M : Nat) (f : Nat → Int) : List V := (List.range M).map fun n => V.int (f n)
theorem rowL_len (M : Nat) (f : Nat → Int) : (rowL M f).length = M := by unfold rowL; rw [List.length_map, List.length_range]
theorem rowL_get {M : Nat} (f : Nat → Int) {k : Nat} (hk : k < M) : (rowL M f)[k]? = some (V.int (f k)) := by unfold rowL; rw [List.getElem?_map, List.getElem?_range hk]; rfl
theorem rowL_congr {M : Nat} {f g : Nat → Int} (h : ∀ n, n < M → f n = g n) : rowL M f = rowL M g := by
  unfold rowL
  exact List.map_congr_left fun n hn => by rw [h n (List.mem_range.mp hn)]
end Ft

set_option exponentiation.threshold 9000
namespace Ft
open PySem L2
def sp_dsums : Sp := fun vs H Q _ => ∃ (k M : Nat) (x y : Int), vs = [.int (k : Int), .int x, .int y, .int (M : Int)] ∧ k ≤ 24 ∧ isSign x = true ∧ isSign y = true ∧ 1 ≤ M ∧ M ≤ 400 ∧ ∀ H' p, Same H H' → H p = none → H' p = some (.lst (rowL M (dsR k x y))) → Q (.ref p) H'
theorem rep0 (v : V) : ∀ M : Nat, (List.replicate M [v]).flatten = List.replicate M v
  | 0 => rfl
  | M + 1 => by rw [List.replicate_succ, List.flatten_cons, rep0 v M, List.replicate_succ]; rfl
section
variable {P : Program} {w : World} {K : PySem.W.Frag} {mg : Str → Option Value} {base : Heap}
theorem ok_dsums (D : Df K mg "divisor_sums" s_divisor_sums ["k", "one", "other", "many"]) (B : Bi mg) (c_value_at : Cal P w K mg base 2 "value_at" sp_value_at) (c_raised : Cal P w K mg base 1 "raised" sp_raised) : Cal P w K mg base 3 "divisor_sums" sp_dsums := by
  obtain ⟨f, fd, F, m, b⟩ := D.ex
  have sc := sc_divisor_sums
  refine ⟨f, fd, _, F.ok sc (fun _ _ _ _ ⟨_, _, _, _, e, _⟩ => by rw [e]; rfl) (fun cdv A outer s H vs Q E hr h => ?_), m, F.kp, b⟩
  obtain ⟨k, M, x, y, rfl, k24, hx, hy, M1, M4, q⟩ := h
  refine ⟨_, (pss_cons (ps_set (i := 4) sc.nd rfl (Or.inl rfl) (pe_op op_rep (pe_lst (pa_cons pe_int pa_nil)) (pv 3)))
      (pss_cons (ps_for PassesOwn.never rfl (pi_range2 (by rfl) B.range (pa_cons pe_int (pa_cons (pv 3) pa_nil))) (pg_name (i := 5) sc.nd rfl (Or.inl rfl))
      (pss_cons (ps_set (i := 6) sc.nd rfl (Or.inl rfl) (pe_op op_mulW (pe_c c_value_at hr (by decide) (by rfl) (pa_cons (pv 2) (pa_cons (pv 5) pa_nil))) (pe_c c_raised hr (by decide) (by rfl) (pa_cons (pv 5) (pa_cons (pv 0) pa_nil)))))
        (pss_one (ps_for PassesOwn.never rfl (pi_range3 rfl B.range (pa_cons (pv 5) (pa_cons (pv 3) (pa_cons (pv 5) pa_nil)))) (pg_name (i := 7) sc.nd rfl (Or.inl rfl))
        (pss_one (ps_augS (pv 4) (pv 7) get_lst (pe_op op_mulW (pe_c c_value_at hr (by decide) (by rfl) (pa_cons (pv 1) (pa_cons (pe_op op_fdivW (pv 7) (pv 5)) pa_nil))) (pv 6)) ip_add set_list))))))
      (pss_one (ps_ret (pv 4))))), ?_⟩
  have x0 := (isSign_le hx).2.1
  have y0 := (isSign_le hy).2.1
  refine ⟨(by show (1 : Nat) ≤ sizeLine; decide), fun l0 hl0 => ?_⟩
  have s0 : Same H (upd H l0 (.lst [V.int 0])) := Same.upd_new hl0
  have h0 : (upd H l0 (.lst [V.int 0])) l0 = some (.lst [V.int 0]) := upd_same
  generalize upd H l0 (.lst [V.int 0]) = H0 at s0 h0
  refine ⟨_, rfl, l0, (M : Int), _, rfl, rfl, h0, by omega, by omega, ?_, fun L hL => ?_⟩
  · rw [Int.toNat_natCast]
    exact Nat.le_trans (by show 1 * M ≤ 400; omega) (by decide : 400 ≤ sizeLine)
  have hL0 : H L = none := s0.free hL
  have hz : (List.replicate ((M : Int)).toNat [V.int 0]).flatten = rowL M (dsU k x y 0) := by
    rw [Int.toNat_natCast, rep0]
    unfold rowL
    exact (List.map_const' .. ▸ by rw [List.length_range] : List.replicate M (V.int 0) = (List.range M).map fun _ => V.int 0)
  rw [hz]
  have s1 := s0.trans (Same.upd_new (o := .lst (rowL M (dsU k x y 0))) hL)
  have h1 : (upd H0 L (.lst (rowL M (dsU k x y 0)))) L = some (.lst (rowL M (dsU k x y 0))) := upd_same
  generalize upd H0 L (.lst (rowL M (dsU k x y 0))) = H1 at s1 h1
  dsimp only [gName]
  refine ⟨_, rfl, 1, (M : Int), rfl, by omega, for_range (lo := 1) (n := ((M : Int) - 1).toNat) (fun i σ H' => Same H H' ∧ H' L = some (.lst (rowL M (dsU k x y i))) ∧ ∃ o5 o6 o7 : Option V, σ = [some (.int (k : Int)), some (.int x), some (.int y), some (.int (M : Int)), some (.ref L), o5, o6, o7]) ⟨s1, h1, none, none, none, rfl⟩ ?_ ?_⟩
  · rintro i σ H2 hi ⟨s2, h2, o5, o6, o7, rfl⟩
    have hi : i + 1 < M := by omega
    have ei : (1 : Int) + (i : Int) = ((i + 1 : Nat) : Int) := by omega
    have dk : (i + 1) ^ k ≤ 2 ^ 408 := pow_100k (by omega) k24
    have mf : CMulW (valueAt y ((i + 1 : Nat) : Int)) (((i + 1) ^ k : Nat) : Int) := mul8 (Nat.lt_of_le_of_lt (val_le _ _) (by decide)) (by rw [Int.natAbs_natCast]; exact Nat.lt_of_le_of_lt dk (by decide))
    dsimp only [gName]
    rw [ei]
    refine ⟨_, rfl, _, rfl, y, _, rfl, y0, ?_⟩
    refine ⟨_, rfl, _, rfl, i + 1, k, rfl, by omega, Nat.lt_of_le_of_lt dk (Nat.pow_lt_pow_right (by decide) (by decide)), _, _, rfl, rfl, mf, ?_⟩
    have h2' : H2 L = some (.lst (rowL M (dsV k x y i 0))) := by rw [h2]; exact congrArg (fun z => some (HO.lst z)) (rowL_congr fun n _ => dsV_zero.symm)
    dsimp only [gName]
    refine ⟨_, rfl, _, rfl, _, rfl, ((i + 1 : Nat) : Int), (M : Int), ((i + 1 : Nat) : Int), (M - 1) / (i + 1), rfl, rgC (by omega) (by omega) (by omega), for_rangeC (lo := ((i + 1 : Nat) : Int)) (c := ((i + 1 : Nat) : Int)) (n := (M - 1) / (i + 1)) (fun j σ H' => Same H H' ∧ H' L = some (.lst (rowL M (dsV k x y i j))) ∧ ∃ o7 : Option V, σ = [some (.int (k : Int)), some (.int x), some (.int y), some (.int (M : Int)), some (.ref L), some (.int ((i + 1 : Nat) : Int)), some (.int (valueAt y ((i + 1 : Nat) : Int) * (((i + 1) ^ k : Nat) : Int))), o7]) ⟨s2, h2', o7, rfl⟩ ?_ ?_⟩
    · rintro j σ H3 hj ⟨s3, h3, o7, rfl⟩
      have en : ((i + 1 : Nat) : Int) + ((j : Nat) : Int) * ((i + 1 : Nat) : Int) = (((i + 1) + j * (i + 1) : Nat) : Int) := by rw [Int.natCast_add ((i + 1)) (j * (i + 1)), Int.natCast_mul]
      have kb : (i + 1) + j * (i + 1) ≤ M - 1 := by
        have h := Nat.mul_div_le (M - 1) (i + 1)
        have h2 : (i + 1) * (j + 1) ≤ (i + 1) * ((M - 1) / (i + 1)) := Nat.mul_le_mul_left _ hj
        rw [Nat.mul_add, Nat.mul_one, Nat.mul_comm] at h2
        omega
      have st := fun n => dsV_step (k := k) (D := x) (E := y) (d := i) (i := j) (n := n)
      have i1 : 0 < i + 1 := by omega
      have dk2 := dk
      have eT : ∀ n, valueAt x ((n / (i + 1) : Nat) : Int) * (valueAt y ((i + 1 : Nat) : Int) * (((i + 1) ^ k : Nat) : Int)) = dsT k x y n (i + 1) := fun n => by unfold dsT; rw [Int.mul_assoc]
      generalize hn : (i + 1) + j * (i + 1) = n at en kb st
      generalize hd : i + 1 = dd at *
      have hs : (rowL M (dsV k x y i j)).set n (V.int (dsV k x y i j n + dsT k x y n dd)) = rowL M (dsV k x y i (j + 1)) := by
        unfold rowL
        rw [set_map _ _ (by omega)]
        refine List.map_congr_left fun z _ => ?_
        rw [st]
        by_cases e : z = n
        · rw [if_pos e, if_pos e, e]
        · rw [if_neg e, if_neg e]
      dsimp only [gName]
      rw [en]
      have ed : ((n : Nat) : Int) / ((dd : Nat) : Int) = ((n / dd : Nat) : Int) := (Int.natCast_ediv n dd).symm
      refine ⟨_, rfl, _, rfl, L, _, n, _, rfl, rfl, h3, rowL_get _ (by omega), by rw [rowL_len]; exact Nat.lt_of_le_of_lt M4 (by decide), ?_⟩
      refine ⟨_, rfl, _, rfl, _, rfl, _, _, rfl, rfl, cdivN i1 (by omega), x, _, rfl, x0, _, rfl, _, _, rfl, rfl, ?_, _, _, rfl, rfl, L, _, _, n, rfl, rfl, h3, ?_, ?_⟩
      · exact mul8 (Nat.lt_of_le_of_lt (val_le _ _) (by decide)) (Nat.lt_of_le_of_lt (one_mul_le (val_le _ _) (by rw [Int.natAbs_natCast]; exact dk)) (by decide))
      · rw [rowL_len]
        unfold ixN
        rw [if_pos (by omega), if_pos (by omega), Int.toNat_natCast]
      · dsimp only
        rw [ed, eT, hs]
        refine ⟨fun b o e => ?_, upd_same, _, rfl⟩
        rw [upd_ne (ne_of_none e hL0)]
        exact s3 _ _ e
    · rintro σ H3 ⟨s3, h3, o7, rfl⟩
      rw [rowL_congr (fun n hn => dsV_last hn)] at h3
      exact ⟨s3, h3, _, _, _, rfl⟩
  · rintro σ H2 ⟨s2, h2, o5, o6, o7, rfl⟩
    rw [show ((M : Int) - 1).toNat = M - 1 by omega, rowL_congr (fun n hn => dsU_row k x y hn)] at h2
    exact ⟨_, rfl, q _ L s2 hL0 h2⟩
end
end Ft

set_option exponentiation.threshold 9000
namespace Ft
open PySem L2
/-- a divisor piece -/
def PcAt (H : Hp) (v : V) (k : Nat) (x y : Int) (t : Nat) : Prop := ∃ p, v = .ref p ∧ H p = some (.tup [.str (Str.ofString "sum"), .int (k : Int), .int x, .int y, .int (t : Int)])
theorem PcAt.same {H H' : Hp} {v : V} {k : Nat} {x y : Int} {t : Nat} (h : PcAt H v k x y t) (s : Same H H') : PcAt H' v k x y t := by
  obtain ⟨p, a, b⟩ := h
  exact ⟨p, a, s _ _ b⟩
def isPl (k : Nat) (x y : Int) : Bool := decide (k = 2) && (decide (x = 1) && decide (y = 1))
structure PcOk (k : Nat) (x y : Int) (t : Nat) : Prop where
  k1 : 1 ≤ k
  k24 : k ≤ 24
  sx : isSign x = true
  sy : isSign y = true
  t1 : 1 ≤ t
  par : decide (0 < x * y) = decide (k % 2 = 0)
  lev : (x * y).natAbs * t ≤ 400
  one : k = 1 → x < y
  pl : k ≠ 1 → 2 ≤ t ∨ isPl k x y = false
def sp_isTold : Sp := fun vs H Q _ => ∃ v k x y t, vs = [v, .str (Str.ofString "sum"), .int 5] ∧ PcAt H v k x y t ∧ ∀ H', Same H H' → Q (.bl true) H'
def sp_isPlain : Sp := fun vs H Q _ => ∃ v k x y t, vs = [v] ∧ PcAt H v k x y t ∧ ∀ H', Same H H' → Q (.bl (isPl k x y)) H'
def sp_isPiece : Sp := fun vs H Q _ => ∃ v k x y t, vs = [v] ∧ PcAt H v k x y t ∧ PcOk k x y t ∧ ∀ H', Same H H' → Q (.bl true) H'
def sp_checkPiece : Sp := fun vs H Q _ => ∃ v k x y t, vs = [v] ∧ PcAt H v k x y t ∧ PcOk k x y t ∧ ∀ H', Same H H' → Q .non H'
section
variable {P : Program} {w : World} {K : PySem.W.Frag} {mg : Str → Option Value} {base : Heap}
theorem ok_isTold (D : Df K mg "is_told" s_is_told ["thing", "word", "many"]) (B : Bi mg) : Cal P w K mg base 1 "is_told" sp_isTold := by
  obtain ⟨f, fd, F, m, b⟩ := D.ex
  have sc := sc_is_told
  refine ⟨f, fd, _, F.ok sc (fun _ _ _ _ ⟨_, _, _, _, _, e, _⟩ => by rw [e]; rfl) (fun cdv A outer s H vs Q E hr h => ?_), m, F.kp, b⟩
  obtain ⟨v, k, x, y, t, rfl, ⟨p, rfl, hp⟩, q⟩ := h
  refine ⟨_, (pss_one (ps_ret (pe_and (pe_callB call_isi (by rfl) B.isinstance (by decide +kernel) (pa_cons (pv 0) (pa_cons (pe_ty (n := "tuple") (by rfl) B.tuple (by decide +kernel)) pa_nil))) (pe_and (pe_cmpR op_eq (pe_callB call_len_seq (by rfl) B.len_ (by decide +kernel) (pa_cons (pv 0) pa_nil)) (pv 2) (nomark _)) (pe_one (pe_cmpR op_eq (pe_ix (show IxR _ (rIx K) from ix_seq) (pv 0) pe_int (fun _ _ => rfl)) (pv 1) (nomark _))))))), ?_⟩
  refine ⟨_, rfl, _, _, _, _, true, rfl, .ty _, .base (.tup hp), kit_tup_tup, true, rfl, iteT ?_⟩
  refine ⟨_, rfl, p, _, rfl, .inr (SqT.of hp), ?_⟩
  refine ⟨_, rfl, rfl, true, rfl, iteT ?_⟩
  refine ⟨_, rfl, .inr (.inl ⟨p, _, 0, _, rfl, rfl, SqT.of hp, atI_nat (j := 0) rfl, _, rfl, rfl, ?_⟩)⟩
  rw [decide_eq_true rfl]
  exact q _ (Same.refl H)
theorem ok_isPlain (D : Df K mg "is_plain" s_is_plain ["divisor_piece"]) : Cal P w K mg base 1 "is_plain" sp_isPlain := by
  obtain ⟨f, fd, F, m, b⟩ := D.ex
  have sc := sc_is_plain
  refine ⟨f, fd, _, F.ok sc (fun _ _ _ _ ⟨_, _, _, _, _, e, _⟩ => by rw [e]; rfl) (fun cdv A outer s H vs Q E hr h => ?_), m, F.kp, b⟩
  obtain ⟨v, k, x, y, t, rfl, ⟨p, rfl, hp⟩, q⟩ := h
  have h64 : (A.deeper (PyProof.Rows.envOfC "is_plain" (defScope s_is_plain) s.heap.objs.size f cdv)).units + 64 < cLine := by have := hr.un; omega
  refine ⟨_, (pss_one (ps_ret (pe_cmpR (op_eqD h64) (pe_slice sl_tup (pv 0) (po_some pe_int) (po_some pe_int)) (pe_tup (pa_cons pe_int (pa_cons pe_int (pa_cons pe_int pa_nil)))) (nomark _)))), ?_⟩
  refine ⟨_, rfl, _, rfl, _, rfl, p, _, rfl, SqT.of hp, (by show ¬ ((1 : Nat) = 0 ∧ (4 : Nat) = 5); decide), fun p1 hp1 => ?_⟩
  have ec : cutV [V.str (Str.ofString "sum"), V.int (k : Int), V.int x, V.int y, V.int (t : Int)] (some 1) (some 4) = [V.int (k : Int), V.int x, V.int y] := rfl
  rw [ec]
  have s1 : Same H (upd H p1 (.tup [V.int (k : Int), V.int x, V.int y])) := Same.upd_new hp1
  have h1 : (upd H p1 (.tup [V.int (k : Int), V.int x, V.int y])) p1 = some (.tup [V.int (k : Int), V.int x, V.int y]) := upd_same
  generalize upd H p1 (.tup [V.int (k : Int), V.int x, V.int y]) = H1 at s1 h1
  refine ⟨(by show (3 : Nat) ≤ sizeLine; decide), fun p2 hp2 => ?_⟩
  have s2 : Same H1 (upd H1 p2 (.tup [V.int 2, V.int 1, V.int 1])) := Same.upd_new hp2
  have h2 : (upd H1 p2 (.tup [V.int 2, V.int 1, V.int 1])) p2 = some (.tup [V.int 2, V.int 1, V.int 1]) := upd_same
  generalize upd H1 p2 (.tup [V.int 2, V.int 1, V.int 1]) = H2 at s2 h2
  refine ⟨.tuple [.int (k : Int), .int x, .int y], .tuple [.int 2, .int 1, .int 1], .tup (SqT.of (s2 _ _ h1)) (.cons (.int _) (.cons (.int _) (.cons (.int _) .nil))), .tup (SqT.of h2) (.cons (.int _) (.cons (.int _) (.cons (.int _) .nil))), rfl, rfl, ?_⟩
  have ee : PyData.eqv (.tuple [.int (k : Int), .int x, .int y]) (.tuple [.int 2, .int 1, .int 1]) = isPl k x y := by
    show (((k : Int) == 2) && ((x == 1) && ((y == 1) && true))) = isPl k x y
    have a1 : ((k : Int) == 2) = decide (k = 2) := by
      by_cases h : k = 2
      · rw [decide_eq_true h, h]; rfl
      · rw [decide_eq_false h]; exact beq_eq_false_iff_ne.mpr (by omega)
    have b1 : ∀ z : Int, (z == 1) = decide (z = 1) := fun z => by
      by_cases h : z = 1
      · rw [decide_eq_true h, h]; rfl
      · rw [decide_eq_false h]; exact beq_eq_false_iff_ne.mpr h
    rw [a1, b1, b1, Bool.and_true]
    rfl
  rw [ee]
  exact q _ (s1.trans s2)
theorem fn_isPiece {f : Addr} {fd : FuncData} (F : Fun K "is_divisor_piece" "is_divisor_piece" s_is_divisor_piece f fd) (B : Bi mg) (c_is_told : Cal P w K mg base 1 "is_told" sp_isTold) (c_is_from : Cal P w K mg base 2 "is_from" sp_from) (c_is_sign : Cal P w K mg base 3 "is_sign" sp_is_sign) (c_is_between : Cal P w K mg base 2 "is_between" sp_is_between) (c_is_plain : Cal P w K mg base 1 "is_plain" sp_isPlain) : FnOk P w K mg base CX0 4 f fd ["thing"] sp_isPiece := by
  have sc := sc_is_divisor_piece
  refine F.ok sc (fun _ _ _ _ ⟨_, _, _, _, _, e, _⟩ => by rw [e]; rfl) (fun cdv A outer s H vs Q E hr h => ?_)
  obtain ⟨v, k, x, y, t, rfl, ⟨p, rfl, hp⟩, ok, q⟩ := h
  refine ⟨_, (pss_cons (ps_if (pt_not (pt_val (pe_c c_is_told hr (by decide) (by rfl) (pa_cons (pv 0) (pa_cons pe_str (pa_cons pe_int pa_nil))))))
      (pss_one (ps_ret pe_bl))
      pss_nil)
      (pss_cons (ps_asg (pv 0) (pg_tup rfl (pgs_cons (pg_name (i := 1) sc.nd rfl (Or.inl rfl)) (pgs_cons (pg_name (i := 2) sc.nd rfl (Or.inl rfl)) (pgs_cons (pg_name (i := 3) sc.nd rfl (Or.inl rfl)) (pgs_cons (pg_name (i := 4) sc.nd rfl (Or.inl rfl)) (pgs_cons (pg_name (i := 5) sc.nd rfl (Or.inl rfl)) pgs_nil)))))))
      (pss_cons (ps_if (PW.pt (pw_or (pt_not (pt_val (pe_c c_is_between hr (by decide) (by rfl) (pa_cons (pv 2) (pa_cons pe_int (pa_cons pe_int pa_nil)))))) (pw_or (pt_not (pt_val (pe_c c_is_sign hr (by decide) (by rfl) (pa_cons (pv 3) pa_nil)))) (pw_or (pt_not (pt_val (pe_c c_is_sign hr (by decide) (by rfl) (pa_cons (pv 4) pa_nil)))) (pw_or1 (pt_not (pt_val (pe_c c_is_from hr (by decide) (by rfl) (pa_cons (pv 5) (pa_cons pe_int pa_nil))))))))))
      (pss_one (ps_ret pe_bl))
      pss_nil)
      (pss_cons (ps_if (PW.pt (pw_or (pt_cmpR op_ne (pe_cmpR op_gt (pe_op op_mulW (pv 3) (pv 4)) pe_int (nomark _)) (pe_cmpR op_eq (pe_op op_mod (pv 2) pe_int) pe_int (nomark _)) (nomark _)) (pw_or1 (pt_cmpR op_gt (pe_op op_mulW (pe_callB call_abs (by rfl) B.abs (by decide +kernel) (pa_cons (pe_op op_mulW (pv 3) (pv 4)) pa_nil)) (pv 5)) pe_int (nomark _)))))
      (pss_one (ps_ret pe_bl))
      pss_nil)
      (pss_cons (ps_if (pt_cmpR op_eq (pv 2) pe_int (nomark _))
      (pss_one (ps_ret (pe_cmpR op_lt (pv 3) (pv 4) (nomark _))))
      pss_nil)
      (pss_one (ps_ret (pe_or (pe_cmpR op_ge (pv 5) pe_int (nomark _)) (pe_one (pe_not (pe_c c_is_plain hr (by decide) (by rfl) (pa_cons (pv 0) pa_nil)))))))))))), ?_⟩
  have hP : PcAt H (.ref p) k x y t := ⟨p, rfl, hp⟩
  obtain ⟨x4, x0, _⟩ := isSign_le ok.sx
  obtain ⟨y4, y0, _⟩ := isSign_le ok.sy
  refine ⟨_, rfl, _, k, x, y, t, rfl, hP, fun H1 s1 => ⟨true, rfl, iteF ?_⟩⟩
  refine ⟨_, rfl, p, _, rfl, SqT.of (s1 _ _ hp), rfl, _, _, rfl, _, _, rfl, _, _, rfl, _, _, rfl, _, _, rfl, rfl, ?_⟩
  dsimp only [gName]
  have bt : (decide ((1 : Int) ≤ (k : Int)) && decide ((k : Int) ≤ 24)) = true := by
    have := ok.k1
    have := ok.k24
    rw [decide_eq_true (by omega), decide_eq_true (by omega)]
    rfl
  refine ⟨_, rfl, (k : Int), 1, 24, rfl, trivial, true, congrArg V.bl bt, iteF ?_⟩
  refine ⟨_, rfl, x, rfl, trivial, true, congrArg V.bl ok.sx, iteF ?_⟩
  refine ⟨_, rfl, y, rfl, trivial, true, congrArg V.bl ok.sy, iteF ?_⟩
  refine ⟨_, rfl, (t : Int), 1, rfl, true, congrArg V.bl (decide_eq_true (by have := ok.t1; omega)), iteF ?_⟩
  have mxy : CMulW x y := mul8 (Nat.lt_of_le_of_lt x4 (by decide)) (Nat.lt_of_le_of_lt y4 (by decide))
  dsimp only [tNext]
  refine ⟨_, rfl, _, rfl, _, _, rfl, rfl, mxy, _, _, rfl, rfl, _, rfl, _, _, rfl, rfl, (by show (0 : Int) < 2; decide), rfl, ?_⟩
  have e2 : decide (V.int ((k : Int) % 2) = V.int 0) = decide (k % 2 = 0) := by
    by_cases z : k % 2 = 0
    · rw [decide_eq_true z]
      exact decide_eq_true (congrArg V.int (by omega))
    · rw [decide_eq_false z]
      exact decide_eq_false fun w => z (by have := V.int.inj w; omega)
  have e3 : decide (V.bl (decide (0 < x * y)) = V.bl (decide (V.int ((k : Int) % 2) = V.int 0))) = true := by
    rw [e2, ok.par]
    exact decide_eq_true rfl
  refine ⟨rfl, false, ?_, iteF ?_⟩
  · show V.bl (!decide (V.bl (decide (0 < x * y)) = V.bl (decide (V.int ((k : Int) % 2) = V.int 0)))) = V.bl false
    rw [e3]
    rfl
  have mx : ((if x * y < 0 then -(x * y) else x * y) : Int) = ((x * y).natAbs : Int) := by split <;> omega
  have lxy : (x * y).natAbs ≤ 160000 := by
    rw [Int.natAbs_mul]
    exact Nat.mul_le_mul x4 y4
  have t4 : t ≤ 400 := by
    have h1 : 1 ≤ (x * y).natAbs := by
      rw [Int.natAbs_mul]
      exact Nat.mul_pos (by omega) (by omega)
    have := Nat.mul_le_mul_right t h1
    have := ok.lev
    omega
  refine ⟨_, rfl, _, rfl, _, _, rfl, rfl, mxy, _, rfl, _, rfl, _, _, rfl, rfl, ?_, ?_⟩
  · rw [mx]
    exact mul8 (by rw [Int.natAbs_natCast]; exact Nat.lt_of_le_of_lt lxy (by decide)) (by rw [Int.natAbs_natCast]; exact Nat.lt_of_le_of_lt t4 (by decide))
  refine ⟨_, _, rfl, rfl, false, congrArg V.bl (decide_eq_false ?_), iteF ?_⟩
  · rw [mx, ← Int.natCast_mul]
    have := ok.lev
    omega
  dsimp only [tNext]
  refine ⟨_, rfl, rfl, _, rfl, ifI (fun e => ?_) fun e => ?_⟩
  · refine ⟨_, rfl, _, rfl, _, _, rfl, rfl, ?_⟩
    dsimp only
    rw [decide_eq_true (ok.one (by omega))]
    exact q _ s1
  · dsimp only [tNext]
    refine ⟨_, rfl, _, _, rfl, rfl, _, rfl, ?_⟩
    rcases ok.pl (by omega) with h2 | h2
    · rw [if_pos (decide_eq_true (by omega))]
      exact q _ s1
    · by_cases h3 : 2 ≤ t
      · rw [if_pos (decide_eq_true (by omega))]
        exact q _ s1
      · rw [if_neg (by rw [decide_eq_false (by omega)]; decide)]
        refine ⟨_, rfl, _, k, x, y, t, rfl, hP.same s1, fun H2 s2 => ⟨_, rfl, ?_⟩⟩
        rw [h2]
        exact q _ (s1.trans s2)
end
end Ft

set_option exponentiation.threshold 9000
namespace Ft
open PySem L2
/-! ### Bernoulli's numbers, with bounds on the way -/
def smallB (x : Fq) : Bool := Nat.blt x.1.natAbs (2 ^ 4000) && Nat.blt x.2.natAbs (2 ^ 4000) && decide (0 < x.2)
theorem smallB_of {x : Fq} (h : smallB x = true) : Small 4000 x := by
  unfold smallB at h
  simp only [Bool.and_eq_true, decide_eq_true_eq, Nat.blt_eq] at h
  exact ⟨h.1.1, h.1.2, h.2⟩
def plainIn (n : Nat) : Nat → List Fq → Fq → Option Fq
  | _, [], t => some t
  | i, p :: ps, t =>
    if smallB (PySem.W.mcComb ((n : Int) + 1) (i : Int), 1) && smallB (nprod p (PySem.W.mcComb ((n : Int) + 1) (i : Int), 1)) && smallB (nsum t (nprod p (PySem.W.mcComb ((n : Int) + 1) (i : Int), 1))) then
      plainIn n (i + 1) ps (nsum t (nprod p (PySem.W.mcComb ((n : Int) + 1) (i : Int), 1)))
    else none
def plainTo : Nat → Option (List Fq)
  | 0 => some [(1, 1)]
  | k + 1 => match plainTo k with
    | none => none
    | some l => match plainIn (k + 1) 0 l (0, 1) with
      | none => none
      | some t => if smallB (nprod t (-1, ((k + 1 : Nat) : Int) + 1)) then some (l ++ [nprod t (-1, ((k + 1 : Nat) : Int) + 1)]) else none
def bernGo (m : Nat) (k : Nat) (P : Nat → Int) : Nat → List Fq → Fq → Option Fq
  | _, [], t => some t
  | i, p :: ps, t =>
    if smallB (P (k - i), 1) && smallB (PySem.W.mcComb (k : Int) (i : Int) * ((m ^ i : Nat) : Int), 1) && smallB (PySem.W.mcComb (k : Int) (i : Int) * ((m ^ i : Nat) : Int) * P (k - i), (m : Int)) && smallB (nprod p (PySem.W.mcComb (k : Int) (i : Int) * ((m ^ i : Nat) : Int) * P (k - i), (m : Int))) &&
      smallB (nsum t (nprod p (PySem.W.mcComb (k : Int) (i : Int) * ((m ^ i : Nat) : Int) * P (k - i), (m : Int)))) then
      bernGo m k P (i + 1) ps (nsum t (nprod p (PySem.W.mcComb (k : Int) (i : Int) * ((m ^ i : Nat) : Int) * P (k - i), (m : Int))))
    else none
theorem plain_small : ∀ (k : Nat) (l : List Fq), plainTo k = some l → l.length = k + 1 ∧ ∀ x ∈ l, Small 4000 x
  | 0, l, h => by
    obtain rfl : [((1 : Int), (1 : Int))] = l := Option.some.inj h
    refine ⟨rfl, fun x hx => ?_⟩
    obtain rfl := List.mem_singleton.mp hx
    exact smallB_of (by decide +kernel)
  | k + 1, l, h => by
    unfold plainTo at h
    split at h
    · cases h
    · rename_i l0 h0
      have ih := plain_small k l0 h0
      split at h
      · cases h
      · split at h
        · rename_i hs
          obtain rfl := Option.some.inj h
          refine ⟨by rw [List.length_append, ih.1]; rfl, fun x hx => ?_⟩
          rcases List.mem_append.mp hx with hx | hx
          · exact ih.2 x hx
          · obtain rfl := List.mem_singleton.mp hx
            exact smallB_of hs
        · cases h
theorem plain_all : (List.range 25).all (fun i => (plainTo i).isSome) = true := by decide +kernel
theorem plain_some {k : Nat} (h : k ≤ 24) : ∃ l, plainTo k = some l := by
  have c := List.all_eq_true.mp plain_all k (List.mem_range.mpr (by omega))
  cases e : plainTo k with
  | none => rw [e] at c; cases c
  | some l => exact ⟨l, rfl⟩
theorem plain_step {k : Nat} {l' : List Fq} (h : plainTo (k + 1) = some l') : ∃ l R, plainTo k = some l ∧ plainIn (k + 1) 0 l (0, 1) = some R ∧ Small 4000 (nprod R (-1, ((k + 1 : Nat) : Int) + 1)) ∧ l' = l ++ [nprod R (-1, ((k + 1 : Nat) : Int) + 1)] := by
  unfold plainTo at h
  split at h
  · cases h
  · rename_i l0 h0
    split at h
    · cases h
    · rename_i R hR
      split at h
      · rename_i hs
        exact ⟨l0, R, h0, hR, smallB_of hs, (Option.some.inj h).symm⟩
      · cases h
theorem plainIn_step {n i : Nat} {p : Fq} {ps : List Fq} {t R : Fq} (h : plainIn n i (p :: ps) t = some R) :
    Small 4000 (PySem.W.mcComb ((n : Int) + 1) (i : Int), 1) ∧ Small 4000 (nprod p (PySem.W.mcComb ((n : Int) + 1) (i : Int), 1)) ∧ Small 4000 (nsum t (nprod p (PySem.W.mcComb ((n : Int) + 1) (i : Int), 1))) ∧
      plainIn n (i + 1) ps (nsum t (nprod p (PySem.W.mcComb ((n : Int) + 1) (i : Int), 1))) = some R := by
  unfold plainIn at h
  split at h
  · rename_i c
    simp only [Bool.and_eq_true] at c
    exact ⟨smallB_of c.1.1, smallB_of c.1.2, smallB_of c.2, h⟩
  · cases h
theorem bernGo_step {m k : Nat} {P : Nat → Int} {i : Nat} {p : Fq} {ps : List Fq} {t R : Fq} (h : bernGo m k P i (p :: ps) t = some R) :
    (P (k - i)).natAbs < 2 ^ 4000 ∧ (PySem.W.mcComb (k : Int) (i : Int) * ((m ^ i : Nat) : Int)).natAbs < 2 ^ 4000 ∧ Small 4000 (PySem.W.mcComb (k : Int) (i : Int) * ((m ^ i : Nat) : Int) * P (k - i), (m : Int)) ∧
      Small 4000 (nprod p (PySem.W.mcComb (k : Int) (i : Int) * ((m ^ i : Nat) : Int) * P (k - i), (m : Int))) ∧ Small 4000 (nsum t (nprod p (PySem.W.mcComb (k : Int) (i : Int) * ((m ^ i : Nat) : Int) * P (k - i), (m : Int)))) ∧
      bernGo m k P (i + 1) ps (nsum t (nprod p (PySem.W.mcComb (k : Int) (i : Int) * ((m ^ i : Nat) : Int) * P (k - i), (m : Int)))) = some R := by
  unfold bernGo at h
  split at h
  · rename_i c
    simp only [Bool.and_eq_true] at c
    exact ⟨(smallB_of c.1.1.1.1).1, (smallB_of c.1.1.1.2).1, smallB_of c.1.1.2, smallB_of c.1.2, smallB_of c.2, h⟩
  · cases h
/-- the values us are the numbers l -/
def Frs (H : Hp) (us : List V) (l : List Fq) : Prop := us.length = l.length ∧ ∀ (i : Nat) (u : V) (x : Fq), us[i]? = some u → l[i]? = some x → Fr H u x
theorem Frs.same {H H' : Hp} {us : List V} {l : List Fq} (h : Frs H us l) (s : Same H H') : Frs H' us l := ⟨h.1, fun i u x e1 e2 => (h.2 i u x e1 e2).same s⟩
theorem Frs.one {H : Hp} {v : V} {x : Fq} (h : Fr H v x) : Frs H [v] [x] := by
  refine ⟨rfl, fun i u y e1 e2 => ?_⟩
  cases i with
  | zero =>
    obtain rfl := Option.some.inj e1
    obtain rfl := Option.some.inj e2
    exact h
  | succ i => cases e1
theorem Frs.snoc {H : Hp} {us : List V} {l : List Fq} {v : V} {x : Fq} (h : Frs H us l) (hv : Fr H v x) : Frs H (us ++ [v]) (l ++ [x]) := by
  refine ⟨by rw [List.length_append, List.length_append, h.1]; rfl, fun i u y e1 e2 => ?_⟩
  rcases Nat.lt_or_ge i us.length with hi | hi
  · rw [List.getElem?_append_left hi] at e1
    rw [List.getElem?_append_left (by rw [← h.1]; exact hi)] at e2
    exact h.2 i u y e1 e2
  · rw [List.getElem?_append_right hi] at e1
    rw [List.getElem?_append_right (by rw [← h.1]; exact hi)] at e2
    rw [← h.1] at e2
    exact (Frs.one hv).2 _ u y e1 e2
theorem Frs.get {H : Hp} {us : List V} {l : List Fq} (h : Frs H us l) {i : Nat} (hi : i < us.length) : ∃ u x, us[i]? = some u ∧ l[i]? = some x ∧ Fr H u x ∧ x ∈ l ∧ l.drop i = x :: l.drop (i + 1) := by
  have hl : i < l.length := by rw [← h.1]; exact hi
  refine ⟨us[i], l[i], List.getElem?_eq_getElem hi, List.getElem?_eq_getElem hl, h.2 i _ _ (List.getElem?_eq_getElem hi) (List.getElem?_eq_getElem hl), List.getElem_mem hl, ?_⟩
  exact List.drop_eq_getElem_cons hl
def sp_plain : Sp := fun vs H Q _ => ∃ (k : Nat) (l : List Fq), vs = [.int (k : Int)] ∧ k ≤ 24 ∧ plainTo k = some l ∧ ∀ H' p us, Same H H' → H' p = some (.lst us) → Frs H' us l → Q (.ref p) H'
section
variable {P : Program} {w : World} {K : PySem.W.Frag} {mg : Str → Option Value} {base : Heap}
theorem ok_plain_numbers (D : Df K mg "plain_numbers" s_plain_numbers ["k"]) (B : Bi mg) (c_number_sum : Cal P w K mg base 2 "number_sum" (sp_num nsum)) (c_number_product : Cal P w K mg base 2 "number_product" (sp_num nprod)) : Cal P w K mg base 3 "plain_numbers" sp_plain := by
  obtain ⟨f, fd, F, m, b⟩ := D.ex
  have sc := sc_plain_numbers
  refine ⟨f, fd, _, F.ok sc (fun _ _ _ _ ⟨_, _, e, _⟩ => by rw [e]; rfl) (fun cdv A outer s H vs Q E hr h => ?_), m, F.kp, b⟩
  obtain ⟨k, l, rfl, hk, hl, q⟩ := h
  refine ⟨_, (pss_cons (ps_set (i := 1) sc.nd rfl (Or.inl rfl) (pe_lst (pa_cons (pe_tup (pa_cons pe_int (pa_cons pe_int pa_nil))) pa_nil)))
      (pss_cons (ps_for PassesOwn.never rfl (pi_range2 (by rfl) B.range (pa_cons pe_int (pa_cons (pe_op op_add (pv 0) pe_int) pa_nil))) (pg_name (i := 2) sc.nd rfl (Or.inl rfl))
      (pss_cons (ps_set (i := 3) sc.nd rfl (Or.inl rfl) (pe_tup (pa_cons pe_int (pa_cons pe_int pa_nil))))
        (pss_cons (ps_for PassesOwn.never rfl (pi_enum (by rfl) B.enumerate (pa_cons (pv 1) pa_nil)) (pg_tup rfl (pgs_cons (pg_name (i := 4) sc.nd rfl (Or.inl rfl)) (pgs_cons (pg_name (i := 5) sc.nd rfl (Or.inl rfl)) pgs_nil)))
        (pss_one (ps_set (i := 3) sc.nd rfl (Or.inl rfl) (pe_c c_number_sum hr (by decide) (by rfl) (pa_cons (pv 3) (pa_cons (pe_c c_number_product hr (by decide) (by rfl) (pa_cons (pv 5) (pa_cons (pe_tup (pa_cons (pe_callBfun cr_comb (by rfl) B.comb (pa_cons (pe_op op_add (pv 2) pe_int) (pa_cons (pv 4) pa_nil))) (pa_cons pe_int pa_nil))) pa_nil))) pa_nil))))))
        (pss_one (ps_expr (pe_bm PySem.F.plainAttrs_list PySem.F.slot_list_append PySem.F.type_list_append mt_append (pv 1) (pa_cons (pe_c c_number_product hr (by decide) (by rfl) (pa_cons (pv 3) (pa_cons (pe_tup (pa_cons (pe_un un_neg pe_int) (pa_cons (pe_op op_add (pv 2) pe_int) pa_nil))) pa_nil))) pa_nil)))))))
      (pss_one (ps_ret (pv 1))))), ?_⟩
  refine ⟨(by show (2 : Nat) ≤ sizeLine; decide), fun p1 hp1 => ?_⟩
  have s1 : Same H (upd H p1 (.tup [V.int 1, V.int 1])) := Same.upd_new hp1
  have f1 : Fr (upd H p1 (.tup [V.int 1, V.int 1])) (.ref p1) (1, 1) := Fr.new
  generalize hH1 : upd H p1 (.tup [V.int 1, V.int 1]) = H1 at s1 f1
  refine ⟨(by show (1 : Nat) ≤ sizeLine; decide), fun p hp => ?_⟩
  have s2 : Same H1 (upd H1 p (.lst [V.ref p1])) := Same.upd_new hp
  have hpl : (upd H1 p (.lst [V.ref p1])) p = some (.lst [V.ref p1]) := upd_same
  generalize hH2 : upd H1 p (.lst [V.ref p1]) = H2 at s2 hpl
  have hp0 : H p = none := s1.free hp
  have s02 : Same H H2 := s1.trans s2
  refine ⟨_, rfl, _, _, rfl, rfl, 1, _, rfl, (by omega), ?_⟩
  refine for_range (lo := 1) (n := ((k : Int) + 1 - 1).toNat) (fun i σ H' => Same H H' ∧ ∃ (us : List V) (l : List Fq) (o1 o2 o3 o4 : Option V), σ = [some (.int (k : Int)), some (.ref p), o1, o2, o3, o4] ∧ H' p = some (.lst us) ∧ Frs H' us l ∧ plainTo i = some l) ⟨s02, [V.ref p1], [(1, 1)], none, none, none, none, rfl, hpl, (Frs.one f1).same s2, rfl⟩ ?_ ?_
  · rintro i σ H3 hi ⟨s3, us, l3, o1, o2, o3, o4, rfl, hp3, hf3, hl3⟩
    have hik : i < k := by omega
    obtain ⟨l4, hl4⟩ := plain_some (show i + 1 ≤ 24 by omega)
    obtain ⟨l3', R, e3, hR, hRs, rfl⟩ := plain_step hl4
    obtain rfl : l3 = l3' := Option.some.inj (hl3.symm.trans e3)
    have sm := plain_small i l3 hl3
    refine ⟨(by show (2 : Nat) ≤ sizeLine; decide), fun p4 hp4 => ?_⟩
    have s4 : Same H3 (upd H3 p4 (.tup [V.int 0, V.int 1])) := Same.upd_new hp4
    have f4 : Fr (upd H3 p4 (.tup [V.int 0, V.int 1])) (.ref p4) (0, 1) := Fr.new
    generalize hH4 : upd H3 p4 (.tup [V.int 0, V.int 1]) = H4 at s4 f4
    have hp4' := s4 _ _ hp3
    refine ⟨_, rfl, p, _, rfl, SqL.of hp4', ?_⟩
    refine for_it (walk_enum (xs := us)) (fun j σ H' => Same H4 H' ∧ ∃ (v : V) (t : Fq) (o3 o4 : Option V), σ = [some (.int (k : Int)), some (.ref p), some (.int (1 + (i : Int))), some v, o3, o4] ∧ Fr H' v t ∧ Small 4000 t ∧ plainIn (i + 1) j (l3.drop j) t = some R) ⟨Same.refl _, _, _, _, _, rfl, f4, smallB_of (by decide +kernel), hR⟩ (fun j σ H' _ ⟨s5, _⟩ => SqL.of (s5 _ _ hp4')) ?_ ?_
    · rintro j x σ H5 H6 hj ⟨s5, v, t, o3, o4, rfl, fv, tS, hin⟩ ⟨T, u, y, rfl, hT, rfl, hu, hy⟩
      obtain rfl : u = V.int (j : Nat) := (Option.some.inj hu).symm
      obtain ⟨y', x, hy', hx, _, hxm, hdrop⟩ := hf3.get hj
      obtain rfl : y = y' := Option.some.inj (hy.symm.trans hy')
      have fy : Fr H3 y x := hf3.2 j y x hy' hx
      rw [hdrop] at hin
      obtain ⟨k1, k2, k3, k4⟩ := plainIn_step hin
      have s6 : Same H5 (upd H5 T (.tup [V.int (j : Nat), y])) := Same.upd_new hT
      have hTT : (upd H5 T (.tup [V.int (j : Nat), y])) T = some (.tup [V.int (j : Nat), y]) := upd_same
      generalize hH6 : upd H5 T (.tup [V.int (j : Nat), y]) = H6 at s6 hTT
      refine ⟨T, _, rfl, SqT.of hTT, rfl, ?_⟩
      refine ⟨_, _, rfl, _, _, rfl, rfl, ?_⟩
      have sl := sm.1
      have ul := hf3.1
      have ci : (1 : Int) + (i : Int) + 1 = ((i + 1 : Nat) : Int) + 1 := by omega
      refine ⟨_, rfl, _, rfl, _, rfl, _, _, rfl, rfl, _, rfl, _, _, rfl, (by omega), (by omega), (by omega), ?_⟩
      refine ⟨(by show (2 : Nat) ≤ sizeLine; decide), fun p5 hp5 => ?_⟩
      rw [ci]
      have s7 : Same H6 (upd H6 p5 (.tup [V.int (PySem.W.mcComb (((i + 1 : Nat) : Int) + 1) (j : Int)), V.int 1])) := Same.upd_new hp5
      have f7 : Fr (upd H6 p5 (.tup [V.int (PySem.W.mcComb (((i + 1 : Nat) : Int) + 1) (j : Int)), V.int 1])) (.ref p5) (PySem.W.mcComb (((i + 1 : Nat) : Int) + 1) (j : Int), 1) := Fr.new
      generalize hH7 : upd H6 p5 (.tup [V.int (PySem.W.mcComb (((i + 1 : Nat) : Int) + 1) (j : Int)), V.int 1]) = H7 at s7 f7
      have s37 : Same H3 H7 := s4.trans (s5.trans (s6.trans s7))
      refine ⟨_, _, x, _, rfl, fy.same s37, f7, sm.2 x hxm, k1, fun H8 r s8 f8 => ?_⟩
      refine ⟨_, _, t, _, rfl, fv.same (s6.trans (s7.trans s8)), f8, tS, k2, fun H9 r9 s9 f9 => ?_⟩
      exact ⟨s5.trans (s6.trans (s7.trans (s8.trans s9))), _, _, _, _, rfl, f9, k3, k4⟩
    · rintro σ H5 ⟨s5, v, t, o3, o4, rfl, fv, tS, hin⟩
      have hd : l3.drop us.length = [] := by rw [hf3.1]; exact List.drop_length
      rw [hd] at hin
      obtain rfl : t = R := Option.some.inj hin
      have hp5 := s5 _ _ hp4'
      have ci : (1 : Int) + (i : Int) + 1 = ((i + 1 : Nat) : Int) + 1 := by omega
      rw [← ci] at hl4
      refine ⟨_, rfl, .inl ⟨rfl, _, SqL.of hp5⟩, _, rfl, _, rfl, _, rfl, _, _, rfl, rfl, ?_⟩
      refine ⟨(by show (2 : Nat) ≤ sizeLine; decide), fun p6 hp6 => ?_⟩
      have s6 : Same H5 (upd H5 p6 (.tup [V.int (-1), V.int (1 + (i : Int) + 1)])) := Same.upd_new hp6
      have f6 : Fr (upd H5 p6 (.tup [V.int (-1), V.int (1 + (i : Int) + 1)])) (.ref p6) (-1, 1 + (i : Int) + 1) := Fr.new
      have fin : ∀ (H7 : Hp) (r : V), Same (upd H5 p6 (.tup [V.int (-1), V.int (1 + (i : Int) + 1)])) H7 → Fr H7 r (nprod t (-1, 1 + (i : Int) + 1)) →
          H7 p = some (.lst us) ∧ us.length < sizeLine ∧ Same H (upd H7 p (.lst (us ++ [r]))) ∧ Frs (upd H7 p (.lst (us ++ [r]))) (us ++ [r]) (l3 ++ [nprod t (-1, 1 + (i : Int) + 1)]) := by
        intro H7 r s7 f7
        have s37 := s4.trans (s5.trans (s6.trans s7))
        have h7 : H7 p = some (.lst us) := s7 _ _ (s6 _ _ hp5)
        refine ⟨h7, Nat.lt_of_le_of_lt (by have := hf3.1; have := sm.1; omega : us.length ≤ 25) (by decide), fun b o e => ?_, Frs.snoc ?_ ?_⟩
        · rw [upd_ne (ne_of_none e hp0)]
          exact s37 _ _ (s3 _ _ e)
        · refine ⟨hf3.1, fun i u x e1 e2 => ?_⟩
          obtain ⟨a, e, z⟩ := (hf3.2 i u x e1 e2).same s37
          exact ⟨a, e, by rw [upd_ne (ne_of z h7 (by intro z; cases z))]; exact z⟩
        · obtain ⟨a, e, z⟩ := f7
          exact ⟨a, e, by rw [upd_ne (ne_of z h7 (by intro z; cases z))]; exact z⟩
      refine ⟨_, _, t, _, rfl, fv.same s6, f6, tS, ⟨(by show (1 : Nat) < 2 ^ 4000; exact Nat.one_lt_two_pow (by decide)), Nat.lt_of_le_of_lt (by omega : (1 + (i : Int) + 1).natAbs ≤ 2 ^ 5) (Nat.pow_lt_pow_right (by decide) (by decide)), by show (0 : Int) < 1 + (i : Int) + 1; omega⟩, fun H7 r s7 f7 => ?_⟩
      have z := fin H7 r s7 f7
      refine ⟨p, _, _, rfl, rfl, z.1, z.2.1, ?_⟩
      exact ⟨z.2.2.1, _, _, _, _, _, _, rfl, upd_same, z.2.2.2, hl4⟩
  · rintro σ H3 ⟨s3, us, l3, o1, o2, o3, o4, rfl, hp3, hf3, hl3⟩
    have e1 : ((k : Int) + 1 - 1).toNat = k := by omega
    rw [e1] at hl3
    obtain rfl : l3 = l := Option.some.inj (hl3.symm.trans hl)
    exact ⟨_, rfl, q _ p us s3 hp3 hf3⟩
end
end Ft

namespace Ft
open PySem L2
/-- two keywords, in the other order -/
def swapV : List V → List V → List V := fun us zs => match us, zs with
  | [], [a, b] => [b, a]
  | _, _ => []
def swapU : List Value → List Value → List Value := fun us zs => match us, zs with
  | [], [a, b] => [b, a]
  | _, _ => []
theorem swap_rel : ∀ {vs : List V} {us : List Value} {zs : List V} {ws : List Value}, Vals vs us → Vals zs ws → Vals (swapV vs zs) (swapU us ws)
  | _, _, _, _, .nil, .nil => .nil
  | _, _, _, _, .nil, .cons _ .nil => .nil
  | _, _, _, _, .nil, .cons a (.cons b .nil) => .cons b (.cons a .nil)
  | _, _, _, _, .nil, .cons _ (.cons _ (.cons _ _)) => .nil
  | _, _, _, _, .cons _ _, _ => .nil
end Ft

set_option exponentiation.threshold 9000
namespace Ft
open PySem L2
theorem kb_bernoulli {K : PySem.W.Frag} {f : Addr} {fd : FuncData} (F : Fun K "bernoulli" "bernoulli" s_bernoulli f fd) : KBinds K fd ["k", "sign"] ["sign", "k"] swapU swapV := by
  obtain ⟨oc, od, kV, doc, pm, an, cdv, ct, osl, rfl, lk, hcd⟩ := F.ex
  refine ⟨fun s us ws _ hl => ?_, swap_rel⟩
  match us, ws, hl with
  | [], [a, b], _ => exact .of_eq rfl
theorem comb_all : (List.range 26).all (fun a => (List.range 26).all fun b => Nat.blt (PySem.W.mcComb (a : Int) (b : Int)).natAbs (2 ^ 64)) = true := by decide +kernel
theorem comb_small {a b : Nat} (ha : a < 26) (hb : b < 26) : (PySem.W.mcComb (a : Int) (b : Int)).natAbs < 2 ^ 4000 := by
  have c := List.all_eq_true.mp (List.all_eq_true.mp comb_all a (List.mem_range.mpr ha)) b (List.mem_range.mpr hb)
  rw [Nat.blt_eq] at c
  exact Nat.lt_trans c (Nat.pow_lt_pow_right (by decide) (by decide))
/-- the program's number -/
def IsBern (k : Nat) (s : Int) (x : Fq) : Prop := ∃ l, plainTo k = some l ∧ bernGo s.natAbs k (psum s) 0 l (0, 1) = some x
def sp_bern : Sp := fun vs H Q _ => ∃ (k : Nat) (s : Int) (x : Fq), vs = [.int (k : Int), .int s] ∧ k ≤ 24 ∧ isSign s = true ∧ IsBern k s x ∧ ∀ H' v, Same H H' → Fr H' v x → Q v H'
section
variable {P : Program} {w : World} {K : PySem.W.Frag} {mg : Str → Option Value} {base : Heap}
theorem fn_bernoulli {f : Addr} {fd : FuncData} (F : Fun K "bernoulli" "bernoulli" s_bernoulli f fd) (B : Bi mg) (c_check_between : Cal P w K mg base 3 "check_between" (sp3 (fun n a b => a ≤ n ∧ n ≤ b) fun _ _ _ => .non)) (c_check_sign : Cal P w K mg base 4 "check_sign" sp_check_sign) (c_plain_numbers : Cal P w K mg base 3 "plain_numbers" sp_plain) (c_raised : Cal P w K mg base 1 "raised" sp_raised) (c_power_sum : Cal P w K mg base 3 "power_sum" sp_psum)
    (c_number_sum : Cal P w K mg base 2 "number_sum" (sp_num nsum)) (c_number_product : Cal P w K mg base 2 "number_product" (sp_num nprod)) : FnOk P w K mg base CX0 5 f fd ["k", "sign"] sp_bern := by
  have sc := sc_bernoulli
  refine F.ok sc (fun _ _ _ _ ⟨_, _, _, e, _⟩ => by rw [e]; rfl) (fun cdv A outer s H vs Q E hr h => ?_)
  obtain ⟨k, z, x, rfl, hk, hz, ⟨l, hl, hb⟩, q⟩ := h
  have hu := hu_of hr
  refine ⟨_, (pss_cons (ps_expr (pe_c c_check_between hr (by decide) (by rfl) (pa_cons (pv 0) (pa_cons pe_int (pa_cons pe_int pa_nil)))))
      (pss_cons (ps_expr (pe_c c_check_sign hr (by decide) (by rfl) (pa_cons (pv 1) pa_nil)))
      (pss_cons (ps_set (i := 2) sc.nd rfl (Or.inl rfl) (pe_callB call_abs (by rfl) B.abs (by decide +kernel) (pa_cons (pv 1) pa_nil)))
      (pss_cons (ps_set (i := 3) sc.nd rfl (Or.inl rfl) (pe_tup (pa_cons pe_int (pa_cons pe_int pa_nil))))
      (pss_cons (ps_for PassesOwn.never rfl (pi_enum (by rfl) B.enumerate (pa_cons (pe_c c_plain_numbers hr (by decide) (by rfl) (pa_cons (pv 0) pa_nil)) pa_nil)) (pg_tup rfl (pgs_cons (pg_name (i := 4) sc.nd rfl (Or.inl rfl)) (pgs_cons (pg_name (i := 5) sc.nd rfl (Or.inl rfl)) pgs_nil)))
      (pss_cons (ps_set (i := 6) sc.nd rfl (Or.inl rfl) (pe_op op_mulW (pe_op op_mulW (pe_callBfun cr_comb (by rfl) B.comb (pa_cons (pv 0) (pa_cons (pv 4) pa_nil))) (pe_c c_raised hr (by decide) (by rfl) (pa_cons (pv 2) (pa_cons (pv 4) pa_nil)))) (pe_c c_power_sum hr (by decide) (by rfl) (pa_cons (pv 1) (pa_cons (pe_op op_sub (pv 0) (pv 4)) pa_nil)))))
        (pss_one (ps_set (i := 3) sc.nd rfl (Or.inl rfl) (pe_c c_number_sum hr (by decide) (by rfl) (pa_cons (pv 3) (pa_cons (pe_c c_number_product hr (by decide) (by rfl) (pa_cons (pv 5) (pa_cons (pe_tup (pa_cons (pv 6) (pa_cons (pv 2) pa_nil))) pa_nil))) pa_nil)))))))
      (pss_one (ps_ret (pv 3)))))))), ?_⟩
  have hzl := isSign_le hz
  have ea : (if z < 0 then -z else z) = (z.natAbs : Int) := by split <;> omega
  have sm := plain_small k l hl
  refine ⟨_, rfl, _, _, _, rfl, ⟨by omega, by omega⟩, ?_⟩
  refine ⟨_, rfl, z, rfl, hz, ?_⟩
  refine ⟨_, rfl, z, rfl, ?_⟩
  rw [ea]
  refine ⟨(by show (2 : Nat) ≤ sizeLine; decide), fun p1 hp1 => ?_⟩
  have s1 : Same H (upd H p1 (.tup [V.int 0, V.int 1])) := Same.upd_new hp1
  have f1 : Fr (upd H p1 (.tup [V.int 0, V.int 1])) (.ref p1) (0, 1) := Fr.new
  generalize hH1 : upd H p1 (.tup [V.int 0, V.int 1]) = H1 at s1 f1
  refine ⟨_, rfl, k, l, rfl, hk, hl, fun H2 p us s2 hp hf => ?_⟩
  refine ⟨p, _, rfl, SqL.of hp, ?_⟩
  refine for_it (walk_enum (xs := us)) (fun j σ H' => Same H2 H' ∧ ∃ (v : V) (t : Fq) (o3 o4 o5 : Option V), σ = [some (.int (k : Int)), some (.int z), some (.int (z.natAbs : Int)), some v, o3, o4, o5] ∧ Fr H' v t ∧ Small 4000 t ∧ bernGo z.natAbs k (psum z) j (l.drop j) t = some x) ⟨Same.refl _, _, _, _, _, _, rfl, f1.same s2, smallB_of (by decide +kernel), hb⟩ (fun j σ H' _ ⟨s5, _⟩ => SqL.of (s5 _ _ hp)) ?_ ?_
  · rintro j x0 σ H5 H6 hj ⟨s5, v, t, o3, o4, o5, rfl, fv, tS, hin⟩ ⟨T, u, y, rfl, hT, rfl, hu, hy⟩
    obtain rfl : u = V.int (j : Nat) := (Option.some.inj hu).symm
    obtain ⟨y', x', hy', hx, _, hxm, hdrop⟩ := hf.get hj
    obtain rfl : y = y' := Option.some.inj (hy.symm.trans hy')
    have fy : Fr H2 y x' := hf.2 j y x' hy' hx
    rw [hdrop] at hin
    obtain ⟨k1, k2, k3, k4, k5, k6⟩ := bernGo_step hin
    have s6 : Same H5 (upd H5 T (.tup [V.int (j : Nat), y])) := Same.upd_new hT
    have hTT : (upd H5 T (.tup [V.int (j : Nat), y])) T = some (.tup [V.int (j : Nat), y]) := upd_same
    generalize hH6 : upd H5 T (.tup [V.int (j : Nat), y]) = H6 at s6 hTT
    have sl := sm.1
    have ul := hf.1
    have hjk : j ≤ k := by omega
    refine ⟨T, _, rfl, SqT.of hTT, rfl, ?_⟩
    refine ⟨_, _, rfl, _, _, rfl, rfl, ?_⟩
    have hpw : z.natAbs ^ j < 2 ^ 4000 := pow_400 hzl.1 (by omega)
    refine ⟨_, rfl, _, rfl, _, _, rfl, (by omega), (by omega), (by omega), ?_⟩
    refine ⟨_, rfl, _, rfl, z.natAbs, j, rfl, (by omega), hpw, ?_⟩
    refine ⟨_, _, rfl, rfl, ?_, ?_⟩
    · exact wide_mul (comb_small (by omega) (by omega)) hpw (by decide) (by decide) (by decide)
    have ek : (k : Int) - (j : Int) = ((k - j : Nat) : Int) := by omega
    refine ⟨_, rfl, _, rfl, _, rfl, _, _, rfl, rfl, z, k - j, ?_, hzl.2.1, hzl.1, by omega, ?_⟩
    · show [V.int z, V.int ((k : Int) - (j : Int))] = _
      rw [ek]
    refine ⟨_, _, rfl, rfl, wide_mul k2 k1 (by decide) (by decide) (by decide), ?_⟩
    refine ⟨_, rfl, _, rfl, _, rfl, _, rfl, ?_⟩
    refine ⟨(by show (2 : Nat) ≤ sizeLine; decide), fun p5 hp5 => ?_⟩
    generalize hH7 : upd H6 p5 _ = H7
    have s7 : Same H6 H7 := by rw [← hH7]; exact Same.upd_new hp5
    have f7 : Fr H7 (.ref p5) (PySem.W.mcComb (k : Int) (j : Int) * ((z.natAbs ^ j : Nat) : Int) * psum z (k - j), (z.natAbs : Int)) := by rw [← hH7]; exact Fr.new
    have s27 : Same H2 H7 := s5.trans (s6.trans s7)
    refine ⟨_, _, x', _, rfl, fy.same s27, f7, sm.2 x' hxm, k3, fun H8 r s8 f8 => ?_⟩
    refine ⟨_, _, t, _, rfl, fv.same (s6.trans (s7.trans s8)), f8, tS, k4, fun H9 r9 s9 f9 => ?_⟩
    exact ⟨s5.trans (s6.trans (s7.trans (s8.trans s9))), _, _, _, _, _, rfl, f9, k5, k6⟩
  · rintro σ H5 ⟨s5, v, t, o3, o4, o5, rfl, fv, tS, hin⟩
    have hd : l.drop us.length = [] := by rw [hf.1]; exact List.drop_length
    rw [hd] at hin
    obtain rfl : t = x := Option.some.inj hin
    exact ⟨_, rfl, q _ _ (s1.trans (s2.trans s5)) fv⟩
end
end Ft

set_option exponentiation.threshold 9000
namespace Ft
open PySem L2
/-! ### values of numbers as pairs -/
def rv (x : Fq) : Rat := (x.1 : Rat) / (x.2 : Rat)
structure LowT (x : Fq) : Prop where
  pos : 0 < x.2
  co : Nat.gcd x.1.natAbs x.2.natAbs = 1
theorem rat_ne {b : Int} (h : b ≠ 0) : (b : Rat) ≠ 0 := fun e => h (Rat.intCast_inj.mp (e.trans Rat.intCast_zero.symm))
theorem rv_cross {a b c d : Int} (hb : b ≠ 0) (hd : d ≠ 0) : (a : Rat) / (b : Rat) = (c : Rat) / (d : Rat) ↔ a * d = c * b := by
  have h1 := rat_ne hb
  have h2 := rat_ne hd
  constructor
  · intro h
    have : (a : Rat) * (d : Rat) = (c : Rat) * (b : Rat) := by grind
    rw [← Rat.intCast_mul, ← Rat.intCast_mul] at this
    exact Rat.intCast_inj.mp this
  · intro h
    have : (a : Rat) * (d : Rat) = (c : Rat) * (b : Rat) := by rw [← Rat.intCast_mul, ← Rat.intCast_mul, h]
    grind
theorem low_cross (a b : Int) : (low a b).1 * b = a * (low a b).2 := by
  unfold low
  obtain ⟨x, hx⟩ : ((Nat.gcd a.natAbs b.natAbs : Nat) : Int) ∣ a := Int.natAbs_dvd_natAbs.mp (by rw [Int.natAbs_natCast]; exact Nat.gcd_dvd_left _ _)
  obtain ⟨y, hy⟩ : ((Nat.gcd a.natAbs b.natAbs : Nat) : Int) ∣ b := Int.natAbs_dvd_natAbs.mp (by rw [Int.natAbs_natCast]; exact Nat.gcd_dvd_right _ _)
  generalize ((Nat.gcd a.natAbs b.natAbs : Nat) : Int) = g at *
  dsimp only
  by_cases h : g = 0
  · subst h
    rw [Int.zero_mul] at hx hy
    rw [hx, hy]
    simp
  · rw [hx, hy, Int.mul_ediv_cancel_left _ h, Int.mul_ediv_cancel_left _ h]
    grind
theorem low_LowT {a b : Int} (hb : 0 < b) : LowT (low a b) := by
  have g0 : 0 < Nat.gcd a.natAbs b.natAbs := Nat.gcd_pos_of_pos_right _ (by omega)
  unfold low
  refine ⟨?_, ?_⟩
  · obtain ⟨y, hy⟩ : ((Nat.gcd a.natAbs b.natAbs : Nat) : Int) ∣ b := Int.natAbs_dvd_natAbs.mp (by rw [Int.natAbs_natCast]; exact Nat.gcd_dvd_right _ _)
    generalize Nat.gcd a.natAbs b.natAbs = g at *
    dsimp only
    rw [hy, Int.mul_ediv_cancel_left _ (by omega)]
    rw [hy] at hb
    exact Int.pos_of_mul_pos_right hb (by omega)
  · show Nat.gcd (a / ((Nat.gcd a.natAbs b.natAbs : Nat) : Int)).natAbs (b / ((Nat.gcd a.natAbs b.natAbs : Nat) : Int)).natAbs = 1
    rw [Int.natAbs_ediv_of_dvd (Int.natAbs_dvd_natAbs.mp (by rw [Int.natAbs_natCast]; exact Nat.gcd_dvd_left _ _)), Int.natAbs_ediv_of_dvd (Int.natAbs_dvd_natAbs.mp (by rw [Int.natAbs_natCast]; exact Nat.gcd_dvd_right _ _)), Int.natAbs_natCast]
    exact Nat.coprime_div_gcd_div_gcd g0
theorem low_rv {a b : Int} (hb : 0 < b) : rv (low a b) = (a : Rat) / (b : Rat) :=
  (rv_cross (by have := (low_LowT (a := a) hb).pos; omega) (by omega)).mpr (low_cross a b)
theorem low_uniq {x y : Fq} (hx : LowT x) (hy : LowT y) (e : rv x = rv y) : x = y := by
  have px := hx.pos
  have py := hy.pos
  have c : x.1 * y.2 = y.1 * x.2 := (rv_cross (by omega) (by omega)).mp e
  have cn : x.1.natAbs * y.2.natAbs = y.1.natAbs * x.2.natAbs := by rw [← Int.natAbs_mul, ← Int.natAbs_mul, c]
  have d1 : x.2.natAbs ∣ y.2.natAbs := by
    have co : Nat.Coprime x.2.natAbs x.1.natAbs := by show Nat.gcd _ _ = 1; rw [Nat.gcd_comm]; exact hx.co
    exact co.dvd_of_dvd_mul_left ⟨y.1.natAbs, by rw [cn, Nat.mul_comm]⟩
  have d2 : y.2.natAbs ∣ x.2.natAbs := by
    have co : Nat.Coprime y.2.natAbs y.1.natAbs := by show Nat.gcd _ _ = 1; rw [Nat.gcd_comm]; exact hy.co
    exact co.dvd_of_dvd_mul_left ⟨x.1.natAbs, by rw [← cn, Nat.mul_comm]⟩
  have e2 : x.2 = y.2 := by
    have := Nat.dvd_antisymm d1 d2
    omega
  have e1 : x.1 = y.1 := by
    rw [e2] at c
    exact Int.eq_of_mul_eq_mul_right (by omega) c
  exact Prod.ext e1 e2
theorem nsum_val {x y : Fq} (hx : 0 < x.2) (hy : 0 < y.2) : LowT (nsum x y) ∧ rv (nsum x y) = rv x + rv y := by
  refine ⟨low_LowT (Int.mul_pos hx hy), (low_rv (Int.mul_pos hx hy)).trans ?_⟩
  have h1 := rat_ne (show x.2 ≠ 0 by omega)
  have h2 := rat_ne (show y.2 ≠ 0 by omega)
  unfold rv
  rw [Rat.intCast_add, Rat.intCast_mul, Rat.intCast_mul, Rat.intCast_mul]
  grind
theorem nprod_val {x y : Fq} (hx : 0 < x.2) (hy : 0 < y.2) : LowT (nprod x y) ∧ rv (nprod x y) = rv x * rv y := by
  refine ⟨low_LowT (Int.mul_pos hx hy), (low_rv (Int.mul_pos hx hy)).trans ?_⟩
  have h1 := rat_ne (show x.2 ≠ 0 by omega)
  have h2 := rat_ne (show y.2 ≠ 0 by omega)
  unfold rv
  rw [Rat.intCast_mul, Rat.intCast_mul]
  grind
theorem ediv_abs_le (a : Int) (g : Nat) (hd : (g : Int) ∣ a) : (a / (g : Int)).natAbs ≤ a.natAbs := by
  rw [Int.natAbs_ediv_of_dvd hd]
  exact Nat.div_le_self _ _
theorem low_le (a b : Int) : (low a b).1.natAbs ≤ a.natAbs ∧ (low a b).2.natAbs ≤ b.natAbs :=
  ⟨ediv_abs_le _ _ (Int.natAbs_dvd_natAbs.mp (by rw [Int.natAbs_natCast]; exact Nat.gcd_dvd_left _ _)), ediv_abs_le _ _ (Int.natAbs_dvd_natAbs.mp (by rw [Int.natAbs_natCast]; exact Nat.gcd_dvd_right _ _))⟩
/-! ### the plain numbers, and what the program and the law make of them -/
/-- a number of few bits -/
def Few (b : Nat) (x : Fq) : Prop := x.1.natAbs ≤ 2 ^ b ∧ x.2.natAbs ≤ 2 ^ b ∧ 0 < x.2
def fewB (x : Fq) : Bool := Nat.ble x.1.natAbs (2 ^ 40) && Nat.ble x.2.natAbs (2 ^ 40) && decide (0 < x.2)
theorem fewB_of {x : Fq} (h : fewB x = true) : Few 40 x := by
  unfold fewB at h
  simp only [Bool.and_eq_true, decide_eq_true_eq, Nat.ble_eq] at h
  exact ⟨h.1.1, h.1.2, h.2⟩
def comb (k i : Nat) : Int := PySem.W.mcComb (k : Int) (i : Int)
/-- the sum of the shares from the i-th on -/
def bsum (m k : Nat) (P : Nat → Int) : Nat → List Fq → Rat
  | _, [] => 0
  | i, p :: ps => rv p * (comb k i * ((m ^ i : Nat) : Int) * P (k - i) : Int) + bsum m k P (i + 1) ps
theorem comb_all' : (List.range 27).all (fun a => (List.range 27).all fun b => Nat.ble (comb a b).natAbs (2 ^ 30)) = true := by decide +kernel
theorem comb_le {a b : Nat} (ha : a < 27) (hb : b < 27) : (comb a b).natAbs ≤ 2 ^ 30 := by
  have c := List.all_eq_true.mp (List.all_eq_true.mp comb_all' a (List.mem_range.mpr ha)) b (List.mem_range.mpr hb)
  rwa [Nat.ble_eq] at c
/-- the factors of the shares are small -/
structure PB (m k : Nat) (P : Nat → Int) : Prop where
  m0 : 0 < m
  m6 : m ≤ 2 ^ 9
  k24 : k ≤ 24
  P : ∀ e ≤ 24, (P e).natAbs ≤ 2 ^ 225
theorem PB.pow {m k : Nat} {P : Nat → Int} (h : PB m k P) {i : Nat} (hi : i ≤ 24) : m ^ i ≤ 2 ^ 216 :=
  Nat.le_trans (Nat.pow_le_pow_left h.m6 i) (Nat.le_trans (Nat.pow_le_pow_right (by decide) hi) (by decide))
theorem PB.two {m k : Nat} {P : Nat → Int} (h : PB m k P) {i : Nat} (hi : i ≤ k) : (comb k i * ((m ^ i : Nat) : Int)).natAbs ≤ 2 ^ 246 := by
  have := h.k24
  rw [Int.natAbs_mul, Int.natAbs_natCast]
  exact Nat.le_trans (Nat.mul_le_mul (comb_le (by omega) (by omega)) (h.pow (by omega))) (by decide)
theorem PB.fac {m k : Nat} {P : Nat → Int} (h : PB m k P) {i : Nat} (hi : i ≤ k) : (comb k i * ((m ^ i : Nat) : Int) * P (k - i)).natAbs ≤ 2 ^ 471 := by
  have := h.k24
  rw [Int.natAbs_mul]
  exact Nat.le_trans (Nat.mul_le_mul (h.two hi) (h.P _ (by omega))) (by decide)
/-- a sum of i shares -/
def TB (i : Nat) (x : Fq) : Prop := x.1.natAbs ≤ i * 2 ^ 511 * (2 ^ 49) ^ i ∧ x.2.natAbs ≤ (2 ^ 49) ^ i ∧ 0 < x.2
theorem pow46 {i : Nat} (hi : i ≤ 26) : (2 ^ 49) ^ i ≤ 2 ^ 1274 := by
  rw [← Nat.pow_mul]
  exact Nat.pow_le_pow_right (by decide) (by omega)
theorem TB.small {i : Nat} {x : Fq} (h : TB i x) (hi : i ≤ 26) : x.1.natAbs < 2 ^ 1800 ∧ x.2.natAbs < 2 ^ 1280 ∧ 0 < x.2 := by
  have := pow46 hi
  refine ⟨Nat.lt_of_le_of_lt h.1 (Nat.lt_of_le_of_lt (Nat.mul_le_mul (Nat.mul_le_mul_right _ hi) this) (by decide)), Nat.lt_of_le_of_lt h.2.1 (Nat.lt_of_le_of_lt this (by decide)), h.2.2⟩
theorem small_of {x : Fq} (h1 : x.1.natAbs < 2 ^ 1800) (h2 : x.2.natAbs < 2 ^ 1280) (h3 : 0 < x.2) : Small 4000 x := ⟨Nat.lt_trans h1 (Nat.pow_lt_pow_right (by decide) (by decide)), Nat.lt_trans h2 (Nat.pow_lt_pow_right (by decide) (by decide)), h3⟩
theorem TB.step {i : Nat} {t y : Fq} (h : TB i t) (h1 : y.1.natAbs ≤ 2 ^ 511) (h2 : y.2.natAbs ≤ 2 ^ 49) (h3 : 0 < y.2) : TB (i + 1) (t.1 * y.2 + y.1 * t.2, t.2 * y.2) := by
  obtain ⟨a, b, c⟩ := h
  refine ⟨?_, ?_, Int.mul_pos c h3⟩
  · refine Nat.le_trans (Int.natAbs_add_le _ _) ?_
    rw [Int.natAbs_mul, Int.natAbs_mul]
    have e1 := Nat.mul_le_mul a h2
    have e2 := Nat.mul_le_mul h1 b
    have e3 : 2 ^ 511 * (2 ^ 49) ^ i ≤ 2 ^ 511 * (2 ^ 49) ^ (i + 1) := Nat.mul_le_mul_left _ (Nat.pow_le_pow_right (by decide) (by omega))
    have e4 : (i + 1) * 2 ^ 511 * (2 ^ 49) ^ (i + 1) = i * 2 ^ 511 * (2 ^ 49) ^ i * 2 ^ 49 + 2 ^ 511 * (2 ^ 49) ^ (i + 1) := by rw [Nat.pow_succ]; grind
    rw [e4]
    exact Nat.add_le_add e1 (Nat.le_trans e2 e3)
  · rw [Int.natAbs_mul, Nat.pow_succ]
    exact Nat.mul_le_mul b h2
theorem TB.low {i : Nat} {a b : Int} (h : TB i (a, b)) : TB i (low a b) := ⟨Nat.le_trans (low_le a b).1 h.1, Nat.le_trans (low_le a b).2 h.2.1, (low_LowT h.2.2).pos⟩
theorem rv_int (a : Int) : rv (a, 1) = (a : Rat) := by
  unfold rv
  grind
theorem bern_go {m k : Nat} {P : Nat → Int} (hB : PB m k P) : ∀ (ps : List Fq) (i : Nat) (t : Fq), i + ps.length = k + 1 → (∀ p ∈ ps, Few 40 p) → TB i t → LowT t → ∃ x, bernGo m k P i ps t = some x ∧ LowT x ∧ TB (k + 1) x ∧ rv x = rv t + bsum m k P i ps / (m : Rat)
  | [], i, t, hi, _, ht, hl => ⟨t, rfl, hl, by have hi : i + 0 = k + 1 := hi; rw [← hi]; exact ht, by unfold bsum; grind⟩
  | p :: ps, i, t, hi, hp, ht, hl => by
    have k24 := hB.k24
    have hi : i + (ps.length + 1) = k + 1 := hi
    have pp := hp p List.mem_cons_self
    have m0 : (0 : Int) < (m : Int) := by have := hB.m0; omega
    have f := hB.fac (show i ≤ k by omega)
    have f2 := hB.two (show i ≤ k by omega)
    have f3 := hB.P (k - i) (by omega)
    have m6 : ((m : Nat) : Int).natAbs ≤ 2 ^ 9 := by rw [Int.natAbs_natCast]; exact hB.m6
    unfold bernGo
    have y1 : (nprod p (comb k i * ((m ^ i : Nat) : Int) * P (k - i), (m : Int))).1.natAbs ≤ 2 ^ 511 := by
      refine Nat.le_trans (low_le _ _).1 ?_
      rw [Int.natAbs_mul]
      exact Nat.le_trans (Nat.mul_le_mul pp.1 f) (by decide)
    have y2 : (nprod p (comb k i * ((m ^ i : Nat) : Int) * P (k - i), (m : Int))).2.natAbs ≤ 2 ^ 49 := by
      refine Nat.le_trans (low_le _ _).2 ?_
      rw [Int.natAbs_mul]
      exact Nat.le_trans (Nat.mul_le_mul pp.2.1 m6) (by decide)
    have yv := nprod_val (x := p) (y := (comb k i * ((m ^ i : Nat) : Int) * P (k - i), (m : Int))) pp.2.2 m0
    have y3 := yv.1.pos
    have t1 : TB (i + 1) (nsum t (nprod p (comb k i * ((m ^ i : Nat) : Int) * P (k - i), (m : Int)))) := (ht.step y1 y2 y3).low
    have tv := nsum_val (x := t) ht.2.2 y3
    obtain ⟨x, hx, xl, xt, xv⟩ := bern_go hB ps (i + 1) _ (by omega) (fun q hq => hp q (List.mem_cons_of_mem _ hq)) t1 tv.1
    have sm : ∀ {x : Fq}, x.1.natAbs < 2 ^ 4000 → x.2.natAbs < 2 ^ 4000 → 0 < x.2 → smallB x = true := fun h1 h2 h3 => by
      unfold smallB
      simp only [Bool.and_eq_true, decide_eq_true_eq, Nat.blt_eq]
      exact ⟨⟨h1, h2⟩, h3⟩
    have up : ∀ {a b : Nat}, a ≤ 2 ^ b → b < 4000 → a < 2 ^ 4000 := fun h1 h2 => Nat.lt_of_le_of_lt h1 (Nat.pow_lt_pow_right (by decide) h2)
    have ts := t1.small (by omega)
    refine ⟨x, ?_, xl, xt, ?_⟩
    · rw [if_pos ?_]
      · exact hx
      · have c1 : smallB (P (k - i), 1) = true := sm (up f3 (by decide)) (by show (1 : Int).natAbs < 2 ^ 4000; exact Nat.one_lt_two_pow (by decide)) (show (0 : Int) < 1 by decide)
        have c2 : smallB (comb k i * ((m ^ i : Nat) : Int), 1) = true := sm (up f2 (by decide)) (by show (1 : Int).natAbs < 2 ^ 4000; exact Nat.one_lt_two_pow (by decide)) (show (0 : Int) < 1 by decide)
        have c3 : smallB (comb k i * ((m ^ i : Nat) : Int) * P (k - i), (m : Int)) = true := sm (up f (by decide)) (up m6 (by decide)) m0
        have c4 := sm (up y1 (by decide)) (up y2 (by decide)) y3
        have c5 := sm (Nat.lt_trans ts.1 (Nat.pow_lt_pow_right (by decide) (by decide))) (Nat.lt_trans ts.2.1 (Nat.pow_lt_pow_right (by decide) (by decide))) ts.2.2
        unfold comb at c2 c3 c4 c5
        rw [c1, c2, c3, c4, c5]
        rfl
    · rw [xv, tv.2, yv.2]
      show rv t + rv p * rv (_, (m : Int)) + _ = rv t + (rv p * _ + _) / (m : Rat)
      unfold rv
      dsimp only
      rw [show ((m : Int) : Rat) = (m : Rat) from Rat.intCast_natCast m]
      grind
theorem plain_few : (List.range 25).all (fun k => match plainTo k with | some l => l.all fewB && decide (l.length = k + 1) | none => false) = true := by decide +kernel
theorem plain_ok {k : Nat} (h : k ≤ 24) : ∃ l, plainTo k = some l ∧ l.length = k + 1 ∧ ∀ p ∈ l, Few 40 p := by
  have c := List.all_eq_true.mp plain_few k (List.mem_range.mpr (by omega))
  split at c
  · rename_i l e
    rw [Bool.and_eq_true] at c
    exact ⟨l, e, of_decide_eq_true c.2, fun p hp => fewB_of (List.all_eq_true.mp c.1 p hp)⟩
  · cases c
end Ft

set_option exponentiation.threshold 9000
namespace Ft
open PySem L2
def BernV (k : Nat) (s : Int) (x : Fq) : Prop := LowT x ∧ (∀ l, plainTo k = some l → rv x = bsum s.natAbs k (psum s) 0 l / (s.natAbs : Rat)) ∧ x.1.natAbs < 2 ^ 1800 ∧ x.2.natAbs < 2 ^ 1280
theorem psumTo_le (s : Int) {e : Nat} (he : e ≤ 24) : ∀ n, n ≤ 400 → (psumTo s e n).natAbs ≤ n * 2 ^ 216
  | 0, _ => by show (0 : Int).natAbs ≤ _; simp
  | n + 1, h => by
    show (psumTo s e n + valueAt s (1 + (n : Int)) * (((1 + n) ^ e : Nat) : Int)).natAbs ≤ _
    refine Nat.le_trans (Int.natAbs_add_le _ _) ?_
    rw [Nat.add_mul, Nat.one_mul]
    refine Nat.add_le_add (psumTo_le s he n (by omega)) ?_
    rw [Int.natAbs_mul, Int.natAbs_natCast]
    have := Nat.mul_le_mul (valueAt_one s (1 + (n : Int))) (Nat.le_trans (Nat.pow_le_pow_left (by omega : 1 + n ≤ 2 ^ 9) e) (Nat.pow_le_pow_right (by decide) he))
    exact Nat.le_trans this (by decide)
theorem psum_le (s : Int) (h : s.natAbs ≤ 400) {e : Nat} (he : e ≤ 24) : (psum s e).natAbs ≤ 2 ^ 225 := Nat.le_trans (psumTo_le s he _ h) (Nat.le_trans (Nat.mul_le_mul_right _ h) (by decide))
theorem pb_of {s : Int} {k : Nat} (hs : isSign s = true) (h : s.natAbs ≤ 400) (hk : k ≤ 24) : PB s.natAbs k (psum s) := ⟨by have := (isSign_le hs).2.1; omega, Nat.le_trans h (by decide), hk, fun e he => psum_le s h he⟩
theorem bern_ex {s : Int} {k : Nat} (hs : isSign s = true) (h : s.natAbs ≤ 400) (hk : k ≤ 24) : ∃ l x, plainTo k = some l ∧ bernGo s.natAbs k (psum s) 0 l (0, 1) = some x ∧ BernV k s x := by
  obtain ⟨l, hl, ll, lf⟩ := plain_ok hk
  obtain ⟨x, hx, xl, xt, xv⟩ := bern_go (pb_of hs h hk) l 0 (0, 1) (by omega) lf ⟨by simp, by simp, by decide⟩ ⟨by decide, by decide⟩
  refine ⟨l, x, hl, hx, xl, fun l' hl' => ?_, (xt.small (by omega)).1, (xt.small (by omega)).2.1⟩
  obtain rfl : l = l' := Option.some.inj (hl.symm.trans hl')
  rw [xv, show rv (0, 1) = 0 by rw [rv_int]; rfl]
  grind
end Ft

set_option exponentiation.threshold 9000
namespace Ft
open PySem L2
/-- the program's number of k and a sign -/
def bnv (k : Nat) (s : Int) : Fq := match plainTo k with
  | some l => (bernGo s.natAbs k (psum s) 0 l (0, 1)).getD (0, 1)
  | none => (0, 1)
theorem bnv_ok {k : Nat} {s : Int} (hs : isSign s = true) (h : s.natAbs ≤ 400) (hk : k ≤ 24) : IsBern k s (bnv k s) ∧ (bnv k s).1.natAbs < 2 ^ 1800 ∧ (bnv k s).2.natAbs < 2 ^ 1280 ∧ 0 < (bnv k s).2 := by
  obtain ⟨l, x, hl, hb, bv⟩ := bern_ex hs h hk
  have e : bnv k s = x := by
    unfold bnv
    rw [hl]
    dsimp only
    rw [hb]
    rfl
  rw [e]
  exact ⟨⟨l, hl, hb⟩, bv.2.2.1, bv.2.2.2, bv.1.1⟩
def fstV (k : Nat) (x y : Int) (t : Nat) : Fq := if isPl k x y = true then low ((t : Int) - 1) 24 else if k = 1 then (if y = 1 then nprod (bnv 1 x) (-1, 2) else (0, 1)) else if x = 1 then nprod (bnv k y) (-1, 2 * (k : Int)) else (0, 1)
/-- the signs whose number is wanted are small -/
def PcS (x y : Int) : Prop := (y = 1 → x.natAbs ≤ 400) ∧ (x = 1 → y.natAbs ≤ 400)
theorem low_le3 {a b : Int} (hb : 0 < b) : (low a b).1.natAbs ≤ a.natAbs ∧ (low a b).2.natAbs ≤ b.natAbs ∧ 0 < (low a b).2 := by
  have g0 : 0 < Nat.gcd a.natAbs b.natAbs := Nat.gcd_pos_of_pos_right _ (by omega)
  have gl : Nat.gcd a.natAbs b.natAbs ≤ b.natAbs := Nat.le_of_dvd (by omega) (Nat.gcd_dvd_right _ _)
  have gd : ((Nat.gcd a.natAbs b.natAbs : Nat) : Int) ∣ b := Int.dvd_natAbs.mp (Int.natCast_dvd_natCast.mpr (Nat.gcd_dvd_right _ _))
  unfold low
  dsimp only
  generalize Nat.gcd a.natAbs b.natAbs = g at g0 gl gd
  refine ⟨?_, ?_, ?_⟩
  · exact Int.natAbs_ediv_le_natAbs a _
  · exact Int.natAbs_ediv_le_natAbs b _
  · exact Int.ediv_pos_of_pos_of_dvd hb (by omega) gd
theorem fst_le {k : Nat} {x y : Int} {t : Nat} (ok : PcOk k x y t) (ps : PcS x y) : (fstV k x y t).1.natAbs < 2 ^ 1810 ∧ (fstV k x y t).2.natAbs < 2 ^ 1300 ∧ 0 < (fstV k x y t).2 := by
  have z : ((0 : Int), (1 : Int)).1.natAbs < 2 ^ 1810 ∧ ((0 : Int), (1 : Int)).2.natAbs < 2 ^ 1300 ∧ 0 < ((0 : Int), (1 : Int)).2 := ⟨by decide, by decide, by decide⟩
  unfold fstV
  split
  · have := low_le3 (a := (t : Int) - 1) (b := 24) (by decide)
    have t4 : t ≤ 400 := by
      have h1 : 1 ≤ (x * y).natAbs := by
        rw [Int.natAbs_mul]
        exact Nat.mul_pos (by have := (isSign_le ok.sx).2.1; omega) (by have := (isSign_le ok.sy).2.1; omega)
      have := Nat.mul_le_mul_right t h1
      have := ok.lev
      omega
    refine ⟨Nat.lt_of_le_of_lt (by omega : _ ≤ 400) (by decide), Nat.lt_of_le_of_lt (by omega : _ ≤ 24) (by decide), this.2.2⟩
  · split
    · split
      · rename_i hy
        obtain ⟨_, b1, b2, b3⟩ := bnv_ok (k := 1) ok.sx (ps.1 hy) (by decide)
        have := low_le3 (a := (bnv 1 x).1 * -1) (b := (bnv 1 x).2 * 2) (by omega)
        rw [Int.natAbs_mul, Int.natAbs_mul] at this
        refine ⟨Nat.lt_of_le_of_lt this.1 (Nat.lt_of_lt_of_le (Nat.mul_lt_mul_of_pos_right b1 (by decide)) (by decide)), Nat.lt_of_le_of_lt this.2.1 (Nat.lt_of_lt_of_le (Nat.mul_lt_mul_of_pos_right b2 (by decide)) (by decide)), this.2.2⟩
      · exact z
    · split
      · rename_i hx
        have k1 := ok.k1
        have k24 := ok.k24
        obtain ⟨_, b1, b2, b3⟩ := bnv_ok (k := k) ok.sy (ps.2 hx) k24
        have := low_le3 (a := (bnv k y).1 * -1) (b := (bnv k y).2 * (2 * (k : Int))) (Int.mul_pos b3 (by omega))
        rw [Int.natAbs_mul, Int.natAbs_mul] at this
        have m2 : (bnv k y).2.natAbs * (2 * (k : Int)).natAbs < 2 ^ 1280 * 64 := Nat.mul_lt_mul_of_lt_of_le b2 (by omega) (by decide)
        refine ⟨Nat.lt_of_le_of_lt this.1 (Nat.lt_of_lt_of_le (Nat.mul_lt_mul_of_pos_right b1 (by decide)) (by decide)), Nat.lt_of_le_of_lt this.2.1 (Nat.lt_of_lt_of_le m2 (by decide)), this.2.2⟩
      · exact z
/-- the terms behind the first one, times nothing -/
def latV (k : Nat) (x y : Int) (t n : Nat) : Int := if isPl k x y = true then dsR (k - 1) x y n - (if n % t = 0 then (t : Int) * dsR (k - 1) x y (n / t) else 0) else if n % t = 0 then dsR (k - 1) x y (n / t) else 0
def rowT (k : Nat) (x y : Int) (t M : Nat) : List Int := (fstV k x y t).1 :: (List.range (M - 1)).map fun i => (fstV k x y t).2 * latV k x y t (i + 1)
theorem rowT_len {k : Nat} {x y : Int} {t M : Nat} (h : 1 ≤ M) : (rowT k x y t M).length = M := by
  unfold rowT
  rw [List.length_cons, List.length_map, List.length_range]
  omega
def sp_sumFirst : Sp := fun vs H Q _ => ∃ v k x y t, vs = [v] ∧ PcAt H v k x y t ∧ PcOk k x y t ∧ PcS x y ∧ ∀ H' r, Same H H' → Fr H' r (fstV k x y t) → Q r H'
def sp_sumRow : Sp := fun vs H Q _ => ∃ v k x y t M, vs = [v, .int ((M : Nat) : Int)] ∧ PcAt H v k x y t ∧ PcOk k x y t ∧ PcS x y ∧ 1 ≤ M ∧ M ≤ 400 ∧ ∀ H' p q, Same H H' → H' p = some (.tup [.int (fstV k x y t).2, .ref q]) → H' q = some (.lst ((rowT k x y t M).map V.int)) → Q (.ref p) H'
def sp_sumTerms : Sp := fun vs H Q _ => ∃ v k x y t M, vs = [v, .int ((M : Nat) : Int)] ∧ PcAt H v k x y t ∧ PcOk k x y t ∧ PcS x y ∧ 1 ≤ M ∧ M ≤ 400 ∧ ∀ H' r, Same H H' → Bg H' r (lowB (fstV k x y t).2 (rowT k x y t M)) (lowT (fstV k x y t).2 (rowT k x y t M)) → Q r H'
section
variable {P : Program} {w : World} {K : PySem.W.Frag} {mg : Str → Option Value} {base : Heap}
theorem ok_checkPiece (D : Df K mg "check_divisor_piece" s_check_divisor_piece ["divisor_piece"]) (c_is_divisor_piece : Cal P w K mg base 4 "is_divisor_piece" sp_isPiece) : Cal P w K mg base 5 "check_divisor_piece" sp_checkPiece := by
  obtain ⟨f, fd, F, m, b⟩ := D.ex
  have sc := sc_check_divisor_piece
  refine ⟨f, fd, _, F.ok sc (fun _ _ _ _ ⟨_, _, _, _, _, e, _⟩ => by rw [e]; rfl) (fun cdv A outer s H vs Q E hr h => ?_), m, F.kp, b⟩
  obtain ⟨v, k, x, y, t, rfl, hP, ok, q⟩ := h
  refine ⟨_, (pss_one (ps_if (pt_not (pt_val (pe_c c_is_divisor_piece hr (by decide) (by rfl) (pa_cons (pv 0) pa_nil))))
      (pss_one ps_never)
      pss_nil)), ?_⟩
  exact ⟨_, rfl, v, k, x, y, t, rfl, hP, ok, fun H1 s1 => ⟨true, rfl, iteF (q _ s1)⟩⟩
theorem fn_sumFirst {f : Addr} {fd : FuncData} (F : Fun K "sum_first" "sum_first" s_sum_first f fd) (B : Bi mg) (c_check_divisor_piece : Cal P w K mg base 5 "check_divisor_piece" sp_checkPiece) (c_is_plain : Cal P w K mg base 1 "is_plain" sp_isPlain) (c_lowest_terms : Cal P w K mg base 1 "lowest_terms" sp_low) (c_number_product : Cal P w K mg base 2 "number_product" (sp_num nprod)) (c_bernoulli : Cal P w K mg base 5 "bernoulli" sp_bern) : FnOk P w K mg base CX0 6 f fd ["divisor_piece"] sp_sumFirst := by
  have sc := sc_sum_first
  refine F.ok sc (fun _ _ _ _ ⟨_, _, _, _, _, e, _⟩ => by rw [e]; rfl) (fun cdv A outer s H vs Q E hr h => ?_)
  obtain ⟨v, k, x, y, t, rfl, hP, ok, ps, q⟩ := h
  refine ⟨_, (pss_cons (ps_expr (pe_c c_check_divisor_piece hr (by decide) (by rfl) (pa_cons (pv 0) pa_nil)))
      (pss_cons (ps_asg (pv 0) (pg_tup rfl (pgs_cons (pg_name (i := 1) sc.nd rfl (Or.inl rfl)) (pgs_cons (pg_name (i := 2) sc.nd rfl (Or.inl rfl)) (pgs_cons (pg_name (i := 3) sc.nd rfl (Or.inl rfl)) (pgs_cons (pg_name (i := 4) sc.nd rfl (Or.inl rfl)) (pgs_cons (pg_name (i := 5) sc.nd rfl (Or.inl rfl)) pgs_nil)))))))
      (pss_cons (ps_if (pt_val (pe_c c_is_plain hr (by decide) (by rfl) (pa_cons (pv 0) pa_nil)))
      (pss_one (ps_ret (pe_c c_lowest_terms hr (by decide) (by rfl) (pa_cons (pe_op op_sub (pv 5) pe_int) (pa_cons pe_int pa_nil)))))
      pss_nil)
      (pss_cons (ps_if (pt_cmpR op_eq (pv 2) pe_int (nomark _))
      (pss_one (ps_ret (pe_ifExp (pt_cmpR op_eq (pv 4) pe_int (nomark _)) (pe_c c_number_product hr (by decide) (by rfl) (pa_cons (pe_c c_bernoulli hr (by decide) (by rfl) (pa_cons pe_int (pa_cons (pv 3) pa_nil))) (pa_cons (pe_tup (pa_cons (pe_un un_neg pe_int) (pa_cons pe_int pa_nil))) pa_nil))) (pe_tup (pa_cons pe_int (pa_cons pe_int pa_nil))))))
      pss_nil)
      (pss_one (ps_ret (pe_ifExp (pt_cmpR op_eq (pv 3) pe_int (nomark _)) (pe_c c_number_product hr (by decide) (by rfl) (pa_cons (pe_c c_bernoulli hr (by decide) (by rfl) (pa_cons (pv 2) (pa_cons (pv 4) pa_nil))) (pa_cons (pe_tup (pa_cons (pe_un un_neg pe_int) (pa_cons (pe_op op_mulW pe_int (pv 2)) pa_nil))) pa_nil))) (pe_tup (pa_cons pe_int (pa_cons pe_int pa_nil)))))))))), ?_⟩
  refine ⟨_, rfl, v, k, x, y, t, rfl, hP, ok, fun H1 s1 => ?_⟩
  have hP1 := hP.same s1
  obtain ⟨p, rfl, hp⟩ := hP1
  refine ⟨_, rfl, p, _, rfl, SqT.of hp, rfl, _, _, rfl, _, _, rfl, _, _, rfl, _, _, rfl, _, _, rfl, rfl, ?_⟩
  dsimp only [gName]
  have q' : ∀ {H2 H3 : Hp} {r : V} {z : Fq}, Same H1 H2 → Same H2 H3 → fstV k x y t = z → Fr H3 r z → Q r H3 := fun a b e f => q _ _ (s1.trans (a.trans b)) (by rw [e]; exact f)
  have e0 : fstV k x y t = if isPl k x y = true then low ((t : Int) - 1) 24 else if k = 1 then (if y = 1 then nprod (bnv 1 x) (-1, 2) else (0, 1)) else if x = 1 then nprod (bnv k y) (-1, 2 * (k : Int)) else (0, 1) := rfl
  have k1 := ok.k1
  have k24 := ok.k24
  have up : ∀ {a b : Nat} {z : Fq}, z.1.natAbs < 2 ^ a → z.2.natAbs < 2 ^ b → 0 < z.2 → a ≤ 4000 → b ≤ 4000 → Small 4000 z := fun h1 h2 h3 h4 h5 => ⟨Nat.lt_of_lt_of_le h1 (Nat.pow_le_pow_right (by decide) h4), Nat.lt_of_lt_of_le h2 (Nat.pow_le_pow_right (by decide) h5), h3⟩
  refine ⟨_, rfl, _, k, x, y, t, rfl, ⟨p, rfl, hp⟩, fun H2 s2 => ⟨_, rfl, ?_⟩⟩
  cases hpl : isPl k x y with
  | true =>
    rw [hpl, if_pos rfl] at e0
    refine iteT ⟨_, rfl, _, _, rfl, rfl, _, _, rfl, by decide, by decide, fun H3 r s3 f3 => ?_⟩
    exact q' s2 s3 e0 f3
  | false =>
    rw [hpl, if_neg (by decide)] at e0
    refine iteF ?_
    dsimp only [tNext]
    refine ⟨_, rfl, rfl, _, rfl, ifI (fun e => ?_) fun e => ?_⟩
    · have k1' : k = 1 := by omega
      rw [if_pos k1'] at e0
      refine ⟨_, rfl, rfl, _, rfl, ifI (fun e2 => ?_) fun e2 => ?_⟩
      · rw [if_pos e2] at e0
        obtain ⟨ib, b1, b2, b3⟩ := bnv_ok (k := 1) ok.sx (ps.1 e2) (by decide)
        refine ⟨_, rfl, 1, x, bnv 1 x, rfl, by decide, ok.sx, ib, fun H3 u s3 f3 => ?_⟩
        refine ⟨_, rfl, (by show (2 : Nat) ≤ sizeLine; decide), fun p2 hp2 => ?_⟩
        have s4 : Same H3 (upd H3 p2 (.tup [V.int (-1), V.int 2])) := Same.upd_new hp2
        refine ⟨_, _, bnv 1 x, (-1, 2), rfl, f3.same s4, Fr.new, up b1 b2 b3 (by decide) (by decide), ⟨by decide, by decide, by decide⟩, fun H5 r s5 f5 => ?_⟩
        exact q' s2 (s3.trans (s4.trans s5)) e0 f5
      · rw [if_neg e2] at e0
        refine ⟨(by show (2 : Nat) ≤ sizeLine; decide), fun p2 hp2 => ?_⟩
        exact q' s2 (Same.upd_new hp2) e0 Fr.new
    · have k1' : ¬ k = 1 := by omega
      rw [if_neg k1'] at e0
      dsimp only [tNext]
      refine ⟨_, rfl, rfl, _, rfl, ifI (fun e2 => ?_) fun e2 => ?_⟩
      · rw [if_pos e2] at e0
        obtain ⟨ib, b1, b2, b3⟩ := bnv_ok (k := k) ok.sy (ps.2 e2) k24
        refine ⟨_, rfl, _, rfl, k, y, bnv k y, rfl, k24, ok.sy, ib, fun H3 u s3 f3 => ?_⟩
        refine ⟨_, rfl, _, rfl, _, _, rfl, rfl, mul8 (by decide) (Nat.lt_of_le_of_lt (by omega : _ ≤ 24) (by decide)), (by show (2 : Nat) ≤ sizeLine; decide), fun p2 hp2 => ?_⟩
        have s4 : Same H3 (upd H3 p2 (.tup [V.int (-1), V.int (2 * (k : Int))])) := Same.upd_new hp2
        refine ⟨_, _, bnv k y, (-1, 2 * (k : Int)), rfl, f3.same s4, Fr.new, up b1 b2 b3 (by decide) (by decide), ⟨(by show (-1 : Int).natAbs < 2 ^ 4000; decide), Nat.lt_of_le_of_lt (by dsimp only; omega : _ ≤ 48) (by decide), by dsimp only; omega⟩, fun H5 r s5 f5 => ?_⟩
        exact q' s2 (s3.trans (s4.trans s5)) e0 f5
      · rw [if_neg e2] at e0
        refine ⟨(by show (2 : Nat) ≤ sizeLine; decide), fun p2 hp2 => ?_⟩
        exact q' s2 (Same.upd_new hp2) e0 Fr.new
end
end Ft

set_option exponentiation.threshold 9000
namespace Ft
open PySem L2
theorem dsR_le {k n : Nat} {x y : Int} (hn : n ≤ 400) (hk : k ≤ 24) : (dsR k x y n).natAbs < 2 ^ 500 := by
  unfold dsR
  split
  · decide
  · exact dsF_le (by omega) (by omega) hk
theorem PcOk.t4 {k : Nat} {x y : Int} {t : Nat} (ok : PcOk k x y t) : t ≤ 400 := by
  have h1 : 1 ≤ (x * y).natAbs := by
    rw [Int.natAbs_mul]
    exact Nat.mul_pos (by have := (isSign_le ok.sx).2.1; omega) (by have := (isSign_le ok.sy).2.1; omega)
  have := Nat.mul_le_mul_right t h1
  have := ok.lev
  omega
theorem latV_le {k n : Nat} {x y : Int} {t : Nat} (ok : PcOk k x y t) (hn : n ≤ 400) : (latV k x y t n).natAbs < 2 ^ 600 := by
  have k24 := ok.k24
  have t4 := ok.t4
  have a := dsR_le (x := x) (y := y) hn (show k - 1 ≤ 24 by omega)
  have b := dsR_le (x := x) (y := y) (n := n / t) (Nat.le_trans (Nat.div_le_self _ _) hn) (show k - 1 ≤ 24 by omega)
  have p : 2 ^ 500 + 400 * 2 ^ 500 < 2 ^ 600 := by decide
  unfold latV
  split
  · split
    · have c : ((t : Int) * dsR (k - 1) x y (n / t)).natAbs ≤ 400 * 2 ^ 500 := by
        rw [Int.natAbs_mul, Int.natAbs_natCast]
        exact Nat.mul_le_mul t4 (Nat.le_of_lt b)
      exact Nat.lt_of_le_of_lt (Nat.le_trans (Int.natAbs_sub_le _ _) (Nat.add_le_add (Nat.le_of_lt a) c)) p
    · rw [Int.sub_zero]
      exact Nat.lt_trans a (Nat.pow_lt_pow_right (by decide) (by decide))
  · split
    · exact Nat.lt_trans b (Nat.pow_lt_pow_right (by decide) (by decide))
    · decide
def sp_checkCount : Sp := fun vs H Q _ => ∃ n : Nat, vs = [.int (n : Int)] ∧ 1 ≤ n ∧ n ≤ 400 ∧ Q .non H
section
variable {P : Program} {w : World} {K : PySem.W.Frag} {mg : Str → Option Value} {base : Heap}
theorem ok_check_count (D : Df K mg "check_count" s_check_count ["many"]) (c_is_between : Cal P w K mg base 2 "is_between" sp_is_between) : Cal P w K mg base 3 "check_count" sp_checkCount := by
  obtain ⟨f, fd, F, m, b⟩ := D.ex
  have sc := sc_check_count
  refine ⟨f, fd, _, F.ok sc (fun _ _ _ _ ⟨_, e, _⟩ => by rw [e]; rfl) (fun cdv A outer s H vs Q E hr h => ?_), m, F.kp, b⟩
  obtain ⟨n, rfl, h1, h2, q⟩ := h
  refine ⟨_, (pss_one (ps_if (pt_not (pt_val (pe_c c_is_between hr (by decide) (by rfl) (pa_cons (pv 0) (pa_cons pe_int (pa_cons pe_int pa_nil))))))
      (pss_one ps_never)
      pss_nil)), ?_⟩
  refine ⟨_, rfl, (n : Int), 1, 400, rfl, trivial, _, rfl, ?_⟩
  rw [decide_eq_true (show (1 : Int) ≤ (n : Int) by omega), decide_eq_true (show (n : Int) ≤ 400 by omega)]
  exact iteF q
set_option maxHeartbeats 1000000 in
theorem ok_sumRow (D : Df K mg "sum_row" s_sum_row ["divisor_piece", "many"]) (B : Bi mg) (c_sum_first : Cal P w K mg base 6 "sum_first" sp_sumFirst) (c_divisor_sums : Cal P w K mg base 3 "divisor_sums" sp_dsums) (c_is_plain : Cal P w K mg base 1 "is_plain" sp_isPlain) : Cal P w K mg base 7 "sum_row" sp_sumRow := by
  obtain ⟨f, fd, F, m, b⟩ := D.ex
  have sc := sc_sum_row
  refine ⟨f, fd, _, F.ok sc (fun _ _ _ _ ⟨_, _, _, _, _, _, e, _⟩ => by rw [e]; rfl) (fun cdv A outer s H vs Q E hr h => ?_), m, F.kp, b⟩
  obtain ⟨v, k, x, y, t, M, rfl, hP, ok, ps, M1, M4, q⟩ := h
  refine ⟨_, (pss_cons (ps_asg (pv 0) (pg_tup rfl (pgs_cons (pg_name (i := 2) sc.nd rfl (Or.inl rfl)) (pgs_cons (pg_name (i := 3) sc.nd rfl (Or.inl rfl)) (pgs_cons (pg_name (i := 4) sc.nd rfl (Or.inl rfl)) (pgs_cons (pg_name (i := 5) sc.nd rfl (Or.inl rfl)) (pgs_cons (pg_name (i := 6) sc.nd rfl (Or.inr rfl)) pgs_nil)))))))
      (pss_cons (ps_asg (pe_c c_sum_first hr (by decide) (by rfl) (pa_cons (pv 0) pa_nil)) (pg_tup rfl (pgs_cons (pg_name (i := 7) sc.nd rfl (Or.inl rfl)) (pgs_cons (pg_name (i := 8) sc.nd rfl (Or.inr rfl)) pgs_nil))))
      (pss_cons (ps_set (i := 9) sc.nd rfl (Or.inr rfl) (pe_c c_divisor_sums hr (by decide) (by rfl) (pa_cons (pe_op op_sub (pv 3) pe_int) (pa_cons (pv 4) (pa_cons (pv 5) (pa_cons (pv 1) pa_nil))))))
      (pss_cons (ps_if (pt_val (pe_c c_is_plain hr (by decide) (by rfl) (pa_cons (pv 0) pa_nil)))
      (pss_one (ps_setLc (i := 11) (own := [("n", 10)]) (g := gName 10) (tt := tYes) (by rfl) sc.nd rfl rfl (sw_true rfl rfl rfl (by decide +kernel)) (pi_range2 (by rfl) B.range (pa_cons pe_int (pa_cons (pv 1) pa_nil))) (blkOk_by (own := [("n", 10)]) (N := N_sum_row) (sc := defScope s_sum_row) (by decide +kernel)) (fun _ _ _ _ _ => (pg_name (i := 10) sc.nd rfl (Or.inl rfl))) (fun _ _ _ _ _ => pts_nil) (fun _ _ _ _ _ => (pe_op op_sub (pe_ix (show IxR _ (rIx K) from ix_seq) (pv 9) (pv 10) (fun _ _ => rfl)) (pe_ifExp (pt_cmpR op_eq (pe_op op_mod (pv 10) (pv 6)) pe_int (nomark _)) (pe_op op_mulW (pv 6) (pe_ix (show IxR _ (rIx K) from ix_seq) (pv 9) (pe_op op_fdivW (pv 10) (pv 6)) (fun _ _ => rfl))) pe_int)))))
      (pss_one (ps_setLc (i := 11) (own := [("n", 10)]) (g := gName 10) (tt := tYes) (by rfl) sc.nd rfl rfl (sw_true rfl rfl rfl (by decide +kernel)) (pi_range2 (by rfl) B.range (pa_cons pe_int (pa_cons (pv 1) pa_nil))) (blkOk_by (own := [("n", 10)]) (N := N_sum_row) (sc := defScope s_sum_row) (by decide +kernel)) (fun _ _ _ _ _ => (pg_name (i := 10) sc.nd rfl (Or.inl rfl))) (fun _ _ _ _ _ => pts_nil) (fun _ _ _ _ _ => (pe_ifExp (pt_cmpR op_eq (pe_op op_mod (pv 10) (pv 6)) pe_int (nomark _)) (pe_ix (show IxR _ (rIx K) from ix_seq) (pv 9) (pe_op op_fdivW (pv 10) (pv 6)) (fun _ _ => rfl)) pe_int)))))
      (pss_one (ps_ret (pe_tup (pa_cons (pv 8) (pa_cons (pe_op op_cat (pe_lst (pa_cons (pv 7) pa_nil)) (pe_lc (own := [("term", 12)]) (g := gName 12) (tt := tYes) (by rfl) sc.nd (pi_list (pv 11)) (blkOk_by (own := [("term", 12)]) (N := N_sum_row) (sc := defScope s_sum_row) (by decide +kernel)) (fun _ _ _ _ _ => (pg_name (i := 12) sc.nd rfl (Or.inl rfl))) (fun _ _ _ _ _ => pts_nil) (fun _ _ _ _ _ => (pe_op op_mulW (pv 8) (pv 12))))) pa_nil))))))))), ?_⟩
  have k1 := ok.k1
  have k24 := ok.k24
  have t1 := ok.t1
  have t4 := ok.t4
  obtain ⟨f1, f2, f3⟩ := fst_le ok ps
  obtain ⟨p, rfl, hp⟩ := id hP
  refine ⟨_, rfl, p, _, rfl, SqT.of hp, rfl, _, _, rfl, _, _, rfl, _, _, rfl, _, _, rfl, _, _, rfl, rfl, ?_⟩
  dsimp only [gName]
  refine ⟨_, rfl, _, k, x, y, t, rfl, hP, ok, ps, fun H1 r s1 fr => ?_⟩
  obtain ⟨tt, rfl, htt⟩ := fr
  refine ⟨tt, _, rfl, SqT.of htt, rfl, _, _, rfl, _, _, rfl, rfl, ?_⟩
  dsimp only [gName]
  refine ⟨_, rfl, _, _, rfl, rfl, _, rfl, _, rfl, _, rfl, k - 1, M, x, y, (by show [V.int ((k : Int) - 1), V.int x, V.int y, V.int (M : Int)] = _; rw [show (k : Int) - 1 = ((k - 1 : Nat) : Int) by omega]), by omega, ok.sx, ok.sy, M1, M4, fun H2 pS s2 _ hS => ?_⟩
  dsimp only [gName]
  have hP2 := hP.same (s1.trans s2)
  refine tSeq_join (fun σ H' => Same H H' ∧ ∃ (L : Addr) (o10 : Option V), H' L = some (.lst ((List.range (M - 1)).map fun i => V.int (latV k x y t (i + 1)))) ∧ σ = [some (.ref p), some (.int (M : Int)), some (.str (Str.ofString "sum")), some (.int (k : Int)), some (.int x), some (.int y), some (.int (t : Int)), some (.int (fstV k x y t).1), some (.int (fstV k x y t).2), some (.ref pS), o10, some (.ref L), none]) (fun N hN => ?_) ?_
  · refine ⟨_, rfl, _, k, x, y, t, rfl, hP2, fun H3 s3 => ⟨_, rfl, ?_⟩⟩
    have hS3 := s3 _ _ hS
    have s03 := s1.trans (s2.trans s3)
    have lat : ∀ n, latV k x y t n = if isPl k x y = true then dsR (k - 1) x y n - (if n % t = 0 then (t : Int) * dsR (k - 1) x y (n / t) else 0) else if n % t = 0 then dsR (k - 1) x y (n / t) else 0 := fun n => rfl
    have last : ∀ {D1 : Addr} {H' : Hp}, Same H3 H' → H' D1 = some (.lst ((List.range ((M : Int) - 1).toNat).map fun i => V.int (latV k x y t (i + 1)))) → Same H H' ∧ H' D1 = some (.lst ((List.range (M - 1)).map fun i => V.int (latV k x y t (i + 1)))) := fun {D1 H'} s h => ⟨s03.trans s, by rw [h, show ((M : Int) - 1).toNat = M - 1 by omega]⟩
    have fin : ∀ {D1 : Addr} {i : Nat} {H4 : Hp} (z : Int), H3 D1 = none → Same H3 H4 → H4 D1 = some (.lst ((List.range i).map fun i => V.int (latV k x y t (i + 1)))) → i ≤ 400 → z = latV k x y t (i + 1) → ∃ acc, H4 D1 = some (.lst acc) ∧ acc.length < sizeLine ∧ (Same H3 (upd H4 D1 (.lst (acc ++ [V.int z]))) ∧ (upd H4 D1 (.lst (acc ++ [V.int z]))) D1 = some (.lst ((List.range (i + 1)).map fun i => V.int (latV k x y t (i + 1))))) := fun {D1 i H4} z hD1 s4 h4 hi e => by
      subst e
      refine ⟨_, h4, ?_, fun b o e => ?_, ?_⟩
      · rw [List.length_map, List.length_range]
        exact Nat.lt_of_le_of_lt hi (by decide)
      · rw [upd_ne (ne_of_none e hD1)]
        exact s4 _ _ e
      · rw [upd_same, List.range_succ, List.map_append]
        rfl
    have dl : ∀ n, n ≤ 400 → (dsR (k - 1) x y n).natAbs < 2 ^ 8000 := fun n hn => Nat.lt_trans (dsR_le hn (show k - 1 ≤ 24 by omega)) (Nat.pow_lt_pow_right (by decide) (by decide))
    have tl : ((t : Nat) : Int).natAbs < 2 ^ 8000 := by rw [Int.natAbs_natCast]; exact Nat.lt_of_le_of_lt t4 (by decide)
    cases hpl : isPl k x y with
    | true =>
      refine iteT ?_
      simp only [hpl, if_true] at lat
      refine ⟨_, rfl, 1, (M : Int), rfl, ⟨by decide, by decide, by omega, by omega⟩, fun D1 hD1 => ?_⟩
      refine lc_range (lo := 1) (n := ((M : Int) - 1).toNat) (fun i H' => Same H3 H' ∧ H' D1 = some (.lst ((List.range i).map fun i => V.int (latV k x y t (i + 1))))) ⟨Same.upd_new hD1, upd_same⟩ ?_ ?_
      · rintro i H4 hi ⟨s4, h4⟩
        have ei : (1 : Int) + (i : Int) = ((i + 1 : Nat) : Int) := by omega
        have hi : i + 1 < M := by omega
        have hS4 := s4 _ _ hS3
        have li := lat (i + 1)
        dsimp only [gName]
        rw [ei]
        have fn := fun z => fin (i := i) z hD1 s4 h4 (by omega)
        generalize hn : i + 1 = n at hi li fn
        refine ⟨rfl, ?_⟩
        refine ⟨_, rfl, _, rfl, .inl ⟨pS, _, ((n : Nat) : Int), _, rfl, rfl, SqL.of hS4, atI_nat (rowL_get (dsR (k - 1) x y) hi), ?_⟩⟩
        refine ⟨_, rfl, _, rfl, _, _, rfl, rfl, (by omega : (0 : Int) < (t : Int)), rfl, _, rfl, ifI (fun e => ?_) fun e => ?_⟩
        · have e' : n % t = 0 := Int.ofNat.inj e
          rw [if_pos e'] at li
          have hd : n / t < M := Nat.lt_of_le_of_lt (Nat.div_le_self _ _) hi
          refine ⟨_, rfl, _, rfl, _, rfl, _, rfl, _, _, rfl, rfl, cdivN (by omega) (by omega), .inl ⟨pS, _, ((n / t : Nat) : Int), _, rfl, congrArg V.int (Int.natCast_ediv n t).symm, SqL.of hS4, atI_nat (rowL_get (dsR (k - 1) x y) hd), ?_⟩⟩
          exact ⟨_, _, rfl, rfl, mul8 tl (dl _ (by omega)), _, _, rfl, rfl, fn _ li.symm⟩
        · have e' : ¬ n % t = 0 := fun z => e (congrArg Int.ofNat z)
          rw [if_neg e'] at li
          exact ⟨_, _, rfl, rfl, fn _ li.symm⟩
      · rintro H4 ⟨s4, h4⟩
        obtain ⟨a1, a2⟩ := last s4 h4
        exact hN _ _ ⟨a1, D1, _, a2, rfl⟩
    | false =>
      refine iteF ?_
      simp only [hpl, Bool.false_eq_true, if_false] at lat
      refine ⟨_, rfl, 1, (M : Int), rfl, ⟨by decide, by decide, by omega, by omega⟩, fun D1 hD1 => ?_⟩
      refine lc_range (lo := 1) (n := ((M : Int) - 1).toNat) (fun i H' => Same H3 H' ∧ H' D1 = some (.lst ((List.range i).map fun i => V.int (latV k x y t (i + 1))))) ⟨Same.upd_new hD1, upd_same⟩ ?_ ?_
      · rintro i H4 hi ⟨s4, h4⟩
        have ei : (1 : Int) + (i : Int) = ((i + 1 : Nat) : Int) := by omega
        have hi : i + 1 < M := by omega
        have hS4 := s4 _ _ hS3
        have li := lat (i + 1)
        dsimp only [gName]
        rw [ei]
        have fn := fun z => fin (i := i) z hD1 s4 h4 (by omega)
        generalize hn : i + 1 = n at hi li fn
        refine ⟨rfl, ?_⟩
        refine ⟨_, rfl, _, rfl, _, _, rfl, rfl, (by omega : (0 : Int) < (t : Int)), rfl, _, rfl, ifI (fun e => ?_) fun e => ?_⟩
        · have e' : n % t = 0 := Int.ofNat.inj e
          rw [if_pos e'] at li
          have hd : n / t < M := Nat.lt_of_le_of_lt (Nat.div_le_self _ _) hi
          refine ⟨_, rfl, _, rfl, _, rfl, _, _, rfl, rfl, cdivN (by omega) (by omega), .inl ⟨pS, _, ((n / t : Nat) : Int), _, rfl, congrArg V.int (Int.natCast_ediv n t).symm, SqL.of hS4, atI_nat (rowL_get (dsR (k - 1) x y) hd), ?_⟩⟩
          exact fn _ li.symm
        · have e' : ¬ n % t = 0 := fun z => e (congrArg Int.ofNat z)
          rw [if_neg e'] at li
          exact fn _ li.symm
      · rintro H4 ⟨s4, h4⟩
        obtain ⟨a1, a2⟩ := last s4 h4
        exact hN _ _ ⟨a1, D1, _, a2, rfl⟩
  rintro _ H3 ⟨s3, L, o10, hL, rfl⟩
  have lb : ∀ n, n < M → CMulW (fstV k x y t).2 (latV k x y t n) := fun n hn => mul8 (Nat.lt_trans f2 (Nat.pow_lt_pow_right (by decide) (by decide))) (Nat.lt_trans (latV_le ok (by omega)) (Nat.pow_lt_pow_right (by decide) (by decide)))
  have er : (rowT k x y t M).map V.int = V.int (fstV k x y t).1 :: (List.range (M - 1)).map fun i => V.int ((fstV k x y t).2 * latV k x y t (i + 1)) := by
    unfold rowT
    rw [List.map_cons, List.map_map]
    rfl
  replace q := fun H' p q' => q H' p q'
  rw [er] at q
  generalize (fstV k x y t).1 = F1 at q
  generalize (fstV k x y t).2 = F2 at q lb
  refine ⟨_, rfl, _, rfl, (by show (1 : Nat) ≤ sizeLine; decide), fun l1 hl1 => ?_⟩
  have s4 : Same H3 (upd H3 l1 (.lst [V.int F1])) := Same.upd_new hl1
  have h4 : (upd H3 l1 (.lst [V.int F1])) l1 = some (.lst [V.int F1]) := upd_same
  generalize upd H3 l1 (.lst [V.int F1]) = H4 at s4 h4
  have hL4 := s4 _ _ hL
  refine ⟨_, rfl, L, rfl, ⟨_, SqL.of hL4⟩, fun D2 hD2 => ?_⟩
  refine lc_it (walk_list (xs := (List.range (M - 1)).map fun i => V.int (latV k x y t (i + 1)))) (fun i H' => Same H4 H' ∧ H' D2 = some (.lst ((List.range i).map fun i => V.int (F2 * latV k x y t (i + 1))))) ⟨Same.upd_new hD2, upd_same⟩ (fun i H' _ ⟨z, _⟩ => SqL.of (z _ _ hL4)) ?_ ?_
  · rintro i v H5 _ hi ⟨s5, h5⟩ ⟨rfl, hv⟩
    rw [List.length_map, List.length_range] at hi
    obtain rfl : v = V.int (latV k x y t (i + 1)) := by
      rw [List.getElem?_map, List.getElem?_range hi] at hv
      exact (Option.some.inj hv).symm
    refine ⟨rfl, _, rfl, _, rfl, _, _, rfl, rfl, lb _ (by omega), ?_⟩
    refine ⟨_, h5, ?_, fun b o e => ?_, ?_⟩
    · rw [List.length_map, List.length_range]
      exact Nat.lt_of_le_of_lt (by omega : i ≤ 400) (by decide)
    · rw [upd_ne (ne_of_none e hD2)]
      exact s5 _ _ e
    · rw [upd_same, List.range_succ, List.map_append]
      rfl
  rintro H5 ⟨s5, h5⟩
  rw [List.length_map, List.length_range] at h5
  refine ⟨l1, D2, _, _, rfl, rfl, s5 _ _ h4, h5, ?_, fun p4 hp4 => ?_⟩
  · rw [List.length_map, List.length_range]
    exact Nat.le_trans (by show 1 + (M - 1) ≤ 400; omega) (by decide)
  refine ⟨(by show (2 : Nat) ≤ sizeLine; decide), fun p5 hp5 => ?_⟩
  have s6 := Same.upd_new (o := .lst ([V.int F1] ++ (List.range (M - 1)).map fun i => V.int (F2 * latV k x y t (i + 1)))) hp4
  exact q _ p5 p4 (s3.trans (s4.trans (s5.trans (s6.trans (Same.upd_new hp5))))) upd_same ((Same.upd_new hp5) _ _ upd_same)
theorem fn_sumTerms {f : Addr} {fd : FuncData} (F : Fun K "sum_terms" "sum_terms" s_sum_terms f fd) (B : Bi mg) (c_check_divisor_piece : Cal P w K mg base 5 "check_divisor_piece" sp_checkPiece) (c_check_count : Cal P w K mg base 3 "check_count" sp_checkCount) (c_sum_row : Cal P w K mg base 7 "sum_row" sp_sumRow) (c_lowered : Cal P w K mg base 1 "lowered" sp_lowered) : FnOk P w K mg base CX0 8 f fd ["divisor_piece", "many"] sp_sumTerms := by
  have sc := sc_sum_terms
  refine F.ok sc (fun _ _ _ _ ⟨_, _, _, _, _, _, e, _⟩ => by rw [e]; rfl) (fun cdv A outer s H vs Q E hr h => ?_)
  obtain ⟨v, k, x, y, t, M, rfl, hP, ok, ps, M1, M4, q⟩ := h
  refine ⟨_, (pss_cons (ps_expr (pe_c c_check_divisor_piece hr (by decide) (by rfl) (pa_cons (pv 0) pa_nil)))
      (pss_cons (ps_expr (pe_c c_check_count hr (by decide) (by rfl) (pa_cons (pv 1) pa_nil)))
      (pss_cons (ps_asg (pe_c c_sum_row hr (by decide) (by rfl) (pa_cons (pv 0) (pa_cons (pv 1) pa_nil))) (pg_tup rfl (pgs_cons (pg_name (i := 2) sc.nd rfl (Or.inl rfl)) (pgs_cons (pg_name (i := 3) sc.nd rfl (Or.inl rfl)) pgs_nil))))
      (pss_one (ps_ret (pe_c c_lowered hr (by decide) (by rfl) (pa_cons (pv 2) (pa_cons (pv 3) pa_nil)))))))), ?_⟩
  refine ⟨_, rfl, v, k, x, y, t, rfl, hP, ok, fun H1 s1 => ?_⟩
  refine ⟨_, rfl, M, rfl, M1, M4, ?_⟩
  refine ⟨_, rfl, _, rfl, v, k, x, y, t, M, rfl, hP.same s1, ok, ps, M1, M4, fun H2 p r s2 hp hr2 => ?_⟩
  refine ⟨p, _, rfl, SqT.of hp, rfl, _, _, rfl, _, _, rfl, rfl, ?_⟩
  dsimp only [gName]
  obtain ⟨f1, f2, f3⟩ := fst_le ok ps
  refine ⟨_, rfl, _, rfl, _, r, _, rfl, hr2, f3, Nat.lt_trans f2 (Nat.pow_lt_pow_right (by decide) (by decide)), ?_, fun H3 u s3 g3 => q _ _ (s1.trans (s2.trans s3)) g3⟩
  rw [rowT_len M1]
  omega
end
end Ft

set_option exponentiation.threshold 9000
namespace Ft
open PySem L2
/-! ### any value as a divisor piece -/
def pieceN (k x y t : Int) : Bool := (decide (1 ≤ k) && decide (k ≤ 24)) && (isSign x && (isSign y && (decide (1 ≤ t) && (decide (decide (0 < x * y) = decide (k % 2 = 0)) && (decide ((x * y).natAbs * t.toNat ≤ 400) && (if k = 1 then decide (x < y) else (decide (2 ≤ t) || !isPl k.toNat x y)))))))
def pieceD : PyData → Bool
  | .tuple [.str w, .int k, .int x, .int y, .int t] => decide (w = Str.ofString "sum") && pieceN k x y t
  | _ => false
theorem pieceN_ok {k x y t : Int} (h : pieceN k x y t = true) : PcOk k.toNat x y t.toNat ∧ 1 ≤ k ∧ 1 ≤ t := by
  unfold pieceN at h
  simp only [Bool.and_eq_true] at h
  obtain ⟨⟨h1, h2⟩, h3, h4, h5, h6, h7, h8⟩ := h
  have h1 := of_decide_eq_true h1
  have h2 := of_decide_eq_true h2
  have h5 := of_decide_eq_true h5
  have h6 := of_decide_eq_true h6
  have h7 := of_decide_eq_true h7
  refine ⟨⟨by omega, by omega, h3, h4, by omega, ?_, h7, fun e => ?_, fun e => ?_⟩, h1, h5⟩
  · rw [h6]
    exact decide_eq_decide.mpr ⟨fun z => by omega, fun z => by omega⟩
  · rw [if_pos (by omega)] at h8
    exact of_decide_eq_true h8
  · rw [if_neg (by omega), Bool.or_eq_true] at h8
    rcases h8 with h | h
    · exact .inl (by have := of_decide_eq_true h; omega)
    · right
      cases e : isPl k.toNat x y
      · rfl
      · rw [e] at h; cases h
theorem pieceD_ok {D : PyData} (h : pieceD D = true) : ∃ (k t : Nat) (x y : Int), D = .tuple [.str (Str.ofString "sum"), .int (k : Int), .int x, .int y, .int (t : Int)] ∧ PcOk k x y t := by
  unfold pieceD at h
  split at h
  · rw [Bool.and_eq_true] at h
    obtain ⟨hw, hn⟩ := h
    obtain ⟨ok, k1, t1⟩ := pieceN_ok hn
    rename_i w k x y t
    refine ⟨k.toNat, t.toNat, x, y, ?_, ok⟩
    rw [of_decide_eq_true hw, Int.toNat_of_nonneg (by omega), Int.toNat_of_nonneg (by omega)]
  · cases h
theorem told_five {D : PyData} (h : toldD (Str.ofString "sum") 5 D = true) : ∃ a b c e, D = .tuple [.str (Str.ofString "sum"), a, b, c, e] := by
  cases D with
  | tuple ds =>
    have h : (decide (ds.length = 5) && headD (Str.ofString "sum") ds) = true := h
    rw [Bool.and_eq_true] at h
    obtain ⟨hl, hh⟩ := h
    have hl := of_decide_eq_true hl
    match ds, hl, hh with
    | [w, a, b, c, e], _, hh =>
      cases w with
      | str x => exact ⟨a, b, c, e, by rw [of_decide_eq_true (show decide (x = Str.ofString "sum") = true from hh)]⟩
      | int _ => cases hh
      | none => cases hh
      | bool _ => cases hh
      | list _ => cases hh
      | tuple _ => cases hh
      | dict _ => cases hh
  | int _ => cases h
  | str _ => cases h
  | none => cases h
  | bool _ => cases h
  | list _ => cases h
  | dict _ => cases h
theorem piece_told {D : PyData} (h : toldD (Str.ofString "sum") 5 D = false) : pieceD D = false := by
  cases e : pieceD D with
  | false => rfl
  | true =>
    obtain ⟨k, t, x, y, rfl, _⟩ := pieceD_ok e
    cases h
theorem piece_not {a b c e : PyData} (h : ∀ k x y t, a = .int k → b = .int x → c = .int y → e = .int t → pieceN k x y t = false) : pieceD (.tuple [.str (Str.ofString "sum"), a, b, c, e]) = false := by
  cases z : pieceD (.tuple [.str (Str.ofString "sum"), a, b, c, e]) with
  | false => rfl
  | true =>
    unfold pieceD at z
    split at z
    · rename_i w k x y t hh
      simp only [PyData.tuple.injEq, List.cons.injEq, and_true] at hh
      rw [Bool.and_eq_true] at z
      have := h k x y t hh.2.1 hh.2.2.1 hh.2.2.2.1 hh.2.2.2.2
      rw [this] at z
      cases z.2
    · cases z
def smallI (d : PyData) : Prop := ∀ ds z, d = .tuple ds → PyData.int z ∈ ds → z.natAbs < 2 ^ 1900
def sp_pieceQ : Sp := fun vs H Q _ => ∃ v d N, vs = [v] ∧ Dq H N v d ∧ smallI d ∧ ∀ H', Same H H' → Q (.bl (pieceD d)) H'
section
variable {P : Program} {w : World} {K : PySem.W.Frag} {mg : Str → Option Value} {base : Heap}
theorem fn_pieceQ {f : Addr} {fd : FuncData} (F : Fun K "is_divisor_piece" "is_divisor_piece" s_is_divisor_piece f fd) (B : Bi mg) (c_is_told : Cal P w K mg base 1 "is_told" sp_toldQ) (c_is_from : Cal P w K mg base 2 "is_from" sp_fromQ) (c_is_sign : Cal P w K mg base 3 "is_sign" sp_isSignQ) (c_is_between : Cal P w K mg base 2 "is_between" sp_betweenQ) (c_is_plain : Cal P w K mg base 1 "is_plain" sp_isPlain) : FnOk P w K mg base CX0 4 f fd ["thing"] sp_pieceQ := by
  have sc := sc_is_divisor_piece
  refine F.ok sc (fun _ _ _ _ ⟨_, _, _, e, _⟩ => by rw [e]; rfl) (fun cdv A outer s H vs Q E hr h => ?_)
  obtain ⟨v, d, N, rfl, hd, hb, q⟩ := h
  refine ⟨_, (pss_cons (ps_if (pt_not (pt_val (pe_c c_is_told hr (by decide) (by rfl) (pa_cons (pv 0) (pa_cons pe_str (pa_cons pe_int pa_nil))))))
      (pss_one (ps_ret pe_bl))
      pss_nil)
      (pss_cons (ps_asg (pv 0) (pg_tup rfl (pgs_cons (pg_name (i := 1) sc.nd rfl (Or.inl rfl)) (pgs_cons (pg_name (i := 2) sc.nd rfl (Or.inl rfl)) (pgs_cons (pg_name (i := 3) sc.nd rfl (Or.inl rfl)) (pgs_cons (pg_name (i := 4) sc.nd rfl (Or.inl rfl)) (pgs_cons (pg_name (i := 5) sc.nd rfl (Or.inl rfl)) pgs_nil)))))))
      (pss_cons (ps_if (PW.pt (pw_or (pt_not (pt_val (pe_c c_is_between hr (by decide) (by rfl) (pa_cons (pv 2) (pa_cons pe_int (pa_cons pe_int pa_nil)))))) (pw_or (pt_not (pt_val (pe_c c_is_sign hr (by decide) (by rfl) (pa_cons (pv 3) pa_nil)))) (pw_or (pt_not (pt_val (pe_c c_is_sign hr (by decide) (by rfl) (pa_cons (pv 4) pa_nil)))) (pw_or1 (pt_not (pt_val (pe_c c_is_from hr (by decide) (by rfl) (pa_cons (pv 5) (pa_cons pe_int pa_nil))))))))))
      (pss_one (ps_ret pe_bl))
      pss_nil)
      (pss_cons (ps_if (PW.pt (pw_or (pt_cmpR op_ne (pe_cmpR op_gt (pe_op op_mulW (pv 3) (pv 4)) pe_int (nomark _)) (pe_cmpR op_eq (pe_op op_mod (pv 2) pe_int) pe_int (nomark _)) (nomark _)) (pw_or1 (pt_cmpR op_gt (pe_op op_mulW (pe_callB call_abs (by rfl) B.abs (by decide +kernel) (pa_cons (pe_op op_mulW (pv 3) (pv 4)) pa_nil)) (pv 5)) pe_int (nomark _)))))
      (pss_one (ps_ret pe_bl))
      pss_nil)
      (pss_cons (ps_if (pt_cmpR op_eq (pv 2) pe_int (nomark _))
      (pss_one (ps_ret (pe_cmpR op_lt (pv 3) (pv 4) (nomark _))))
      pss_nil)
      (pss_one (ps_ret (pe_or (pe_cmpR op_ge (pv 5) pe_int (nomark _)) (pe_one (pe_not (pe_c c_is_plain hr (by decide) (by rfl) (pa_cons (pv 0) pa_nil)))))))))))), ?_⟩
  refine ⟨_, rfl, v, d, N, Str.ofString "sum", 5, rfl, hd, by decide, _, rfl, ?_⟩
  cases hT : toldD (Str.ofString "sum") 5 d with
  | false =>
    rw [piece_told hT] at q
    exact iteT (q _ (Same.refl _))
  | true =>
  obtain ⟨a, b, c, e, rfl⟩ := told_five hT
  obtain ⟨p, xs, rfl, np, rp, hx⟩ := id hd.tup_inv
  obtain ⟨va, vb, vc, ve, rfl, da, db, dc, de⟩ : ∃ va vb vc ve, xs = [.str (Str.ofString "sum"), va, vb, vc, ve] ∧ Dq H N va a ∧ Dq H N vb b ∧ Dq H N vc c ∧ Dq H N ve e := by
    cases hx with
    | cons h0 hx => cases hx with
      | cons h1 hx => cases hx with
        | cons h2 hx => cases hx with
          | cons h3 hx => cases hx with
            | cons h4 hx =>
              cases hx
              cases h0
              exact ⟨_, _, _, _, rfl, h1, h2, h3, h4⟩
  have rp : H p = some (.tup [.str (Str.ofString "sum"), va, vb, vc, ve]) := by cases rp; assumption
  refine iteF ?_
  refine ⟨_, rfl, p, _, rfl, SqT.of rp, rfl, _, _, rfl, _, _, rfl, _, _, rfl, _, _, rfl, _, _, rfl, rfl, ?_⟩
  dsimp only [gName]
  have no : (∀ k x y t, a = .int k → b = .int x → c = .int y → e = .int t → pieceN k x y t = false) → ∀ H', Same H H' → Q (.bl false) H' := fun h H' s => by
    rw [piece_not h] at q
    exact q _ s
  refine ⟨_, rfl, va, a, N, 1, 24, rfl, da, _, rfl, ?_⟩
  cases h1 : btwD 1 24 a with
  | false => exact iteT (iteT (no (fun k x y t ea _ _ _ => by subst ea; unfold pieceN; rw [show (decide (1 ≤ k) && decide (k ≤ 24)) = false from h1]; rfl) _ (Same.refl _)))
  | true =>
  refine iteF ?_
  obtain ⟨k, rfl, rfl, k1, k24⟩ : ∃ k : Int, a = .int k ∧ va = .int k ∧ 1 ≤ k ∧ k ≤ 24 := by
    cases da with
    | int z => have h1 := Bool.and_eq_true_iff.mp (show (decide (1 ≤ z) && decide (z ≤ 24)) = true from h1); exact ⟨z, rfl, rfl, of_decide_eq_true h1.1, of_decide_eq_true h1.2⟩
    | non => cases h1
    | bl b => cases h1
    | str x => cases h1
    | lst _ _ _ => cases h1
    | tup _ _ _ => cases h1
    | dict _ _ _ _ => cases h1
  have sgn : ∀ {v : V} {D : PyData}, Dq H N v D → signD D = true → ∃ z : Int, D = .int z ∧ v = .int z ∧ isSign z = true := fun dv hs => by
    cases dv with
    | int z => exact ⟨z, rfl, rfl, hs⟩
    | non => cases hs
    | bl b => cases hs
    | str x => cases hs
    | lst _ _ _ => cases hs
    | tup _ _ _ => cases hs
    | dict _ _ _ _ => cases hs
  have bk : (decide (1 ≤ k) && decide (k ≤ 24)) = true := h1
  refine ⟨_, rfl, vb, b, N, rfl, db, _, rfl, ?_⟩
  cases h2 : signD b with
  | false => exact iteT (iteT (no (fun k' x y t ea eb _ _ => by subst eb; unfold pieceN; rw [show isSign x = false from h2, Bool.false_and, Bool.and_false]) _ (Same.refl _)))
  | true =>
  refine iteF ?_
  obtain ⟨x, rfl, rfl, sx⟩ := sgn db h2
  refine ⟨_, rfl, vc, c, N, rfl, dc, _, rfl, ?_⟩
  cases h3 : signD c with
  | false => exact iteT (iteT (no (fun k' x' y t ea eb ec _ => by subst ec; unfold pieceN; rw [show isSign y = false from h3, Bool.false_and, Bool.and_false, Bool.and_false]) _ (Same.refl _)))
  | true =>
  refine iteF ?_
  obtain ⟨y, rfl, rfl, sy⟩ := sgn dc h3
  refine ⟨_, rfl, ve, e, N, 1, rfl, de, _, rfl, ?_⟩
  cases h4 : fromD 1 e with
  | false => exact iteT (no (fun k' x' y' t ea eb ec ee => by subst ee; unfold pieceN; rw [show decide (1 ≤ t) = false from h4, Bool.false_and, Bool.and_false, Bool.and_false, Bool.and_false]) _ (Same.refl _))
  | true =>
  refine iteF ?_
  obtain ⟨t, rfl, rfl, t1⟩ : ∃ t : Int, e = .int t ∧ ve = .int t ∧ 1 ≤ t := by
    cases de with
    | int z => exact ⟨z, rfl, rfl, of_decide_eq_true h4⟩
    | non => cases h4
    | bl b => cases h4
    | str x => cases h4
    | lst _ _ _ => cases h4
    | tup _ _ _ => cases h4
    | dict _ _ _ _ => cases h4
  dsimp only [tNext]
  obtain ⟨x4, x0, _⟩ := isSign_le sx
  obtain ⟨y4, y0, _⟩ := isSign_le sy
  have t19 : t.natAbs < 2 ^ 1900 := hb _ t rfl (by simp)
  have mxy : CMulW x y := mul8 (Nat.lt_of_le_of_lt x4 (by decide)) (Nat.lt_of_le_of_lt y4 (by decide))
  have mx : ((if x * y < 0 then -(x * y) else x * y) : Int) = ((x * y).natAbs : Int) := by split <;> omega
  have lxy : (x * y).natAbs ≤ 160000 := by
    rw [Int.natAbs_mul]
    exact Nat.mul_le_mul x4 y4
  have e0 : pieceD (.tuple [.str (Str.ofString "sum"), .int k, .int x, .int y, .int t]) = (decide (decide (0 < x * y) = decide (k % 2 = 0)) && (decide ((x * y).natAbs * t.toNat ≤ 400) && (if k = 1 then decide (x < y) else (decide (2 ≤ t) || !isPl k.toNat x y)))) := by
    show (decide (Str.ofString "sum" = Str.ofString "sum") && pieceN k x y t) = _
    rw [decide_eq_true (rfl : Str.ofString "sum" = Str.ofString "sum"), Bool.true_and]
    unfold pieceN
    rw [bk, sx, sy, decide_eq_true t1]
    rfl
  rw [e0] at q
  refine ⟨_, rfl, _, rfl, _, _, rfl, rfl, mxy, _, _, rfl, rfl, _, rfl, _, _, rfl, rfl, (by show (0 : Int) < 2; decide), rfl, ?_⟩
  have e2 : decide (V.int (k % 2) = V.int 0) = decide (k % 2 = 0) := decide_eq_decide.mpr ⟨fun z => V.int.inj z, fun z => congrArg V.int z⟩
  have e3 : (!decide (V.bl (decide (0 < x * y)) = V.bl (decide (V.int (k % 2) = V.int 0)))) = !decide (decide (0 < x * y) = decide (k % 2 = 0)) := by
    rw [e2]
    congr 1
    exact decide_eq_decide.mpr ⟨fun z => V.bl.inj z, fun z => congrArg V.bl z⟩
  refine ⟨rfl, _, rfl, ?_⟩
  rw [show (!decide (V.bl (decide (0 < x * y)) = V.bl (decide (V.int (k % 2) = V.int 0)))) = _ from e3]
  by_cases hp : decide (0 < x * y) = decide (k % 2 = 0)
  case neg =>
    rw [decide_eq_false hp, Bool.false_and] at q
    rw [decide_eq_false hp]
    exact iteT (iteT (q _ (Same.refl _)))
  rw [decide_eq_true hp, Bool.true_and] at q
  rw [decide_eq_true hp]
  refine iteF ?_
  refine ⟨_, rfl, _, rfl, _, _, rfl, rfl, mxy, _, rfl, _, rfl, _, _, rfl, rfl, ?_, ?_⟩
  · rw [mx]
    exact wide_mul (a := 30) (b := 1900) (by rw [Int.natAbs_natCast]; exact Nat.lt_of_le_of_lt lxy (by decide)) t19 (by decide) (by decide) (by decide)
  have et : ((x * y).natAbs : Int) * t = (((x * y).natAbs * t.toNat : Nat) : Int) := by rw [Int.natCast_mul, Int.toNat_of_nonneg (by omega)]
  refine ⟨_, _, rfl, rfl, _, rfl, ?_⟩
  rw [mx, et]
  by_cases hl : (x * y).natAbs * t.toNat ≤ 400
  case neg =>
    rw [decide_eq_false hl, Bool.false_and] at q
    rw [decide_eq_true (by omega)]
    exact iteT (q _ (Same.refl _))
  rw [decide_eq_true hl, Bool.true_and] at q
  rw [decide_eq_false (by omega)]
  refine iteF ?_
  dsimp only [tNext]
  refine ⟨_, rfl, rfl, _, rfl, ifI (fun e => ?_) fun e => ?_⟩
  · rw [if_pos (by omega)] at q
    exact ⟨_, rfl, _, rfl, _, _, rfl, rfl, q _ (Same.refl _)⟩
  · rw [if_neg (by omega)] at q
    dsimp only [tNext]
    refine ⟨_, rfl, _, _, rfl, rfl, _, rfl, ?_⟩
    by_cases h3 : 2 ≤ t
    · rw [decide_eq_true h3, Bool.true_or] at q
      rw [decide_eq_true h3]
      exact iteT (q _ (Same.refl _))
    · rw [decide_eq_false h3, Bool.false_or] at q
      rw [decide_eq_false h3]
      refine iteF ⟨_, rfl, .ref p, k.toNat, x, y, t.toNat, rfl, ⟨p, rfl, ?_⟩, fun H' s => ⟨_, rfl, q _ s⟩⟩
      rw [Int.toNat_of_nonneg (by omega), Int.toNat_of_nonneg (by omega)]
      exact rp
end
end Ft

set_option exponentiation.threshold 9000
namespace Ft
open PySem L2
def sqf (m : Int) : Bool := (List.range 19).all fun k => !decide (m % (((k : Int) + 2) * ((k : Int) + 2)) = 0)
def lsg (z : Int) : Bool := if z % 4 = 0 then (decide (z / 4 % 4 = 2) || decide (z / 4 % 4 = 3)) && sqf (z / 4) else decide (z % 4 = 1) && sqf z
theorem lsg_all : (List.range 801).all (fun i => decide ((i : Int) - 400 = 0) || decide (lsg ((i : Int) - 400) = isSign ((i : Int) - 400))) = true := by decide +kernel
theorem lsg_eq {z : Int} (hz : z ≠ 0) (h : z.natAbs ≤ 400) : lsg z = isSign z := by
  have c := List.all_eq_true.mp lsg_all (z + 400).toNat (List.mem_range.mpr (by omega))
  rw [show (((z + 400).toNat : Nat) : Int) - 400 = z by omega, decide_eq_false hz, Bool.false_or] at c
  exact of_decide_eq_true c
def sp_lisS : Sp := fun vs H Q _ => ∃ (z : Int), vs = [.int z] ∧ ∀ H', Same H H' → Q (.bl (isSign z)) H'
section
variable {P : Program} {w : World} {K : PySem.W.Frag} {mg : Str → Option Value} {base : Heap}
theorem ok_lisint (D : Df K mg "_law_is_integer" s__law_is_integer ["_law_thing"]) (B : Bi mg) : Cal P w K mg base 1 "_law_is_integer" sp_isIntQ := by
  obtain ⟨f, fd, F, m, b⟩ := D.ex
  have sc := sc__law_is_integer
  refine ⟨f, fd, _, F.ok sc (fun _ _ _ _ ⟨_, _, _, e, _⟩ => by rw [e]; rfl) (fun cdv A outer s H vs Q E hr h => ?_), m, F.kp, b⟩
  obtain ⟨v, d, N, rfl, hd, q⟩ := h
  refine ⟨_, (pss_one (ps_ret (pe_and (pe_callB call_isi (by rfl) B.isinstance (by decide +kernel) (pa_cons (pv 0) (pa_cons (pe_ty (n := "int") (by rfl) B.int_ (by decide +kernel)) pa_nil))) (pe_one (pe_not (pe_callB call_isi (by rfl) B.isinstance (by decide +kernel) (pa_cons (pv 0) (pa_cons (pe_ty (n := "bool") (by rfl) B.bool (by decide +kernel)) pa_nil)))))))), ?_⟩
  refine ⟨_, rfl, _, _, _, _, _, rfl, .ty _, hd.ty, kit_intD d, _, rfl, ?_⟩
  cases hi : (isIntD d || isBoolD d) with
  | false =>
    rw [(Bool.or_eq_false_iff.mp hi).1] at q
    exact iteF q
  | true =>
    refine iteT ⟨_, rfl, _, _, _, _, _, rfl, .ty _, hd.ty, kit_boolD d, _, rfl, ?_⟩
    have e : isIntD d = !isBoolD d := by cases d <;> first | rfl | cases hi
    rw [e] at q
    exact q
theorem ok_lisS (D : Df K mg "_law_is_sign" s__law_is_sign ["_law_thing"]) (B : Bi mg) (c__law_is_integer : Cal P w K mg base 1 "_law_is_integer" sp_isIntQ) : Cal P w K mg base 2 "_law_is_sign" sp_lisS := by
  obtain ⟨f, fd, F, m, b⟩ := D.ex
  have sc := sc__law_is_sign
  refine ⟨f, fd, _, F.ok sc (fun _ _ _ _ ⟨_, e, _⟩ => by rw [e]; rfl) (fun cdv A outer s H vs Q E hr h => ?_), m, F.kp, b⟩
  obtain ⟨n, rfl, q⟩ := h
  have h64 : (A.deeper (PyProof.Rows.envOfC "_law_is_sign" (defScope s__law_is_sign) s.heap.objs.size f cdv)).units + 64 < cLine := by have := hr.un; omega
  refine ⟨_, (pss_cons (ps_if (PW.pt (pw_or (pt_not (pt_val (pe_c c__law_is_integer hr (by decide) (by rfl) (pa_cons (pv 0) pa_nil)))) (pw_or (pt_cmpR op_eq (pv 0) pe_int (nomark _)) (pw_or1 (pt_not (pt_chain op_le op_le (pe_un un_neg pe_int) (pv 0) pe_int))))))
      (pss_one (ps_ret pe_bl))
      pss_nil)
      (pss_cons (ps_if (pt_cmpR op_eq (pe_op op_mod (pe_callTy call_int1 (by rfl) B.int_ (by decide +kernel) (pa_cons (pv 0) pa_nil)) pe_int) pe_int (nomark _))
      (pss_cons (ps_set (i := 1) sc.nd rfl (Or.inr rfl) (pe_op op_fdivW (pv 0) pe_int))
        (pss_one (ps_if (pt_cmpR (show OpR _ (compareOp .NotIn) (rIn K true) from op_notIn_seq) (pe_op op_mod (pe_callTy call_int1 (by rfl) B.int_ (by decide +kernel) (pa_cons (pv 1) pa_nil)) pe_int) (pe_tup (pa_cons pe_int (pa_cons pe_int pa_nil))) (by rfl))
        (pss_one (ps_ret pe_bl))
        pss_nil)))
      (pss_cons (ps_set (i := 1) sc.nd rfl (Or.inr rfl) (pv 0))
        (pss_one (ps_if (pt_cmpR op_ne (pe_op op_mod (pe_callTy call_int1 (by rfl) B.int_ (by decide +kernel) (pa_cons (pv 1) pa_nil)) pe_int) pe_int (nomark _))
        (pss_one (ps_ret pe_bl))
        pss_nil))))
      (pss_one (ps_ret (pe_cmpR (op_eqD h64) (pe_lc (own := [("_law_d", 2)]) (g := gName 2)  (by rfl) sc.nd (pi_range2 (by rfl) B.range (pa_cons pe_int (pa_cons pe_int pa_nil))) (blkOk_by (own := [("_law_d", 2)]) (N := N__law_is_sign) (sc := defScope s__law_is_sign) (by decide +kernel)) (fun _ _ _ _ _ => (pg_name (i := 2) sc.nd rfl (Or.inl rfl))) (fun _ _ _ _ _ => (pts_one (pt_cmpR op_eq (pe_op op_mod (pe_callTy call_int1 (by rfl) B.int_ (by decide +kernel) (pa_cons (pv 1) pa_nil)) (pe_op op_mulW (pv 2) (pv 2))) pe_int (nomark _)))) (fun _ _ _ _ _ => pe_int)) (pe_lst pa_nil) (nomark _)))))), ?_⟩
  have q' : ∀ b : Bool, isSign n = b → ∀ {H' : Hp}, Same H H' → Q (.bl b) H' := fun b h H' s => by
    have := q H' s
    rwa [h] at this
  clear q
  refine ⟨_, rfl, .int n, .int n, fun _ => True, rfl, .int n, _, rfl, ?_⟩
  refine iteF ⟨_, rfl, rfl, _, rfl, ifI (fun e => ?_) fun n0 => ?_⟩
  · refine q' false ?_ (Same.refl _)
    cases h : isSign n with
    | false => rfl
    | true => exact absurd e (isSign_le h).2.1
  have big : ¬ (-400 ≤ n ∧ n ≤ 400) → ∀ {H' : Hp}, Same H H' → Q (.bl false) H' := fun h H' s => by
    refine q' false ?_ s
    cases e : isSign n with
    | false => rfl
    | true => have := (isSign_le e).1; omega
  refine ⟨_, rfl, _, rfl, _, _, rfl, rfl, _, rfl, ?_⟩
  by_cases h1 : -400 ≤ n
  case neg =>
    rw [decide_eq_false h1]
    exact iteF ⟨_, rfl, iteT (big (fun h => h1 h.1) (Same.refl _))⟩
  rw [decide_eq_true h1]
  refine iteT ⟨_, _, rfl, rfl, _, rfl, ?_⟩
  by_cases h2 : n ≤ 400
  case neg =>
    rw [decide_eq_false h2]
    exact iteT (big (fun h => h2 h.2) (Same.refl _))
  rw [decide_eq_true h2]
  refine iteF ?_
  have nl : n.natAbs ≤ 400 := by omega
  have ls := lsg_eq n0 nl
  dsimp only [tNext]
  refine tSeq_join (fun σ H' => σ = [some (.int n), some (.int (if n % 4 = 0 then n / 4 else n)), none] ∧ Same H H' ∧ lsg n = sqf (if n % 4 = 0 then n / 4 else n)) (fun Nx hN => ?_) ?_
  · refine ⟨_, rfl, .inl ⟨_, rfl, _, _, rfl, rfl, (by show (0 : Int) < 4; decide), rfl, _, rfl, ifI (fun e => ?_) fun e => ?_⟩⟩
    · refine ⟨_, rfl, _, _, rfl, rfl, ⟨by decide, by decide⟩, ?_⟩
      dsimp only [gName]
      refine ⟨_, rfl, .inl ⟨_, rfl, _, _, rfl, rfl, (by show (0 : Int) < 4; decide), (by show (2 : Nat) ≤ sizeLine; decide), fun t ht => ?_⟩⟩
      have s1 := Same.upd_new (o := .tup [V.int 2, V.int 3]) ht
      have e1 : (upd H t (.tup [V.int 2, V.int 3])) t = some (.tup [V.int 2, V.int 3]) := upd_same
      generalize upd H t (.tup [V.int 2, V.int 3]) = H1 at s1 e1
      refine ⟨t, _, rfl, .inr (SqT.of e1), rfl, rfl, _, rfl, ?_⟩
      have ei : inV (V.int (n / 4 % 4)) [V.int 2, V.int 3] = (decide (n / 4 % 4 = 2) || decide (n / 4 % 4 = 3)) := by
        show ((2 == n / 4 % 4) || ((3 == n / 4 % 4) || false)) = _
        rw [Bool.or_false]
        congr 1
        · by_cases h : n / 4 % 4 = 2
          · rw [h]; rfl
          · rw [decide_eq_false h]; exact beq_eq_false_iff_ne.mpr (Ne.symm h)
        · by_cases h : n / 4 % 4 = 3
          · rw [h]; rfl
          · rw [decide_eq_false h]; exact beq_eq_false_iff_ne.mpr (Ne.symm h)
      show if (if true = true then !inV (V.int (n / 4 % 4)) [V.int 2, V.int 3] else inV (V.int (n / 4 % 4)) [V.int 2, V.int 3]) = true then _ else _
      rw [if_pos (rfl : true = true), ei]
      cases hc : (decide (n / 4 % 4 = 2) || decide (n / 4 % 4 = 3)) with
      | false =>
        refine iteT (q' false ?_ s1)
        rw [← ls]
        unfold lsg
        rw [if_pos e, hc]
        rfl
      | true => exact iteF (hN _ _ ⟨by rw [if_pos e]; rfl, s1, by unfold lsg; rw [if_pos e, if_pos e, hc]; rfl⟩)
    · refine ⟨_, rfl, ?_⟩
      dsimp only [gName]
      refine ⟨_, rfl, .inl ⟨_, rfl, _, _, rfl, rfl, (by show (0 : Int) < 4; decide), rfl, _, rfl, ifNI (fun ne => ?_) fun eq => ?_⟩⟩
      · refine q' false ?_ (Same.refl _)
        rw [← ls]
        unfold lsg
        rw [if_neg e, decide_eq_false ne]
        rfl
      · have eq : n % 4 = 1 := eq
        exact hN _ _ ⟨by rw [if_neg e]; rfl, Same.refl _, by unfold lsg; rw [if_neg e, if_neg e, decide_eq_true eq]; rfl⟩
  rintro _ H1 ⟨rfl, s1, lm⟩
  rw [ls] at lm
  unfold sqf at lm
  generalize (if n % 4 = 0 then n / 4 else n) = m at lm
  refine ⟨2, 21, rfl, ⟨by decide, by decide, by decide, by decide⟩, fun C hC => ?_⟩
  refine lc_range (lo := 2) (n := 19) (fun i H' => Same H1 H' ∧ ∃ acc : List Int, H' C = some (.lst (acc.map V.int)) ∧ acc.length ≤ i ∧ acc.isEmpty = ((List.range i).all fun k => !decide (m % (((k : Int) + 2) * ((k : Int) + 2)) = 0))) ⟨Same.upd_new hC, [], upd_same, Nat.le_refl _, rfl⟩ ?_ ?_
  · rintro i H2 hi ⟨s2, acc, h2, ha, he⟩
    have ek : (2 : Int) + (i : Int) = (i : Int) + 2 := by omega
    have bk : ((i : Int) + 2).natAbs < 2 ^ 8000 := Nat.lt_of_le_of_lt (by omega : _ ≤ 21) (by decide)
    have kp : (0 : Int) < ((i : Int) + 2) * ((i : Int) + 2) := Int.mul_pos (by omega) (by omega)
    have sn : ((List.range (i + 1)).all fun k => !decide (m % (((k : Int) + 2) * ((k : Int) + 2)) = 0)) = (((List.range i).all fun k => !decide (m % (((k : Int) + 2) * ((k : Int) + 2)) = 0)) && !decide (m % (((i : Int) + 2) * ((i : Int) + 2)) = 0)) := by
      rw [List.range_succ, List.all_append]
      simp
    dsimp only [gName]
    rw [ek]
    refine ⟨rfl, _, rfl, .inl ⟨_, rfl, _, rfl, _, rfl, _, _, rfl, rfl, mul8 bk bk, _, _, rfl, rfl, kp, rfl, _, rfl, ifI (fun e => ?_) fun e => ?_⟩⟩
    · refine ⟨_, h2, ?_, fun b o z => ?_, acc ++ [1], ?_, ?_, ?_⟩
      · rw [List.length_map]; exact Nat.lt_of_le_of_lt (by omega : acc.length ≤ 19) (by decide)
      · rw [upd_ne (ne_of_none z hC)]
        exact s2 _ _ z
      · rw [upd_same, List.map_append]; rfl
      · rw [List.length_append]; exact Nat.add_le_add_right ha 1
      · rw [sn, decide_eq_true e, Bool.not_true, Bool.and_false]
        cases acc <;> rfl
    · exact ⟨s2, acc, h2, by omega, by rw [sn, decide_eq_false e, Bool.not_false, Bool.and_true]; exact he⟩
  rintro H2 ⟨s2, acc, h2, ha, he⟩
  refine ⟨(by show (0 : Nat) ≤ sizeLine; decide), fun D0 hD0 => ?_⟩
  have s3 := Same.upd_new (o := .lst ([] : List V)) hD0
  have e3 : (upd H2 D0 (.lst [])) D0 = some (.lst ([] : List V)) := upd_same
  generalize upd H2 D0 (.lst []) = H3 at s3 e3
  refine ⟨_, _, .lst (SqL.of (s3 _ _ h2)) (dp_ints acc), .lst (SqL.of e3) .nil, shaped_ints _, rfl, ?_⟩
  rw [eqv_nil, List.isEmpty_map, he, ← lm]
  exact q' _ rfl (s1.trans (s2.trans s3))
end
end Ft

set_option exponentiation.threshold 9000
namespace Ft
open PySem L2
def mid (x : Fq) : Bool := Nat.blt x.1.natAbs (2 ^ 1000) && Nat.blt x.2.natAbs (2 ^ 1000) && decide (0 < x.2)
theorem mid_of {x : Fq} (h : mid x = true) : x.1.natAbs < 2 ^ 1000 ∧ x.2.natAbs < 2 ^ 1000 ∧ 0 < x.2 := by
  unfold mid at h
  simp only [Bool.and_eq_true, decide_eq_true_eq, Nat.blt_eq] at h
  exact ⟨h.1.1, h.1.2, h.2⟩
def lin (k : Nat) : Nat → List Fq → Fq → Option Fq
  | _, [], t => some t
  | i, p :: ps, t => if mid t = true then lin k (i + 1) ps (low (t.1 * p.2 + comb (k + 1) i * p.1 * t.2) (t.2 * p.2)) else none
def chkP (k : Nat) : Bool := match plainTo k with
  | some l => match lin (k + 1) 0 l (0, 1) with
    | some t => mid t && decide (plainTo (k + 1) = some (l ++ [low (-t.1) (t.2 * ((k : Int) + 2))]))
    | none => false
  | none => false
theorem chkP_all : (List.range 24).all chkP = true := by decide +kernel
theorem chkP_of {k : Nat} (h : k < 24) {l : List Fq} (hl : plainTo k = some l) : ∃ t, lin (k + 1) 0 l (0, 1) = some t ∧ mid t = true ∧ plainTo (k + 1) = some (l ++ [low (-t.1) (t.2 * ((k : Int) + 2))]) := by
  have c := List.all_eq_true.mp chkP_all k (List.mem_range.mpr h)
  unfold chkP at c
  rw [hl] at c
  dsimp only at c
  split at c
  · rename_i t e
    rw [Bool.and_eq_true] at c
    exact ⟨t, e, c.1, of_decide_eq_true c.2⟩
  · cases c
theorem lin_step {k i : Nat} {p : Fq} {ps : List Fq} {t R : Fq} (h : lin k i (p :: ps) t = some R) : mid t = true ∧ lin k (i + 1) ps (low (t.1 * p.2 + comb (k + 1) i * p.1 * t.2) (t.2 * p.2)) = some R := by
  unfold lin at h
  split at h
  · exact ⟨by assumption, h⟩
  · cases h
theorem mulB {a b : Nat} {i j : Int} (h1 : i.natAbs < 2 ^ a) (h2 : j.natAbs < 2 ^ b) (ha : a ≤ 8000 := by decide) (hb : b ≤ 8000 := by decide) : CMulW i j := mul8 (Nat.lt_of_lt_of_le h1 (Nat.pow_le_pow_right (by decide) ha)) (Nat.lt_of_lt_of_le h2 (Nat.pow_le_pow_right (by decide) hb))
theorem absMul {a b : Nat} {i j : Int} (h1 : i.natAbs < 2 ^ a) (h2 : j.natAbs < 2 ^ b) : (i * j).natAbs < 2 ^ (a + b) := by
  rw [Int.natAbs_mul, Nat.pow_add]
  exact Nat.mul_lt_mul'' h1 h2
def rws (s : Int) (m e : Nat) : List Int := (List.range m).map fun j => valueAt s ((j + 1 : Nat) : Int) * (((j + 1) ^ e : Nat) : Int)
theorem rws_len (s : Int) (m e : Nat) : (rws s m e).length = m := by unfold rws; rw [List.length_map, List.length_range]
theorem rws_sum (s : Int) (e : Nat) : (rws s s.natAbs e).sum = psum s e := by
  unfold psum rws
  generalize s.natAbs = n
  induction n with
  | zero => rfl
  | succ n ih =>
    rw [List.range_succ, List.map_append, List.sum_append, ih]
    show psumTo s e n + (valueAt s ((n + 1 : Nat) : Int) * (((n + 1) ^ e : Nat) : Int) + 0) = psumTo s e n + valueAt s (1 + (n : Int)) * (((1 + n) ^ e : Nat) : Int)
    rw [Int.add_zero, show ((n + 1 : Nat) : Int) = 1 + (n : Int) by omega, Nat.add_comm n 1]
end Ft

set_option exponentiation.threshold 9000
namespace Ft
open PySem L2
theorem abs_ifN (z : Int) : (if z < 0 then -z else z) = (z.natAbs : Int) := by split <;> omega
def sp_gcd : Sp := fun vs H Q _ => ∃ a b : Int, vs = [.int a, .int b] ∧ Q (.int ((Nat.gcd a.natAbs b.natAbs : Nat) : Int)) H
def sp_pow : Sp := fun vs H Q _ => ∃ x k : Nat, vs = [.int (x : Int), .int (k : Int)] ∧ 1 ≤ x ∧ x ≤ 100000 ∧ k ≤ 24 ∧ Q (.int ((x ^ k : Nat) : Int)) H
/-- an integer without the squares of the numbers from 2 on, as the law takes them out -/
def sqI (d : Int) : Nat → Int → Int
  | 0, z => z
  | f + 1, z => if z % (d * d) = 0 then sqI d f (z / (d * d)) else z
def sqA (z : Int) : Nat → Int
  | 0 => z
  | i + 1 => sqI ((2 : Int) + (i : Int)) 20 (sqA z i)
def lawSgnOf (z : Int) : Int := if sqA z 398 % 4 = 1 then sqA z 398 else 4 * sqA z 398
theorem sqI_half {d : Int} (hd : 2 ≤ d) {z : Int} (hz : z ≠ 0) (hm : z % (d * d) = 0) : z / (d * d) ≠ 0 ∧ 2 * (z / (d * d)).natAbs ≤ z.natAbs := by
  have p : 4 ≤ d * d := by have := Int.mul_le_mul hd hd (by decide) (by omega); omega
  obtain ⟨c, rfl⟩ := Int.dvd_of_emod_eq_zero hm
  rw [Int.mul_ediv_cancel_left _ (by omega)]
  refine ⟨fun e => hz (by rw [e, Int.mul_zero]), ?_⟩
  rw [Int.natAbs_mul]
  exact Nat.mul_le_mul_right _ (by omega)
theorem sqI_stop {d : Int} {f : Nat} {z : Int} (h : ¬ z % (d * d) = 0) : sqI d f z = z := by
  cases f with
  | zero => rfl
  | succ f => exact if_neg h
theorem sqI_ok {d : Int} (hd : 2 ≤ d) : ∀ (f : Nat) {z : Int}, z ≠ 0 → sqI d f z ≠ 0 ∧ (sqI d f z).natAbs ≤ z.natAbs
  | 0, z, hz => ⟨hz, Nat.le_refl _⟩
  | f + 1, z, hz => by
    show (if z % (d * d) = 0 then sqI d f (z / (d * d)) else z) ≠ 0 ∧ (if z % (d * d) = 0 then sqI d f (z / (d * d)) else z).natAbs ≤ z.natAbs
    split
    · rename_i h
      obtain ⟨a, b⟩ := sqI_half hd hz h
      obtain ⟨c, e⟩ := sqI_ok hd f a
      exact ⟨c, by omega⟩
    · exact ⟨hz, Nat.le_refl _⟩
theorem sqA_ok {z : Int} (hz : z ≠ 0) : ∀ i, sqA z i ≠ 0 ∧ (sqA z i).natAbs ≤ z.natAbs
  | 0 => ⟨hz, Nat.le_refl _⟩
  | i + 1 => by
    obtain ⟨a, b⟩ := sqA_ok hz i
    obtain ⟨c, e⟩ := sqI_ok (d := (2 : Int) + (i : Int)) (by omega) 20 a
    exact ⟨c, Nat.le_trans e b⟩
def sp_sgnOf : Sp := fun vs H Q _ => ∃ z : Int, vs = [.int z] ∧ z ≠ 0 ∧ z.natAbs < 1048576 ∧ Q (.int (lawSgnOf z)) H
section
variable {P : Program} {w : World} {K : PySem.W.Frag} {mg : Str → Option Value} {base : Heap}
theorem ok_gcd (D : Df K mg "_law_gcd" s__law_gcd ["_law_one", "_law_other_here"]) (B : Bi mg)  : Cal P w K mg base 1 "_law_gcd" sp_gcd := by
  obtain ⟨f, fd, F, m, b⟩ := D.ex
  have sc := sc__law_gcd
  refine ⟨f, fd, _, F.ok sc (fun _ _ _ _ ⟨_, _, e, _⟩ => by rw [e]; rfl) (fun cdv A outer s H vs Q E hr h => ?_), m, F.kp, b⟩
  obtain ⟨x, y, rfl, q⟩ := h
  refine ⟨_, (pss_cons (ps_par (i := 0) (j := 1) (by rfl) sc.nd rfl rfl (by decide) rfl rfl (pa_cons (pe_callB call_abs (by rfl) B.abs (by decide +kernel) (pa_cons (pv 0) pa_nil)) (pa_cons (pe_callB call_abs (by rfl) B.abs (by decide +kernel) (pa_cons (pv 1) pa_nil)) pa_nil)) (by rfl))
      (pss_cons (ps_while PassesOwn.never (pt_cmpR op_ne (pv 1) pe_int (nomark _))
      (pss_one (ps_par (i := 0) (j := 1) (by rfl) sc.nd rfl rfl (by decide) rfl rfl (pa_cons (pv 1) (pa_cons (pe_op op_mod (pe_callTy call_int1 (by rfl) B.int_ (by decide +kernel) (pa_cons (pv 0) pa_nil)) (pv 1)) pa_nil)) (by rfl))))
      (pss_one (ps_ret (pv 0))))), ?_⟩
  refine ⟨_, rfl, x, rfl, _, rfl, y, rfl, _, _, rfl, ?_⟩
  refine while_go (fun σ H' => H = H' ∧ ∃ a b : Nat, σ = [some (.int (a : Nat)), some (.int (b : Nat))] ∧ Nat.gcd a b = Nat.gcd x.natAbs y.natAbs) (fun σ _ => m0 1 σ)
    ⟨rfl, x.natAbs, y.natAbs, by show [some (V.int (if x < 0 then -x else x)), some (V.int (if y < 0 then -y else y))] = _; rw [abs_ifN, abs_ifN], rfl⟩ ?_
  rintro σ _ ⟨rfl, a, b, rfl, hg⟩
  refine ⟨_, rfl, rfl, _, rfl, ifNI (fun hne => ?_) fun he => ?_⟩
  · have hb : 0 < b := by omega
    refine ⟨fun σ' H' => H = H' ∧ ∃ a' b' : Nat, σ' = [some (.int (a' : Nat)), some (.int (b' : Nat))] ∧ Nat.gcd a' b' = Nat.gcd x.natAbs y.natAbs ∧ b' < b, ?_, ?_⟩
    · rintro σ' _ ⟨rfl, a', b', rfl, h1, h2⟩
      exact ⟨_, (by show ((b' : Int)).toNat < ((b : Int)).toNat; omega), rfl, rfl, a', b', rfl, h1⟩
    refine ⟨_, rfl, _, rfl, .inl ⟨_, rfl, _, rfl, _, _, rfl, rfl, (by show (0 : Int) < (b : Int); omega), _, _, rfl, ?_⟩⟩
    refine ⟨rfl, b, a % b, rfl, ?_, Nat.mod_lt _ hb⟩
    rw [← hg, Nat.gcd_comm b, ← Nat.gcd_rec, Nat.gcd_comm]
  · have hb : b = 0 := by omega
    subst hb
    rw [Nat.gcd_zero_right] at hg
    refine ⟨_, rfl, ?_⟩
    rw [hg]
    exact q
theorem ok_pow (D : Df K mg "_law_power" s__law_power ["_law_base", "_law_often"]) (B : Bi mg) : Cal P w K mg base 1 "_law_power" sp_pow := by
  obtain ⟨f, fd, F, m, b⟩ := D.ex
  have sc := sc__law_power
  refine ⟨f, fd, _, F.ok sc (fun _ _ _ _ ⟨_, _, e, _⟩ => by rw [e]; rfl) (fun cdv A outer s H vs Q E hr h => ?_), m, F.kp, b⟩
  obtain ⟨x, k, rfl, x1, x5, k24, q⟩ := h
  refine ⟨_, (pss_cons (ps_set (i := 2) sc.nd rfl (Or.inl rfl) pe_int)
      (pss_cons (ps_for PassesOwn.never rfl (pi_range1 rfl B.range (pa_cons (pv 1) pa_nil)) (pg_name (i := 3) sc.nd rfl (Or.inl rfl))
      (pss_one (ps_set (i := 2) sc.nd rfl (Or.inl rfl) (pe_op op_mulW (pv 2) (pv 0)))))
      (pss_one (ps_ret (pv 2))))), ?_⟩
  refine ⟨_, rfl, (k : Int), rfl, by omega, by omega, for_range (lo := 0) (n := ((k : Int)).toNat) (fun i σ H' => H = H' ∧ ∃ o : Option V, σ = [some (.int (x : Int)), some (.int (k : Int)), some (.int ((x ^ i : Nat) : Int)), o]) ⟨rfl, none, rfl⟩ ?_ ?_⟩
  · rintro i σ _ hi ⟨rfl, o, rfl⟩
    have hi : i < k := by omega
    have xi := pow_100k x5 (show i ≤ 24 by omega)
    refine ⟨_, rfl, _, rfl, _, _, rfl, rfl, mul8 (by rw [Int.natAbs_natCast]; exact Nat.lt_of_le_of_lt xi (Nat.pow_lt_pow_right (by decide) (by decide))) (by rw [Int.natAbs_natCast]; exact Nat.lt_of_le_of_lt x5 (by decide)), rfl, some (.int (0 + (i : Int))), ?_⟩
    rw [Nat.pow_succ, Int.natCast_mul]
    rfl
  · rintro σ _ ⟨rfl, o, rfl⟩
    rw [Int.toNat_natCast]
    exact ⟨_, rfl, q⟩
theorem ok_sgnOf (D : Df K mg "_law_sign_of" s__law_sign_of ["_law_m"]) (B : Bi mg) : Cal P w K mg base 1 "_law_sign_of" sp_sgnOf := by
  obtain ⟨f, fd, F, m, b⟩ := D.ex
  have sc := sc__law_sign_of
  refine ⟨f, fd, _, F.ok sc (fun _ _ _ _ ⟨_, e, _⟩ => by rw [e]; rfl) (fun cdv A outer s H vs Q E hr h => ?_), m, F.kp, b⟩
  obtain ⟨z, rfl, z0, zl, q⟩ := h
  refine ⟨_, (pss_cons (ps_set (i := 1) sc.nd rfl (Or.inl rfl) (pv 0))
      (pss_cons (ps_for PassesOwn.never rfl (pi_range2 (by rfl) B.range (pa_cons pe_int (pa_cons pe_int pa_nil))) (pg_name (i := 2) sc.nd rfl (Or.inl rfl))
      (pss_one (ps_while PassesOwn.never (pt_cmpR op_eq (pe_op op_mod (pe_callTy call_int1 (by rfl) B.int_ (by decide +kernel) (pa_cons (pv 1) pa_nil)) (pe_op op_mulW (pv 2) (pv 2))) pe_int (nomark _))
        (pss_one (ps_set (i := 1) sc.nd rfl (Or.inl rfl) (pe_op op_fdivW (pv 1) (pe_op op_mulW (pv 2) (pv 2))))))))
      (pss_one (ps_ret (pe_ifExp (pt_cmpR op_eq (pe_op op_mod (pe_callTy call_int1 (by rfl) B.int_ (by decide +kernel) (pa_cons (pv 1) pa_nil)) pe_int) pe_int (nomark _)) (pv 1) (pe_op op_mulW pe_int (pv 1))))))), ?_⟩
  refine ⟨_, rfl, ?_⟩
  dsimp only [gName]
  refine ⟨2, 400, rfl, by decide, for_range (lo := 2) (n := 398) (fun i σ H' => H = H' ∧ ∃ o : Option V, σ = [some (.int z), some (.int (sqA z i)), o]) ⟨rfl, none, rfl⟩ ?_ ?_⟩
  · rintro i σ _ hi ⟨rfl, o, rfl⟩
    obtain ⟨a0, al⟩ := sqA_ok z0 i
    have d2 : (2 : Int) ≤ 2 + (i : Int) := by omega
    have dl : ((2 : Int) + (i : Int)).natAbs ≤ 400 := by omega
    have e1 : sqA z (i + 1) = sqI ((2 : Int) + (i : Int)) 20 (sqA z i) := rfl
    rw [e1]
    generalize sqA z i = y at a0 al
    generalize (2 : Int) + (i : Int) = dd at d2 dl
    have mdd : CMulW dd dd := mul8 (Nat.lt_of_le_of_lt dl (by decide)) (Nat.lt_of_le_of_lt dl (by decide))
    have ddp : 0 < dd * dd := Int.mul_pos (by omega) (by omega)
    dsimp only [gName]
    refine while_go (fun σ H' => H = H' ∧ ∃ (f : Nat) (w : Int), σ = [some (.int z), some (.int w), some (.int dd)] ∧ w ≠ 0 ∧ w.natAbs < 2 ^ f ∧ w.natAbs ≤ z.natAbs ∧ sqI dd f w = sqI dd 20 y) (fun σ _ => match σ with | [_, some (.int x), _] => x.natAbs | _ => 0) ⟨rfl, 20, y, rfl, a0, by omega, al, rfl⟩ ?_
    rintro σ _ ⟨rfl, f, w, rfl, w0, wf, wz, es⟩
    refine ⟨_, rfl, .inl ⟨_, rfl, _, rfl, _, rfl, _, _, rfl, rfl, mdd, _, _, rfl, rfl, ddp, rfl, _, rfl, ifI (fun e => ?_) fun e => ?_⟩⟩
    · obtain ⟨n0, nh⟩ := sqI_half d2 w0 e
      obtain ⟨g, rfl⟩ : ∃ g, f = g + 1 := by
        cases f with
        | zero => rw [Nat.pow_zero] at wf; omega
        | succ g => exact ⟨g, rfl⟩
      rw [Nat.pow_succ] at wf
      have es' : sqI dd g (w / (dd * dd)) = sqI dd 20 y := by rw [← es]; exact (if_pos e).symm
      refine ⟨fun σ' H' => H = H' ∧ ∃ v : Int, v = w / (dd * dd) ∧ σ' = [some (.int z), some (.int v), some (.int dd)], ?_, ?_⟩
      · rintro σ' _ ⟨rfl, v, rfl, rfl⟩
        exact ⟨_, (by show (w / (dd * dd)).natAbs < w.natAbs; omega), rfl, rfl, g, _, rfl, n0, by omega, by omega, es'⟩
      · have ddl : (dd * dd).natAbs ≤ 160000 := by rw [Int.natAbs_mul]; exact Nat.mul_le_mul dl dl
        refine ⟨_, rfl, _, rfl, _, rfl, _, _, rfl, rfl, mdd, _, _, rfl, rfl, ?_, rfl, _, rfl, rfl⟩
        exact wide_div (b := 64) (by omega) (by omega) (by decide) (by decide)
    · rw [sqI_stop e] at es
      exact ⟨rfl, some (.int dd), by rw [← es]⟩
  · rintro σ _ ⟨rfl, o, rfl⟩
    have e0 : lawSgnOf z = if sqA z 398 % 4 = 1 then sqA z 398 else 4 * sqA z 398 := rfl
    obtain ⟨a0, al⟩ := sqA_ok z0 398
    generalize sqA z 398 = y at e0 a0 al
    dsimp only
    refine ⟨_, rfl, .inl ⟨_, rfl, _, _, rfl, rfl, (by show (0 : Int) < 4; decide), rfl, _, rfl, ifI (fun e => ?_) fun e => ?_⟩⟩
    · rw [if_pos e] at e0
      refine ⟨_, rfl, ?_⟩
      rw [← e0]
      exact q
    · rw [if_neg e] at e0
      refine ⟨_, rfl, _, _, rfl, rfl, mul8 (by decide) (Nat.lt_of_le_of_lt (by omega : _ ≤ 1048576) (by decide)), ?_⟩
      rw [e0] at q
      exact q
end
end Ft

set_option exponentiation.threshold 9000
namespace Ft
open PySem L2
/-! ### the law's own numbers -/
def sp_lowest : Sp := fun vs H Q _ => ∃ a b : Int, vs = [.int a, .int b] ∧ 0 < b ∧ b.natAbs < 2 ^ 8000 ∧ ∀ H' v, Same H H' → Fr H' v (low a b) → Q v H'
def choL (n : Nat) : Nat → Int
  | 0 => 1
  | i + 1 => choL n i * ((n : Int) - (i : Int)) / ((i : Int) + 1)
theorem cho_all : (List.range 26).all (fun n => (List.range 26).all fun k => decide (choL n k = comb n k) && Nat.blt (choL n k).natAbs (2 ^ 64)) = true := by decide +kernel
theorem cho_of {n k : Nat} (hn : n ≤ 25) (hk : k ≤ 25) : choL n k = comb n k ∧ (choL n k).natAbs < 2 ^ 64 := by
  have c := List.all_eq_true.mp (List.all_eq_true.mp cho_all n (List.mem_range.mpr (by omega))) k (List.mem_range.mpr (by omega))
  rw [Bool.and_eq_true, Nat.blt_eq] at c
  exact ⟨of_decide_eq_true c.1, c.2⟩
def sp_choose : Sp := fun vs H Q _ => ∃ n k : Nat, vs = [.int (n : Int), .int (k : Int)] ∧ n ≤ 25 ∧ k ≤ 25 ∧ Q (.int (comb n k)) H
section
variable {P : Program} {w : World} {K : PySem.W.Frag} {mg : Str → Option Value} {base : Heap}
theorem ok_lowest (D : Df K mg "_law_lowest" s__law_lowest ["_law_top", "_law_bottom"]) (B : Bi mg) (c__law_gcd : Cal P w K mg base 1 "_law_gcd" sp_gcd) : Cal P w K mg base 2 "_law_lowest" sp_lowest := by
  obtain ⟨f, fd, F, m, b⟩ := D.ex
  have sc := sc__law_lowest
  refine ⟨f, fd, _, F.ok sc (fun _ _ _ _ ⟨_, _, e, _⟩ => by rw [e]; rfl) (fun cdv A outer s H vs Q E hr h => ?_), m, F.kp, b⟩
  obtain ⟨a, b, rfl, b0, b8, q⟩ := h
  refine ⟨_, (pss_cons (ps_set (i := 2) sc.nd rfl (Or.inl rfl) (pe_c c__law_gcd hr (by decide) (by rfl) (pa_cons (pv 0) (pa_cons (pv 1) pa_nil))))
      (pss_cons (ps_if (pt_cmpR op_lt (pv 1) pe_int (nomark _))
      (pss_one (ps_set (i := 2) sc.nd rfl (Or.inl rfl) (pe_un un_neg (pv 2))))
      pss_nil)
      (pss_one (ps_ret (pe_tup (pa_cons (pe_op op_fdivW (pv 0) (pv 2)) (pa_cons (pe_op op_fdivW (pv 1) (pv 2)) pa_nil))))))), ?_⟩
  refine ⟨_, rfl, _, rfl, a, b, rfl, ?_⟩
  have g0 : 0 < Nat.gcd a.natAbs b.natAbs := Nat.gcd_pos_of_pos_right _ (by omega)
  have gl : Nat.gcd a.natAbs b.natAbs ≤ b.natAbs := Nat.le_of_dvd (by omega) (Nat.gcd_dvd_right _ _)
  refine ⟨_, rfl, _, _, rfl, rfl, _, rfl, ifD (fun e => absurd e (by omega)) fun _ => ?_⟩
  have cd : ∀ i : Int, CDivW i ((Nat.gcd a.natAbs b.natAbs : Nat) : Int) := fun i => wide_div (b := 8000) (by omega) (by rw [Int.natAbs_natCast]; exact Nat.lt_of_le_of_lt gl b8) (by decide) (by decide)
  refine ⟨_, rfl, _, rfl, _, _, rfl, rfl, cd a, _, rfl, _, rfl, _, _, rfl, rfl, cd b, (by show (2 : Nat) ≤ sizeLine; decide), fun p hp => q _ _ (Same.upd_new hp) ?_⟩
  exact Fr.new
theorem ok_plus (D : Df K mg "_law_plus" s__law_plus ["_law_one", "_law_other_here"]) (c__law_lowest : Cal P w K mg base 2 "_law_lowest" sp_lowest) : Cal P w K mg base 3 "_law_plus" (sp_num nsum) := by
  obtain ⟨f, fd, F, m, b⟩ := D.ex
  have sc := sc__law_plus
  refine ⟨f, fd, _, F.ok sc (fun _ _ _ _ ⟨_, _, _, _, e, _⟩ => by rw [e]; rfl) (fun cdv A outer s H vs Q E hr h => ?_), m, F.kp, b⟩
  obtain ⟨u, v, x, y, rfl, hu, hv, sx, sy, q⟩ := h
  refine ⟨_, (pss_one (ps_ret (pe_c c__law_lowest hr (by decide) (by rfl) (pa_cons (pe_op op_add (pe_op op_mulW (pe_ix (show IxR _ (rIx K) from ix_seq) (pv 0) pe_int (fun _ _ => rfl)) (pe_ix (show IxR _ (rIx K) from ix_seq) (pv 1) pe_int (fun _ _ => rfl))) (pe_op op_mulW (pe_ix (show IxR _ (rIx K) from ix_seq) (pv 1) pe_int (fun _ _ => rfl)) (pe_ix (show IxR _ (rIx K) from ix_seq) (pv 0) pe_int (fun _ _ => rfl)))) (pa_cons (pe_op op_mulW (pe_ix (show IxR _ (rIx K) from ix_seq) (pv 0) pe_int (fun _ _ => rfl)) (pe_ix (show IxR _ (rIx K) from ix_seq) (pv 1) pe_int (fun _ _ => rfl))) pa_nil))))), ?_⟩
  refine ⟨_, rfl, fr0 hu ⟨_, rfl, fr1 hv ⟨_, _, rfl, rfl, mulS sx.1 sy.2.1, ?_⟩⟩⟩
  refine ⟨_, rfl, fr0 hv ⟨_, rfl, fr1 hu ⟨_, _, rfl, rfl, mulS sy.1 sx.2.1, ?_⟩⟩⟩
  refine ⟨_, _, rfl, rfl, ?_⟩
  refine ⟨_, rfl, fr1 hu ⟨_, rfl, fr1 hv ⟨_, _, rfl, rfl, mulS sx.2.1 sy.2.1, ?_⟩⟩⟩
  exact ⟨_, _, rfl, Int.mul_pos sx.2.2 sy.2.2, Nat.lt_of_lt_of_le (wide_lt sx.2.1 sy.2.1) (Nat.pow_le_pow_right (by decide) (by decide)), q⟩
theorem ok_by (D : Df K mg "_law_by" s__law_by ["_law_one", "_law_other_here"]) (c__law_lowest : Cal P w K mg base 2 "_law_lowest" sp_lowest) : Cal P w K mg base 3 "_law_by" (sp_num nprod) := by
  obtain ⟨f, fd, F, m, b⟩ := D.ex
  have sc := sc__law_by
  refine ⟨f, fd, _, F.ok sc (fun _ _ _ _ ⟨_, _, _, _, e, _⟩ => by rw [e]; rfl) (fun cdv A outer s H vs Q E hr h => ?_), m, F.kp, b⟩
  obtain ⟨u, v, x, y, rfl, hu, hv, sx, sy, q⟩ := h
  refine ⟨_, (pss_one (ps_ret (pe_c c__law_lowest hr (by decide) (by rfl) (pa_cons (pe_op op_mulW (pe_ix (show IxR _ (rIx K) from ix_seq) (pv 0) pe_int (fun _ _ => rfl)) (pe_ix (show IxR _ (rIx K) from ix_seq) (pv 1) pe_int (fun _ _ => rfl))) (pa_cons (pe_op op_mulW (pe_ix (show IxR _ (rIx K) from ix_seq) (pv 0) pe_int (fun _ _ => rfl)) (pe_ix (show IxR _ (rIx K) from ix_seq) (pv 1) pe_int (fun _ _ => rfl))) pa_nil))))), ?_⟩
  refine ⟨_, rfl, fr0 hu ⟨_, rfl, fr0 hv ⟨_, _, rfl, rfl, mulS sx.1 sy.1, ?_⟩⟩⟩
  refine ⟨_, rfl, fr1 hu ⟨_, rfl, fr1 hv ⟨_, _, rfl, rfl, mulS sx.2.1 sy.2.1, ?_⟩⟩⟩
  exact ⟨_, _, rfl, Int.mul_pos sx.2.2 sy.2.2, Nat.lt_of_lt_of_le (wide_lt sx.2.1 sy.2.1) (Nat.pow_le_pow_right (by decide) (by decide)), q⟩
theorem ok_choose (D : Df K mg "_law_choose" s__law_choose ["_law_n", "_law_k"]) (B : Bi mg) : Cal P w K mg base 1 "_law_choose" sp_choose := by
  obtain ⟨f, fd, F, m, b⟩ := D.ex
  have sc := sc__law_choose
  refine ⟨f, fd, _, F.ok sc (fun _ _ _ _ ⟨_, _, e, _⟩ => by rw [e]; rfl) (fun cdv A outer s H vs Q E hr h => ?_), m, F.kp, b⟩
  obtain ⟨n, k, rfl, n25, k25, q⟩ := h
  refine ⟨_, (pss_cons (ps_set (i := 2) sc.nd rfl (Or.inl rfl) pe_int)
      (pss_cons (ps_for PassesOwn.never rfl (pi_range1 rfl B.range (pa_cons (pv 1) pa_nil)) (pg_name (i := 3) sc.nd rfl (Or.inl rfl))
      (pss_one (ps_set (i := 2) sc.nd rfl (Or.inl rfl) (pe_op op_fdivW (pe_op op_mulW (pv 2) (pe_op op_sub (pv 0) (pv 3))) (pe_op op_add (pv 3) pe_int)))))
      (pss_one (ps_ret (pv 2))))), ?_⟩
  refine ⟨_, rfl, (k : Int), rfl, by omega, by omega, for_range (lo := 0) (n := ((k : Int)).toNat) (fun i σ H' => H = H' ∧ ∃ o : Option V, σ = [some (.int (n : Int)), some (.int (k : Int)), some (.int (choL n i)), o]) ⟨rfl, none, rfl⟩ ?_ ?_⟩
  · rintro i σ _ hi ⟨rfl, o, rfl⟩
    have hi : i < k := by omega
    have c := (cho_of n25 (show i ≤ 25 by omega)).2
    dsimp only [gName]
    rw [show (0 : Int) + (i : Int) = (i : Int) by omega]
    refine ⟨_, rfl, _, rfl, _, rfl, _, _, rfl, rfl, _, _, rfl, rfl, mul8 (Nat.lt_trans c (Nat.pow_lt_pow_right (by decide) (by decide))) (Nat.lt_of_le_of_lt (show ((n : Int) - (i : Int)).natAbs ≤ 50 by omega) (by decide)), ?_⟩
    refine ⟨_, rfl, _, _, rfl, rfl, _, _, rfl, rfl, ?_, rfl, _, rfl⟩
    exact wide_div (b := 64) (by omega) (Nat.lt_of_le_of_lt (show ((i : Int) + 1).natAbs ≤ 30 by omega) (by decide)) (by decide) (by decide)
  · rintro σ _ ⟨rfl, o, rfl⟩
    rw [Int.toNat_natCast, (cho_of n25 k25).1]
    exact ⟨_, rfl, q⟩
end
end Ft

set_option exponentiation.threshold 9000
namespace Ft
open PySem L2
/-! ### the law's own values of signs: by the least divisors -/
def pvx (s : Int) (p : Nat) : Nat → Bool
  | 0 => false
  | j + 1 => decide ((((j + 1 : Nat) : Int) * ((j + 1 : Nat) : Int) - s) % (p : Int) = 0) || pvx s p j
def pvL (s : Int) (p : Nat) : Int := if s % (p : Int) = 0 then 0 else if p = 2 then (if s % 8 = 1 then 1 else -1) else if pvx s p (p - 1) = true then 1 else -1
def dv2 (n j : Nat) : List Nat := ((List.range j).filter fun j => decide ((j + 2) * (j + 2) ≤ n) && Nat.beq (n % (j + 2)) 0).map (· + 2)
def lpL (n : Nat) : Nat := (dv2 n 19 ++ [n]).headD n
def chkW (s : Int) : Bool := decide (valueAt s ((0 : Nat) : Int) = if s = 1 then 1 else 0) && (decide (valueAt s ((1 : Nat) : Int) = 1) && (List.range (s.natAbs + 10)).all fun j => decide (pvL s (lpL (j + 2)) * valueAt s (((j + 2) / lpL (j + 2) : Nat) : Int) = valueAt s ((j + 2 : Nat) : Int)))
def chkS (s : Int) : Bool := !isSign s || chkW s
def chkWP (a : Nat) : Bool := (List.range 20).all fun i => chkS ((a + i : Nat) : Int) && chkS (-((a + i : Nat) : Int))
theorem chkW_0 : chkWP 1 = true := by decide +kernel
theorem chkW_1 : chkWP 21 = true := by decide +kernel
theorem chkW_2 : chkWP 41 = true := by decide +kernel
theorem chkW_3 : chkWP 61 = true := by decide +kernel
theorem chkW_4 : chkWP 81 = true := by decide +kernel
theorem chkW_5 : chkWP 101 = true := by decide +kernel
theorem chkW_6 : chkWP 121 = true := by decide +kernel
theorem chkW_7 : chkWP 141 = true := by decide +kernel
theorem chkW_8 : chkWP 161 = true := by decide +kernel
theorem chkW_9 : chkWP 181 = true := by decide +kernel
theorem chkW_10 : chkWP 201 = true := by decide +kernel
theorem chkW_11 : chkWP 221 = true := by decide +kernel
theorem chkW_12 : chkWP 241 = true := by decide +kernel
theorem chkW_13 : chkWP 261 = true := by decide +kernel
theorem chkW_14 : chkWP 281 = true := by decide +kernel
theorem chkW_15 : chkWP 301 = true := by decide +kernel
theorem chkW_16 : chkWP 321 = true := by decide +kernel
theorem chkW_17 : chkWP 341 = true := by decide +kernel
theorem chkW_18 : chkWP 361 = true := by decide +kernel
theorem chkW_19 : chkWP 381 = true := by decide +kernel
theorem chkW_of {s : Int} (hs : isSign s = true) (h : s.natAbs ≤ 400) (h0 : s ≠ 0) : chkW s = true := by
  have pc : ∀ {a : Nat}, chkWP a = true → a ≤ s.natAbs → s.natAbs < a + 20 → chkW s = true := fun {a} c h5 h6 => by
    have c := List.all_eq_true.mp c (s.natAbs - a) (List.mem_range.mpr (by omega))
    rw [show a + (s.natAbs - a) = s.natAbs by omega, Bool.and_eq_true] at c
    have c2 : chkS s = true := by
      rcases Int.lt_or_le s 0 with k | k
      · have := c.2
        rwa [show -((s.natAbs : Nat) : Int) = s by omega] at this
      · have := c.1
        rwa [show ((s.natAbs : Nat) : Int) = s by omega] at this
    unfold chkS at c2
    rw [hs, Bool.not_true, Bool.false_or] at c2
    exact c2
  by_cases c0 : s.natAbs < 21
  · exact pc chkW_0 (by omega) (by omega)
  by_cases c1 : s.natAbs < 41
  · exact pc chkW_1 (by omega) (by omega)
  by_cases c2 : s.natAbs < 61
  · exact pc chkW_2 (by omega) (by omega)
  by_cases c3 : s.natAbs < 81
  · exact pc chkW_3 (by omega) (by omega)
  by_cases c4 : s.natAbs < 101
  · exact pc chkW_4 (by omega) (by omega)
  by_cases c5 : s.natAbs < 121
  · exact pc chkW_5 (by omega) (by omega)
  by_cases c6 : s.natAbs < 141
  · exact pc chkW_6 (by omega) (by omega)
  by_cases c7 : s.natAbs < 161
  · exact pc chkW_7 (by omega) (by omega)
  by_cases c8 : s.natAbs < 181
  · exact pc chkW_8 (by omega) (by omega)
  by_cases c9 : s.natAbs < 201
  · exact pc chkW_9 (by omega) (by omega)
  by_cases c10 : s.natAbs < 221
  · exact pc chkW_10 (by omega) (by omega)
  by_cases c11 : s.natAbs < 241
  · exact pc chkW_11 (by omega) (by omega)
  by_cases c12 : s.natAbs < 261
  · exact pc chkW_12 (by omega) (by omega)
  by_cases c13 : s.natAbs < 281
  · exact pc chkW_13 (by omega) (by omega)
  by_cases c14 : s.natAbs < 301
  · exact pc chkW_14 (by omega) (by omega)
  by_cases c15 : s.natAbs < 321
  · exact pc chkW_15 (by omega) (by omega)
  by_cases c16 : s.natAbs < 341
  · exact pc chkW_16 (by omega) (by omega)
  by_cases c17 : s.natAbs < 361
  · exact pc chkW_17 (by omega) (by omega)
  by_cases c18 : s.natAbs < 381
  · exact pc chkW_18 (by omega) (by omega)
  by_cases c19 : s.natAbs < 401
  · exact pc chkW_19 (by omega) (by omega)
  omega
theorem chkW_at {s : Int} (hs : isSign s = true) (h : s.natAbs ≤ 400) (h0 : s ≠ 0) : valueAt s ((0 : Nat) : Int) = (if s = 1 then 1 else 0) ∧ valueAt s ((1 : Nat) : Int) = 1 ∧ ∀ n, 2 ≤ n → n ≤ s.natAbs + 11 → pvL s (lpL n) * valueAt s ((n / lpL n : Nat) : Int) = valueAt s (n : Int) := by
  have c := chkW_of hs h h0
  unfold chkW at c
  rw [Bool.and_eq_true, Bool.and_eq_true] at c
  refine ⟨of_decide_eq_true c.1, of_decide_eq_true c.2.1, fun n n2 n4 => ?_⟩
  have := of_decide_eq_true (List.all_eq_true.mp c.2.2 (n - 2) (List.mem_range.mpr (by omega)))
  rwa [show n - 2 + 2 = n by omega] at this
end Ft

set_option exponentiation.threshold 9000
namespace Ft
open PySem L2
theorem dv2_succ (n j : Nat) : dv2 n (j + 1) = dv2 n j ++ if (j + 2) * (j + 2) ≤ n ∧ n % (j + 2) = 0 then [j + 2] else [] := by
  unfold dv2
  rw [List.range_succ, List.filter_append, List.map_append]
  congr 1
  by_cases h : (j + 2) * (j + 2) ≤ n ∧ n % (j + 2) = 0
  · rw [if_pos h, List.filter_cons_of_pos (by rw [decide_eq_true h.1, h.2]; rfl)]; rfl
  · rw [if_neg h, List.filter_cons_of_neg (by
      intro z
      rw [Bool.and_eq_true] at z
      exact h ⟨of_decide_eq_true z.1, Nat.eq_of_beq_eq_true z.2⟩)]; rfl
theorem dv2_len (n j : Nat) : (dv2 n j).length ≤ j := by
  unfold dv2
  rw [List.length_map]
  exact Nat.le_trans (List.length_filter_le _ _) (by rw [List.length_range]; exact Nat.le_refl _)
theorem lpL_ok {n : Nat} (h : 2 ≤ n) : ∃ rest, dv2 n 19 ++ [n] = lpL n :: rest ∧ 2 ≤ lpL n ∧ lpL n ∣ n := by
  unfold lpL
  cases e : dv2 n 19 with
  | nil => exact ⟨[], rfl, h, Nat.dvd_refl n⟩
  | cons a l =>
    have ha : a ∈ dv2 n 19 := by rw [e]; exact List.mem_cons_self
    unfold dv2 at ha
    obtain ⟨j, hj, rfl⟩ := List.mem_map.mp ha
    have := (List.mem_filter.mp hj).2
    rw [Bool.and_eq_true] at this
    exact ⟨l ++ [n], rfl, by show 2 ≤ j + 2; omega, Nat.dvd_of_mod_eq_zero (Nat.eq_of_beq_eq_true this.2)⟩
def valsV (s : Int) (n : Nat) : List Int := (List.range n).map fun j : Nat => valueAt s (j : Int)
theorem valsV_len (s : Int) (n : Nat) : (valsV s n).length = n := by unfold valsV; rw [List.length_map, List.length_range]
theorem valsV_succ (s : Int) (n : Nat) : valsV s (n + 1) = valsV s n ++ [valueAt s (n : Int)] := by unfold valsV; rw [List.range_succ, List.map_append]; rfl
theorem valsV_at {s : Int} {n a : Nat} (h : a < n) : ((valsV s n).map V.int)[a]? = some (V.int (valueAt s (a : Int))) := by
  unfold valsV
  rw [List.getElem?_map, List.getElem?_map, List.getElem?_range h]
  rfl
def sp_pval : Sp := fun vs H Q _ => ∃ (s : Int) (p : Nat), vs = [.int s, .int (p : Int)] ∧ 2 ≤ p ∧ p ≤ 401 ∧ s.natAbs ≤ 400 ∧ ∀ H', Same H H' → Q (.int (pvL s p)) H'
def sp_lvals : Sp := fun vs H Q _ => ∃ (s : Int) (M : Nat), vs = [.int s, .int (M : Int)] ∧ isSign s = true ∧ s.natAbs ≤ 400 ∧ 2 ≤ M ∧ (M ≤ s.natAbs + 12 ∧ M ≤ 401) ∧ ∀ H' p, Same H H' → H p = none → H' p = some (.lst ((valsV s M).map V.int)) → Q (.ref p) H'
section
variable {P : Program} {w : World} {K : PySem.W.Frag} {mg : Str → Option Value} {base : Heap}
theorem ok_pval (D : Df K mg "_law_prime_value" s__law_prime_value ["_law_sign", "_law_p"]) (B : Bi mg) : Cal P w K mg base 1 "_law_prime_value" sp_pval := by
  obtain ⟨f, fd, F, m, b⟩ := D.ex
  have sc := sc__law_prime_value
  refine ⟨f, fd, _, F.ok sc (fun _ _ _ _ ⟨_, _, e, _⟩ => by rw [e]; rfl) (fun cdv A outer s0 H vs Q E hr h => ?_), m, F.kp, b⟩
  obtain ⟨s, p, rfl, p2, p4, s4, q⟩ := h
  have h64 : (A.deeper (PyProof.Rows.envOfC "_law_prime_value" (defScope s__law_prime_value) s0.heap.objs.size f cdv)).units + 64 < cLine := by have := hr.un; omega
  refine ⟨_, (pss_cons (ps_if (pt_cmpR op_eq (pe_op op_mod (pe_callTy call_int1 (by rfl) B.int_ (by decide +kernel) (pa_cons (pv 0) pa_nil)) (pv 1)) pe_int (nomark _))
      (pss_one (ps_ret pe_int))
      pss_nil)
      (pss_cons (ps_if (pt_cmpR op_eq (pv 1) pe_int (nomark _))
      (pss_one (ps_ret (pe_ifExp (pt_cmpR op_eq (pe_op op_mod (pe_callTy call_int1 (by rfl) B.int_ (by decide +kernel) (pa_cons (pv 0) pa_nil)) pe_int) pe_int (nomark _)) pe_int (pe_un un_neg pe_int))))
      pss_nil)
      (pss_one (ps_ret (pe_ifExp (pt_cmpR (op_neD h64) (pe_lc (own := [("_law_x", 2)]) (g := gName 2)  (by rfl) sc.nd (pi_range2 (by rfl) B.range (pa_cons pe_int (pa_cons (pv 1) pa_nil))) (blkOk_by (own := [("_law_x", 2)]) (N := N__law_prime_value) (sc := defScope s__law_prime_value) (by decide +kernel)) (fun _ _ _ _ _ => (pg_name (i := 2) sc.nd rfl (Or.inl rfl))) (fun _ _ _ _ _ => (pts_one (pt_cmpR op_eq (pe_op op_mod (pe_callTy call_int1 (by rfl) B.int_ (by decide +kernel) (pa_cons (pe_op op_sub (pe_op op_mulW (pv 2) (pv 2)) (pv 0)) pa_nil)) (pv 1)) pe_int (nomark _)))) (fun _ _ _ _ _ => pe_int)) (pe_lst pa_nil) (nomark _)) pe_int (pe_un un_neg pe_int)))))), ?_⟩
  unfold pvL at q
  have p0 : (0 : Int) < (p : Int) := by omega
  refine ⟨_, rfl, .inl ⟨_, rfl, _, rfl, _, _, rfl, rfl, p0, rfl, _, rfl, ifI (fun e => ?_) fun e => ?_⟩⟩
  · rw [if_pos e] at q
    exact q _ (Same.refl _)
  rw [if_neg e] at q
  refine ⟨_, rfl, rfl, _, rfl, ifI (fun e2 => ?_) fun e2 => ?_⟩
  · rw [if_pos (by omega)] at q
    refine ⟨_, rfl, .inl ⟨_, rfl, _, _, rfl, rfl, (by show (0 : Int) < 8; decide), rfl, _, rfl, ifI (fun e3 => ?_) fun e3 => ?_⟩⟩
    · rw [if_pos e3] at q
      exact q _ (Same.refl _)
    · rw [if_neg e3] at q
      exact ⟨_, rfl, q _ (Same.refl _)⟩
  rw [if_neg (by omega)] at q
  refine ⟨_, rfl, 1, (p : Int), rfl, ⟨by decide, by decide, by omega, by omega⟩, fun C hC => ?_⟩
  refine lc_range (lo := 1) (n := ((p : Int) - 1).toNat) (fun i H' => Same H H' ∧ ∃ c : Nat, c ≤ i ∧ decide (0 < c) = pvx s p i ∧ H' C = some (.lst ((List.replicate c (1 : Int)).map V.int))) ⟨Same.upd_new hC, 0, Nat.le_refl _, rfl, upd_same⟩ ?_ ?_
  · rintro i H2 hi ⟨s2, c, ci, cp, h2⟩
    have bk : ((i + 1 : Nat) : Int).natAbs < 2 ^ 8000 := Nat.lt_of_le_of_lt (by omega : _ ≤ 402) (by decide)
    dsimp only [gName]
    rw [show (1 : Int) + (i : Int) = ((i + 1 : Nat) : Int) by omega]
    refine ⟨rfl, _, rfl, _, rfl, _, _, rfl, rfl, mul8 bk bk, _, rfl, _, _, rfl, rfl, .inl ⟨_, rfl, _, rfl, _, _, rfl, rfl, p0, rfl, _, rfl, ifI (fun e3 => ?_) fun e3 => ?_⟩⟩
    · refine ⟨_, h2, ?_, fun b o z => ?_, c + 1, by omega, ?_, ?_⟩
      · rw [List.length_map, List.length_replicate]; exact Nat.lt_of_le_of_lt (by omega : c ≤ 402) (by decide)
      · rw [upd_ne (ne_of_none z hC)]
        exact s2 _ _ z
      · show _ = (decide _ || pvx s p i)
        rw [decide_eq_true e3, Bool.true_or]
        exact decide_eq_true (Nat.succ_pos _)
      · rw [upd_same, List.replicate_succ', List.map_append]
        rfl
    · refine ⟨s2, c, by omega, ?_, h2⟩
      show _ = (decide _ || pvx s p i)
      rw [decide_eq_false e3, Bool.false_or]
      exact cp
  rintro H2 ⟨s2, c, ci, cp, h2⟩
  rw [show ((p : Int) - 1).toNat = p - 1 by omega] at cp
  rw [← cp] at q
  refine ⟨(by show (0 : Nat) ≤ sizeLine; decide), fun p4 hp4 => ?_⟩
  have s4 : Same H2 (upd H2 p4 (.lst [])) := Same.upd_new hp4
  have h4 : (upd H2 p4 (.lst [])) p4 = some (.lst []) := upd_same
  generalize upd H2 p4 (.lst []) = H4 at s4 h4
  refine ⟨_, _, .lst (SqL.of (s4 _ _ h2)) (dp_ints _), .lst (SqL.of h4) .nil, shaped_ints _, by decide, _, congrArg (fun z : Bool => V.bl (!z)) (eqv_nil _), ?_⟩
  cases c with
  | zero =>
    rw [if_neg (by decide)] at q
    exact iteF ⟨_, rfl, q _ (s2.trans s4)⟩
  | succ c =>
    rw [if_pos (decide_eq_true (Nat.succ_pos c))] at q
    exact iteT (q _ (s2.trans s4))
theorem ok_lvals (D : Df K mg "_law_values" s__law_values ["_law_sign", "_law_many"]) (B : Bi mg) (c__law_prime_value : Cal P w K mg base 1 "_law_prime_value" sp_pval) : Cal P w K mg base 2 "_law_values" sp_lvals := by
  obtain ⟨f, fd, F, m, b⟩ := D.ex
  have sc := sc__law_values
  refine ⟨f, fd, _, F.ok sc (fun _ _ _ _ ⟨_, _, e, _⟩ => by rw [e]; rfl) (fun cdv A outer s0 H vs Q E hr h => ?_), m, F.kp, b⟩
  obtain ⟨s, M, rfl, hs, s64, M2, ⟨M12, M4⟩, q⟩ := h
  have hu := hu_of hr
  refine ⟨_, (pss_cons (ps_par (i := 2) (j := 3) (by rfl) sc.nd rfl rfl (by decide) rfl rfl (pa_cons (pe_lst (pa_cons (pe_ifExp (pt_cmpR op_eq (pv 0) pe_int (nomark _)) pe_int pe_int) (pa_cons pe_int pa_nil))) (pa_cons (pe_dnewK) pa_nil)) (by rfl))
      (pss_cons (ps_for PassesOwn.never rfl (pi_range2 (by rfl) B.range (pa_cons pe_int (pa_cons (pv 1) pa_nil))) (pg_name (i := 4) sc.nd rfl (Or.inr rfl))
      (pss_cons (ps_set (i := 6) sc.nd rfl (Or.inl rfl) (pe_ix (show IxR _ (rIx K) from ix_seq) (pe_op op_cat (pe_lc (own := [("_law_d", 5)]) (g := gName 5)  (by rfl) sc.nd (pi_range2 (by rfl) B.range (pa_cons pe_int (pa_cons pe_int pa_nil))) (blkOk_by (own := [("_law_d", 5)]) (N := N__law_values) (sc := defScope s__law_values) (by decide +kernel)) (fun _ _ _ _ _ => (pg_name (i := 5) sc.nd rfl (Or.inl rfl))) (fun _ _ _ _ _ => (pts_one (PW.pt (pw_and (pt_cmpR op_le (pe_op op_mulW (pv 5) (pv 5)) (pv 4) (nomark _)) (pw_and1 (pt_cmpR op_eq (pe_op op_mod (pe_callTy call_int1 (by rfl) B.int_ (by decide +kernel) (pa_cons (pv 4) pa_nil)) (pv 5)) pe_int (nomark _))))))) (fun _ _ _ _ _ => (pv 5))) (pe_lst (pa_cons (pv 4) pa_nil))) pe_int (fun _ _ => rfl)))
        (pss_cons (ps_if (pt_cmp (pc_dnotin hu (pv 6) (pv 3)))
        (pss_one (ps_dput hu (pv 3) (pv 6) (pe_c c__law_prime_value hr (by decide) (by rfl) (pa_cons (pv 0) (pa_cons (pv 6) pa_nil))) rfl))
        pss_nil)
        (pss_one (ps_expr (pe_bm PySem.F.plainAttrs_list PySem.F.slot_list_append PySem.F.type_list_append mt_append (pv 2) (pa_cons (pe_op op_mulW (pe_dget hu (pv 3) (pv 6) (fun _ _ => rfl)) (pe_ix (show IxR _ (rIx K) from ix_seq) (pv 2) (pe_op op_fdivW (pv 4) (pv 6)) (fun _ _ => rfl))) pa_nil)))))))
      (pss_one (ps_ret (pv 2))))), ?_⟩
  obtain ⟨w0, w1, wn⟩ := chkW_at hs s64 (by have := (isSign_le hs).2.1; omega)
  have v2 : valsV s 2 = [if s = 1 then 1 else 0, 1] := by
    show [valueAt s ((0 : Nat) : Int), valueAt s ((1 : Nat) : Int)] = _
    rw [w0, w1]
  refine tSeq_join (fun σ H' => Same H H' ∧ ∃ p pd : Addr, H p = none ∧ H pd = none ∧ p ≠ pd ∧ H' p = some (.lst ((valsV s 2).map V.int)) ∧ H' pd = some (.dK []) ∧ σ = [some (.int s), some (.int (M : Int)), some (.ref p), some (.ref pd), none, none, none]) (fun N hN => ?_) ?_
  · have fin : ∀ {z : Int}, z = (if s = 1 then 1 else 0) → ∀ p, H p = none → ∀ pd, (upd H p (.lst [V.int z, V.int 1])) pd = none → N [some (.int s), some (.int (M : Int)), some (.ref p), some (.ref pd), none, none, none] (upd (upd H p (.lst [V.int z, V.int 1])) pd (.dK [])) := by
      rintro z rfl p hp pd hpd
      have s1 : Same H (upd H p (.lst [V.int (if s = 1 then 1 else 0), V.int 1])) := Same.upd_new hp
      have ne : p ≠ pd := fun e => by rw [e, upd_same] at hpd; cases hpd
      refine hN _ _ ⟨s1.trans (Same.upd_new hpd), p, pd, hp, s1.free hpd, ne, ?_, upd_same, rfl⟩
      rw [upd_ne ne, upd_same, v2]
      rfl
    refine ⟨_, rfl, rfl, _, rfl, ifI (fun e => ?_) fun e => ?_⟩
    · exact ⟨(by show (2 : Nat) ≤ sizeLine; decide), fun p hp pd hpd => ⟨_, _, rfl, fin (if_pos e).symm p hp pd hpd⟩⟩
    · exact ⟨(by show (2 : Nat) ≤ sizeLine; decide), fun p hp pd hpd => ⟨_, _, rfl, fin (if_neg e).symm p hp pd hpd⟩⟩
  rintro _ H1 ⟨s1, p, pd, hp, hpd, npd, hp1, hpd1, rfl⟩
  refine ⟨_, rfl, 2, (M : Int), rfl, by omega, ?_⟩
  refine for_range (lo := 2) (n := ((M : Int) - 2).toNat) (fun i σ H' => Same H H' ∧ ∃ (kvs : List (Key × V)) (o4 o5 o6 : Option V), σ = [some (.int s), some (.int (M : Int)), some (.ref p), some (.ref pd), o4, o5, o6] ∧ H' p = some (.lst ((valsV s (i + 2)).map V.int)) ∧ H' pd = some (.dK kvs) ∧ kvs.length ≤ i ∧ ∀ (e : Nat) (v : V), valV kvs (.inl (e : Int)) = some v → v = V.int (pvL s e)) ⟨s1, [], none, none, none, rfl, hp1, hpd1, Nat.le_refl _, fun _ _ h => by cases h⟩ ?_ ?_
  · rintro i σ H2 hi ⟨s2, kvs, o4, o5, o6, rfl, hp2, hpd2, lk, vk⟩
    have hi : i + 2 < M := by omega
    dsimp only [gName]
    rw [show (2 : Int) + (i : Int) = ((i + 2 : Nat) : Int) by omega]
    obtain ⟨n, hn⟩ : ∃ n, i + 2 = n := ⟨_, rfl⟩
    rw [hn] at hp2 hi ⊢
    have hw := wn n (by omega) (by omega)
    have sn : ((n : Nat) : Int).natAbs < 2 ^ 8000 := Nat.lt_of_le_of_lt (by omega : _ ≤ 401) (by decide)
    refine ⟨2, 21, rfl, by decide, fun C hC => ?_⟩
    refine lc_range (lo := 2) (n := ((21 : Int) - 2).toNat) (fun j H' => Same H2 H' ∧ H' C = some (.lst (((dv2 n j).map fun x : Nat => (x : Int)).map V.int))) ⟨Same.upd_new hC, upd_same⟩ ?_ ?_
    · rintro j H3 hj ⟨s3, h3⟩
      dsimp only [gName]
      rw [show (2 : Int) + (j : Int) = ((j + 2 : Nat) : Int) by omega]
      have jl : j < 19 := hj
      have bk : ((j + 2 : Nat) : Int).natAbs < 2 ^ 8000 := Nat.lt_of_le_of_lt (by omega : _ ≤ 402) (by decide)
      have ej : ((j + 2 : Nat) : Int) * ((j + 2 : Nat) : Int) = (((j + 2) * (j + 2) : Nat) : Int) := (Int.natCast_mul _ _).symm
      have stay : ¬ ((j + 2) * (j + 2) ≤ n ∧ n % (j + 2) = 0) → Same H2 H3 ∧ H3 C = some (.lst (((dv2 n (j + 1)).map fun x : Nat => (x : Int)).map V.int)) := fun h => by
        rw [dv2_succ, if_neg h, List.append_nil]
        exact ⟨s3, h3⟩
      refine ⟨rfl, _, rfl, _, rfl, _, _, rfl, rfl, mul8 bk bk, _, rfl, _, _, rfl, rfl, _, rfl, ifD (fun e1 => ?_) fun e1 => stay fun z => e1 (by rw [ej]; exact Int.ofNat_le.mpr z.1)⟩
      have e1 : (j + 2) * (j + 2) ≤ n := by rw [ej] at e1; exact Int.ofNat_le.mp e1
      refine ⟨_, rfl, .inl ⟨_, rfl, _, rfl, _, _, rfl, rfl, (by show (0 : Int) < ((j + 2 : Nat) : Int); omega), rfl, _, rfl, ifI (fun e2 => ?_) fun e2 => stay fun z => e2 (congrArg Int.ofNat z.2)⟩⟩
      have e2 : n % (j + 2) = 0 := Int.ofNat.inj e2
      refine ⟨_, rfl, _, h3, ?_, fun b o z => ?_, ?_⟩
      · rw [List.length_map, List.length_map]
        exact Nat.lt_of_le_of_lt (Nat.le_trans (dv2_len n j) (by omega : j ≤ 64)) (by decide)
      · rw [upd_ne (ne_of_none z hC)]
        exact s3 _ _ z
      · rw [upd_same, dv2_succ, if_pos ⟨e1, e2⟩, List.map_append, List.map_append]
        rfl
    rintro H3 ⟨s3, h3⟩
    rw [show ((21 : Int) - 2).toNat = 19 from rfl] at h3
    obtain ⟨rest, hl, l2, ld⟩ := lpL_ok (show 2 ≤ n by omega)
    have ll := Nat.le_of_dvd (by omega) ld
    generalize lpL n = r at hw hl l2 ld ll
    refine ⟨_, rfl, (by show (1 : Nat) ≤ sizeLine; decide), fun l4 hl4 => ?_⟩
    have s4 : Same H3 (upd H3 l4 (.lst [V.int (n : Int)])) := Same.upd_new hl4
    have h4 : (upd H3 l4 (.lst [V.int (n : Int)])) l4 = some (.lst [V.int (n : Int)]) := upd_same
    generalize upd H3 l4 (.lst [V.int (n : Int)]) = H4 at s4 h4
    refine ⟨C, l4, _, _, rfl, rfl, s4 _ _ h3, h4, ?_, fun l5 hl5 => ?_⟩
    · rw [List.length_map, List.length_map]
      exact Nat.le_trans (Nat.add_le_add_right (dv2_len n 19) 1) (by decide)
    have e5 : ((dv2 n 19).map fun x : Nat => (x : Int)).map V.int ++ [V.int (n : Int)] = V.int (r : Int) :: (rest.map fun x : Nat => (x : Int)).map V.int := by
      have := congrArg (fun z : List Nat => (z.map fun x : Nat => (x : Int)).map V.int) hl
      rw [← List.map_cons, ← List.map_cons (f := fun x : Nat => (x : Int))]
      rw [← hl, List.map_append, List.map_append]
      rfl
    rw [e5]
    have s5 : Same H4 (upd H4 l5 (.lst (V.int (r : Int) :: (rest.map fun x : Nat => (x : Int)).map V.int))) := Same.upd_new hl5
    have h5 : (upd H4 l5 (.lst (V.int (r : Int) :: (rest.map fun x : Nat => (x : Int)).map V.int))) l5 = some (.lst (V.int (r : Int) :: (rest.map fun x : Nat => (x : Int)).map V.int)) := upd_same
    generalize upd H4 l5 (.lst (V.int (r : Int) :: (rest.map fun x : Nat => (x : Int)).map V.int)) = H5 at s5 h5
    have s25 := s3.trans (s4.trans s5)
    have hp5 := s25 _ _ hp2
    have hpd5 := s25 _ _ hpd2
    have s05 := s2.trans s25
    clear s25 s3 s4 s5 h3 h4 hl4 hl5 e5 hl
    refine .inl ⟨l5, _, 0, _, rfl, rfl, SqL.of h5, atI_nat (j := 0) rfl, ?_⟩
    dsimp only [gName]
    refine tSeq_join (fun σ H' => Same H H' ∧ ∃ kvs : List (Key × V), σ = [some (.int s), some (.int (M : Int)), some (.ref p), some (.ref pd), some (.int (n : Int)), o5, some (.int (r : Int))] ∧ H' p = some (.lst ((valsV s n).map V.int)) ∧ H' pd = some (.dK kvs) ∧ kvs.length ≤ i + 1 ∧ (valV kvs (.inl (r : Int)) = some (V.int (pvL s r))) ∧ ∀ (e : Nat) (v : V), valV kvs (.inl (e : Int)) = some v → v = V.int (pvL s e)) (fun N hN => ?_) ?_
    · refine ⟨_, rfl, _, rfl, pd, valV kvs (.inl (r : Int)), rfl, DGet.k (k := .inl (r : Int)) hpd5, _, rfl, ?_⟩
      cases hv : valV kvs (.inl (r : Int)) with
      | some v =>
        refine iteF ?_
        have := vk r v hv
        exact hN _ _ ⟨s05, kvs, rfl, hp5, hpd5, by omega, by rw [hv, this], vk⟩
      | none =>
        refine iteT ?_
        refine ⟨_, rfl, _, rfl, s, r, rfl, l2, by omega, by omega, fun H6 s6 => ⟨_, rfl, _, rfl, pd, _, rfl, DPut.k (k := .inl (r : Int)) (s6 _ _ hpd5) (Nat.lt_of_le_of_lt (by omega : kvs.length ≤ 400) (by decide)), ?_⟩⟩
        have pl : (putK kvs (.inl (r : Int)) (V.int (pvL s r))).length ≤ i + 1 := by
          have e : putK kvs (.inl (r : Int)) (V.int (pvL s r)) = kvs ++ [(.inl (r : Int), V.int (pvL s r))] := by
            unfold putK
            rw [if_neg (by rw [valV_any, hv]; decide)]
          rw [e, List.length_append]
          exact Nat.add_le_add_right lk 1
        refine hN _ _ ⟨fun b o z => ?_, putK kvs (.inl (r : Int)) (V.int (pvL s r)), rfl, ?_, upd_same, pl, ?_, fun e v he => ?_⟩
        · rw [upd_ne (ne_of_none z hpd)]
          exact s6 _ _ (s05 _ _ z)
        · rw [upd_ne npd]
          exact s6 _ _ hp5
        · rw [valV_put, if_pos rfl]
        · rw [valV_put] at he
          split at he
          · rename_i e2
            have : e = r := by have := Sum.inl.inj e2; omega
            rw [this]
            exact (Option.some.inj he).symm
          · exact vk e v he
    clear s05 hp5 hpd5 h5
    rintro _ H6 ⟨s6, kvs, rfl, hp6, hpd6, lk, vr, vk⟩
    have q1 : 1 ≤ n / r := Nat.div_pos ll (by omega)
    have q2 : n / r < n := Nat.div_lt_self (by omega) l2
    refine ⟨_, rfl, .inl ⟨rfl, _, SqL.of hp6⟩, _, rfl, _, rfl, pd, _, rfl, (by have g := DGet.k (k := .inl (r : Int)) hpd6; rw [vr] at g; exact g), ?_⟩
    refine ⟨_, rfl, _, rfl, _, rfl, _, _, rfl, rfl, cdivN (by omega) (by omega), ?_⟩
    refine .inl ⟨p, _, ((n / r : Nat) : Int), _, rfl, congrArg V.int (Int.natCast_ediv n r).symm, SqL.of hp6, atI_nat (valsV_at q2), ?_⟩
    have pv1 : (pvL s r).natAbs ≤ 1 := by
      unfold pvL
      split
      · decide
      · split
        · split <;> decide
        · split <;> decide
    refine ⟨_, _, rfl, rfl, mul8 (Nat.lt_of_le_of_lt pv1 (by decide)) (Nat.lt_of_le_of_lt (val_le _ _) (by decide)), ?_⟩
    refine ⟨p, _, _, rfl, rfl, hp6, ?_, fun b o z => ?_, kvs, _, _, _, rfl, ?_, ?_, lk, vk⟩
    · rw [List.length_map, valsV_len]
      exact Nat.lt_of_le_of_lt (by omega : n ≤ 401) (by decide)
    · rw [upd_ne (ne_of_none z hp)]
      exact s6 _ _ z
    · rw [upd_same, show i + 1 + 2 = n + 1 by omega, valsV_succ, List.map_append, ← hw]
      rfl
    · rw [upd_ne npd.symm]
      exact hpd6
  · rintro σ H2 ⟨s2, kvs, o4, o5, o6, rfl, hp2, hpd2, lk, vk⟩
    rw [show ((M : Int) - 2).toNat + 2 = M by omega] at hp2
    exact ⟨_, rfl, q _ p s2 hp hp2⟩
end
end Ft

set_option exponentiation.threshold 9000
namespace Ft
open PySem L2
theorem bnv_V {k : Nat} {s : Int} (hs : isSign s = true) (h : s.natAbs ≤ 400) (hk : k ≤ 24) : BernV k s (bnv k s) := by
  obtain ⟨l, x, hl, hb, bv⟩ := bern_ex hs h hk
  have e : bnv k s = x := by
    unfold bnv
    rw [hl]
    dsimp only
    rw [hb]
    rfl
  rw [e]
  exact bv
def sp_lbern : Sp := fun vs H Q _ => ∃ (k : Nat) (s : Int), vs = [.int (k : Int), .int s] ∧ k ≤ 24 ∧ isSign s = true ∧ s.natAbs ≤ 400 ∧ ∀ H' v, Same H H' → Fr H' v (bnv k s) → Q v H'
section
variable {P : Program} {w : World} {K : PySem.W.Frag} {mg : Str → Option Value} {base : Heap}
theorem ok_lsmall (D : Df K mg "_law_small_bernoulli" s__law_small_bernoulli ["_law_k"]) (B : Bi mg) (c__law_plus : Cal P w K mg base 3 "_law_plus" (sp_num nsum)) (c__law_choose : Cal P w K mg base 1 "_law_choose" sp_choose) (c__law_lowest : Cal P w K mg base 2 "_law_lowest" sp_lowest) : Cal P w K mg base 4 "_law_small_bernoulli" sp_plain := by
  obtain ⟨f, fd, F, m, b⟩ := D.ex
  have sc := sc__law_small_bernoulli
  refine ⟨f, fd, _, F.ok sc (fun _ _ _ _ ⟨_, _, e, _⟩ => by rw [e]; rfl) (fun cdv A outer s H vs Q E hr h => ?_), m, F.kp, b⟩
  obtain ⟨k, l, rfl, hk, hl, q⟩ := h
  refine ⟨_, (pss_cons (ps_set (i := 1) sc.nd rfl (Or.inl rfl) (pe_lst (pa_cons (pe_tup (pa_cons pe_int (pa_cons pe_int pa_nil))) pa_nil)))
      (pss_cons (ps_for PassesOwn.never rfl (pi_range2 (by rfl) B.range (pa_cons pe_int (pa_cons (pe_op op_add (pv 0) pe_int) pa_nil))) (pg_name (i := 2) sc.nd rfl (Or.inl rfl))
      (pss_cons (ps_set (i := 3) sc.nd rfl (Or.inl rfl) (pe_tup (pa_cons pe_int (pa_cons pe_int pa_nil))))
        (pss_cons (ps_for PassesOwn.never rfl (pi_enum (by rfl) B.enumerate (pa_cons (pv 1) pa_nil)) (pg_tup rfl (pgs_cons (pg_name (i := 4) sc.nd rfl (Or.inl rfl)) (pgs_cons (pg_name (i := 5) sc.nd rfl (Or.inl rfl)) pgs_nil)))
        (pss_one (ps_set (i := 3) sc.nd rfl (Or.inl rfl) (pe_c c__law_plus hr (by decide) (by rfl) (pa_cons (pv 3) (pa_cons (pe_tup (pa_cons (pe_op op_mulW (pe_c c__law_choose hr (by decide) (by rfl) (pa_cons (pe_op op_add (pv 2) pe_int) (pa_cons (pv 4) pa_nil))) (pe_ix (show IxR _ (rIx K) from ix_seq) (pv 5) pe_int (fun _ _ => rfl))) (pa_cons (pe_ix (show IxR _ (rIx K) from ix_seq) (pv 5) pe_int (fun _ _ => rfl)) pa_nil))) pa_nil))))))
        (pss_one (ps_expr (pe_bm PySem.F.plainAttrs_list PySem.F.slot_list_append PySem.F.type_list_append mt_append (pv 1) (pa_cons (pe_c c__law_lowest hr (by decide) (by rfl) (pa_cons (pe_un un_neg (pe_ix (show IxR _ (rIx K) from ix_seq) (pv 3) pe_int (fun _ _ => rfl))) (pa_cons (pe_op op_mulW (pe_ix (show IxR _ (rIx K) from ix_seq) (pv 3) pe_int (fun _ _ => rfl)) (pe_op op_add (pv 2) pe_int)) pa_nil))) pa_nil)))))))
      (pss_one (ps_ret (pv 1))))), ?_⟩
  refine ⟨(by show (2 : Nat) ≤ sizeLine; decide), fun p1 hp1 => ?_⟩
  have s1 : Same H (upd H p1 (.tup [V.int 1, V.int 1])) := Same.upd_new hp1
  have f1 : Fr (upd H p1 (.tup [V.int 1, V.int 1])) (.ref p1) (1, 1) := Fr.new
  generalize upd H p1 (.tup [V.int 1, V.int 1]) = H1 at s1 f1
  refine ⟨(by show (1 : Nat) ≤ sizeLine; decide), fun p hp => ?_⟩
  have s2 : Same H1 (upd H1 p (.lst [V.ref p1])) := Same.upd_new hp
  have hpl : (upd H1 p (.lst [V.ref p1])) p = some (.lst [V.ref p1]) := upd_same
  generalize upd H1 p (.lst [V.ref p1]) = H2 at s2 hpl
  have hp0 : H p = none := s1.free hp
  have s02 : Same H H2 := s1.trans s2
  refine ⟨_, rfl, _, _, rfl, rfl, 1, _, rfl, (by omega), ?_⟩
  refine for_range (lo := 1) (n := ((k : Int) + 1 - 1).toNat) (fun i σ H' => Same H H' ∧ ∃ (us : List V) (l : List Fq) (o1 o2 o3 o4 : Option V), σ = [some (.int (k : Int)), some (.ref p), o1, o2, o3, o4] ∧ H' p = some (.lst us) ∧ Frs H' us l ∧ plainTo i = some l) ⟨s02, [V.ref p1], [(1, 1)], none, none, none, none, rfl, hpl, (Frs.one f1).same s2, rfl⟩ ?_ ?_
  · rintro i σ H3 hi ⟨s3, us, l3, o1, o2, o3, o4, rfl, hp3, hf3, hl3⟩
    have hik : i < k := by omega
    obtain ⟨R, hR, mR, hl4⟩ := chkP_of (show i < 24 by omega) hl3
    obtain ⟨l3', e3, sl, sm⟩ := plain_ok (show i ≤ 24 by omega)
    obtain rfl : l3 = l3' := Option.some.inj (hl3.symm.trans e3)
    have ul := hf3.1
    have ci : (1 : Int) + (i : Int) = ((i + 1 : Nat) : Int) := by omega
    dsimp only [gName]
    rw [ci]
    refine ⟨(by show (2 : Nat) ≤ sizeLine; decide), fun p4 hp4 => ?_⟩
    have s4 : Same H3 (upd H3 p4 (.tup [V.int 0, V.int 1])) := Same.upd_new hp4
    have f4 : Fr (upd H3 p4 (.tup [V.int 0, V.int 1])) (.ref p4) (0, 1) := Fr.new
    generalize upd H3 p4 (.tup [V.int 0, V.int 1]) = H4 at s4 f4
    have hp4' := s4 _ _ hp3
    dsimp only [gName]
    refine ⟨_, rfl, p, _, rfl, SqL.of hp4', ?_⟩
    refine for_it (walk_enum (xs := us)) (fun j σ H' => Same H4 H' ∧ ∃ (v : V) (t : Fq) (o3 o4 : Option V), σ = [some (.int (k : Int)), some (.ref p), some (.int ((i + 1 : Nat) : Int)), some v, o3, o4] ∧ Fr H' v t ∧ lin (i + 1) j (l3.drop j) t = some R) ⟨Same.refl _, _, _, _, _, rfl, f4, hR⟩ (fun j σ H' _ ⟨s5, _⟩ => SqL.of (s5 _ _ hp4')) ?_ ?_
    · rintro j x σ H5 H6 hj ⟨s5, v, t, o3, o4, rfl, fv, hin⟩ ⟨T, u, y, rfl, hT, rfl, hu, hy⟩
      obtain rfl : u = V.int (j : Nat) := (Option.some.inj hu).symm
      obtain ⟨y', x, hy', hx, _, hxm, hdrop⟩ := hf3.get hj
      obtain rfl : y = y' := Option.some.inj (hy.symm.trans hy')
      have fy : Fr H3 y x := hf3.2 j y x hy' hx
      rw [hdrop] at hin
      obtain ⟨k1, k2⟩ := lin_step hin
      have fx := sm x hxm
      have tm := mid_of k1
      have s6 : Same H5 (upd H5 T (.tup [V.int (j : Nat), y])) := Same.upd_new hT
      have hTT : (upd H5 T (.tup [V.int (j : Nat), y])) T = some (.tup [V.int (j : Nat), y]) := upd_same
      generalize upd H5 T (.tup [V.int (j : Nat), y]) = H6 at s6 hTT
      have ct := comb_le (show i + 2 < 27 by omega) (show j < 27 by omega)
      have ct : (comb (i + 2) j).natAbs < 2 ^ 65 := Nat.lt_of_le_of_lt ct (by decide)
      have x1 : x.1.natAbs < 2 ^ 41 := Nat.lt_of_le_of_lt fx.1 (by decide)
      have x2 : x.2.natAbs < 2 ^ 41 := Nat.lt_of_le_of_lt fx.2.1 (by decide)
      have x3 := fx.2.2
      have fy6 := fy.same (s4.trans (s5.trans s6))
      refine ⟨T, _, rfl, SqT.of hTT, rfl, ?_⟩
      refine ⟨_, _, rfl, _, _, rfl, rfl, ?_⟩
      refine ⟨_, rfl, _, rfl, _, _, rfl, rfl, _, rfl, i + 2, j, (by show [V.int (((i + 1 : Nat) : Int) + 1), V.int (j : Int)] = _; rw [show ((i + 1 : Nat) : Int) + 1 = ((i + 2 : Nat) : Int) by omega]), by omega, by omega, ?_⟩
      refine ⟨_, rfl, fr0 fy6 ⟨_, _, rfl, rfl, mulB ct x1, ?_⟩⟩
      refine ⟨_, rfl, fr1 fy6 ⟨(by show (2 : Nat) ≤ sizeLine; decide), fun p5 hp5 => ?_⟩⟩
      have s7 : Same H6 (upd H6 p5 (.tup [V.int (comb (i + 2) j * x.1), V.int x.2])) := Same.upd_new hp5
      have f7 : Fr (upd H6 p5 (.tup [V.int (comb (i + 2) j * x.1), V.int x.2])) (.ref p5) (comb (i + 2) j * x.1, x.2) := Fr.new
      refine ⟨_, _, t, _, rfl, fv.same (s6.trans s7), f7, ⟨Nat.lt_trans tm.1 (Nat.pow_lt_pow_right (by decide) (by decide)), Nat.lt_trans tm.2.1 (Nat.pow_lt_pow_right (by decide) (by decide)), tm.2.2⟩, ⟨Nat.lt_trans (absMul ct x1) (Nat.pow_lt_pow_right (by decide) (by decide)), Nat.lt_trans x2 (Nat.pow_lt_pow_right (by decide) (by decide)), x3⟩, fun H8 r s8 f8 => ?_⟩
      exact ⟨s5.trans (s6.trans (s7.trans s8)), _, _, _, _, rfl, f8, k2⟩
    · rintro σ H5 ⟨s5, v, t, o3, o4, rfl, fv, hin⟩
      have hd : l3.drop us.length = [] := by rw [hf3.1]; exact List.drop_length
      rw [hd] at hin
      obtain rfl : t = R := Option.some.inj hin
      have tm := mid_of mR
      have hp5 := s5 _ _ hp4'
      have b2 : ((i : Int) + 2).natAbs < 2 ^ 10 := Nat.lt_of_le_of_lt (by omega : _ ≤ 30) (by decide)
      have e2 : ((i + 1 : Nat) : Int) + 1 = (i : Int) + 2 := by omega
      refine ⟨_, rfl, .inl ⟨rfl, _, SqL.of hp5⟩, _, rfl, fr0 fv ⟨_, rfl, ?_⟩⟩
      refine ⟨_, rfl, fr1 fv ⟨_, rfl, _, _, rfl, rfl, ?_⟩⟩
      show rI CMulW (fun i j => V.int (i * j)) (V.int t.snd) (V.int (((i + 1 : Nat) : Int) + 1)) H5 _
      rw [e2]
      refine ⟨_, _, rfl, rfl, mulB tm.2.1 b2, ?_⟩
      refine ⟨_, _, rfl, Int.mul_pos tm.2.2 (by omega), Nat.lt_trans (absMul tm.2.1 b2) (Nat.pow_lt_pow_right (by decide) (by decide)), fun H7 r s7 f7 => ?_⟩
      have h7 := s7 _ _ hp5
      have s37 := s4.trans (s5.trans s7)
      refine ⟨p, _, _, rfl, rfl, h7, Nat.lt_of_le_of_lt (by omega : us.length ≤ 25) (by decide), fun b o e => ?_, _, _, _, _, _, _, rfl, upd_same, Frs.snoc ?_ ?_, hl4⟩
      · rw [upd_ne (ne_of_none e hp0)]
        exact s37 _ _ (s3 _ _ e)
      · refine ⟨hf3.1, fun i u x e1 e2 => ?_⟩
        obtain ⟨a, e, z⟩ := (hf3.2 i u x e1 e2).same s37
        exact ⟨a, e, by rw [upd_ne (ne_of z h7 (by intro z; cases z))]; exact z⟩
      · obtain ⟨a, e, z⟩ := f7
        exact ⟨a, e, by rw [upd_ne (ne_of z h7 (by intro z; cases z))]; exact z⟩
  · rintro σ H3 ⟨s3, us, l3, o1, o2, o3, o4, rfl, hp3, hf3, hl3⟩
    have e1 : ((k : Int) + 1 - 1).toNat = k := by omega
    rw [e1] at hl3
    obtain rfl : l3 = l := Option.some.inj (hl3.symm.trans hl)
    exact ⟨_, rfl, q _ p us s3 hp3 hf3⟩
theorem ok_lbern (D : Df K mg "_law_bernoulli" s__law_bernoulli ["_law_k", "_law_sign"]) (B : Bi mg) (c__law_values : Cal P w K mg base 2 "_law_values" sp_lvals) (c__law_small_bernoulli : Cal P w K mg base 4 "_law_small_bernoulli" sp_plain) (c__law_power : Cal P w K mg base 1 "_law_power" sp_pow) (c__law_plus : Cal P w K mg base 3 "_law_plus" (sp_num nsum)) (c__law_choose : Cal P w K mg base 1 "_law_choose" sp_choose) : Cal P w K mg base 5 "_law_bernoulli" sp_lbern := by
  obtain ⟨f, fd, F, m, b⟩ := D.ex
  have sc := sc__law_bernoulli
  refine ⟨f, fd, _, F.ok sc (fun _ _ _ _ ⟨_, _, e, _⟩ => by rw [e]; rfl) (fun cdv A outer s0 H vs Q E hr h => ?_), m, F.kp, b⟩
  obtain ⟨k, s, rfl, hk, hs, s64, q⟩ := h
  refine ⟨_, (pss_cons (ps_par (i := 2) (j := 3) (by rfl) sc.nd rfl rfl (by decide) rfl rfl (pa_cons (pe_callB call_abs (by rfl) B.abs (by decide +kernel) (pa_cons (pv 1) pa_nil)) (pa_cons (pe_tup (pa_cons pe_int (pa_cons pe_int pa_nil))) pa_nil)) (by rfl))
      (pss_cons (ps_set (i := 4) sc.nd rfl (Or.inr rfl) (pe_c c__law_values hr (by decide) (by rfl) (pa_cons (pv 1) (pa_cons (pe_ifExp (pt_cmpR op_gt (pv 2) pe_int (nomark _)) (pe_op op_add (pv 2) pe_int) pe_int) pa_nil))))
      (pss_cons (ps_for PassesOwn.never rfl (pi_enum (by rfl) B.enumerate (pa_cons (pe_c c__law_small_bernoulli hr (by decide) (by rfl) (pa_cons (pv 0) pa_nil)) pa_nil)) (pg_tup rfl (pgs_cons (pg_name (i := 5) sc.nd rfl (Or.inr rfl)) (pgs_cons (pg_name (i := 6) sc.nd rfl (Or.inl rfl)) pgs_nil)))
      (pss_one (ps_if (pt_cmpR op_ne (pe_ix (show IxR _ (rIx K) from ix_seq) (pv 6) pe_int (fun _ _ => rfl)) pe_int (nomark _))
        (pss_cons (ps_set (i := 8) sc.nd rfl (Or.inl rfl) (pe_callB (id := "sum") (r := rSum K) (cr_sum rfl) (by rfl) B.sum (by decide +kernel) (pa_cons (pe_lc (own := [("_law_a", 7)]) (g := gName 7) (tt := tYes) (by rfl) sc.nd (pi_range2 (by rfl) B.range (pa_cons pe_int (pa_cons (pe_op op_add (pv 2) pe_int) pa_nil))) (blkOk_by (own := [("_law_a", 7)]) (N := N__law_bernoulli) (sc := defScope s__law_bernoulli) (by decide +kernel)) (fun _ _ _ _ _ => (pg_name (i := 7) sc.nd rfl (Or.inl rfl))) (fun _ _ _ _ _ => pts_nil) (fun _ _ _ _ _ => (pe_op op_mulW (pe_ix (show IxR _ (rIx K) from ix_seq) (pv 4) (pv 7) (fun _ _ => rfl)) (pe_c c__law_power hr (by decide) (by rfl) (pa_cons (pv 7) (pa_cons (pe_op op_sub (pv 0) (pv 5)) pa_nil)))))) pa_nil)))
          (pss_one (ps_set (i := 3) sc.nd rfl (Or.inl rfl) (pe_c c__law_plus hr (by decide) (by rfl) (pa_cons (pv 3) (pa_cons (pe_tup (pa_cons (pe_op op_mulW (pe_op op_mulW (pe_op op_mulW (pe_c c__law_choose hr (by decide) (by rfl) (pa_cons (pv 0) (pa_cons (pv 5) pa_nil))) (pe_ix (show IxR _ (rIx K) from ix_seq) (pv 6) pe_int (fun _ _ => rfl))) (pv 8)) (pe_c c__law_power hr (by decide) (by rfl) (pa_cons (pv 2) (pa_cons (pv 5) pa_nil)))) (pa_cons (pe_op op_mulW (pe_ix (show IxR _ (rIx K) from ix_seq) (pv 6) pe_int (fun _ _ => rfl)) (pv 2)) pa_nil))) pa_nil))))))
        pss_nil)))
      (pss_one (ps_ret (pv 3)))))), ?_⟩
  have bv := bnv_V hs s64 hk
  obtain ⟨l, hl, ll, lf⟩ := plain_ok hk
  have pb := pb_of hs s64 hk
  have bvr := bv.2.1 l hl
  have s00 := (isSign_le hs).2.1
  have ea : (if s < 0 then -s else s) = (s.natAbs : Int) := by split <;> omega
  refine ⟨_, rfl, s, rfl, ?_⟩
  rw [ea]
  refine ⟨(by show (2 : Nat) ≤ sizeLine; decide), fun p1 hp1 => ⟨_, _, rfl, ?_⟩⟩
  have s1 : Same H (upd H p1 (.tup [V.int 0, V.int 1])) := Same.upd_new hp1
  have f1 : Fr (upd H p1 (.tup [V.int 0, V.int 1])) (.ref p1) (0, 1) := Fr.new
  generalize upd H p1 (.tup [V.int 0, V.int 1]) = H1 at s1 f1
  obtain ⟨m, hm⟩ : ∃ z, z = s.natAbs := ⟨_, rfl⟩
  have m0 : 0 < m := by omega
  rw [← hm] at bvr pb s64 ⊢
  dsimp only [gName]
  obtain ⟨Mv, hMv⟩ : ∃ z, z = if m > 1 then m + 1 else 2 := ⟨_, rfl⟩
  refine tSeq_join (fun σ H' => Same H H' ∧ ∃ pv pt : Addr, H' pv = some (.lst ((valsV s Mv).map V.int)) ∧ Fr H' (.ref pt) (0, 1) ∧ σ = [some (.int (k : Int)), some (.int s), some (.int (m : Int)), some (.ref pt), some (.ref pv), none, none, none, none]) (fun N hN => ?_) ?_
  · refine ⟨_, rfl, _, rfl, _, _, rfl, rfl, _, rfl, ifD (fun e => ?_) fun e => ?_⟩
    · refine ⟨_, rfl, _, _, rfl, rfl, s, m + 1, (by rfl), hs, by omega, by omega, by omega, fun H2 p s2 _ h2 => ?_⟩
      exact hN _ _ ⟨s1.trans s2, p, p1, by rw [hMv, if_pos (by omega)]; exact h2, f1.same s2, rfl⟩
    · refine ⟨s, 2, (by rfl), hs, by omega, by omega, by omega, fun H2 p s2 _ h2 => ?_⟩
      exact hN _ _ ⟨s1.trans s2, p, p1, by rw [hMv, if_neg (by omega)]; exact h2, f1.same s2, rfl⟩
  have mM : m < Mv := by rw [hMv]; split <;> omega
  clear s1 f1 hp1 hMv
  rintro _ H1 ⟨s1, pv, pt, hpv, fpt, rfl⟩
  refine ⟨_, rfl, k, l, rfl, hk, hl, fun H2 p us s2 hp hf => ?_⟩
  refine ⟨p, _, rfl, SqL.of hp, ?_⟩
  have ul := hf.1
  have mI : (0 : Int) < (m : Int) := by omega
  have mq : (m : Rat) ≠ 0 := by rw [← Rat.intCast_natCast]; exact rat_ne (by omega)
  have fpt2 := fpt.same s2
  have hpv2 := s2 _ _ hpv
  refine for_it (walk_enum (xs := us)) (fun j σ H' => Same H2 H' ∧ ∃ (v : V) (t : Fq) (o5 o6 o8 : Option V), σ = [some (.int (k : Int)), some (.int s), some (.int (m : Int)), some v, some (.ref pv), o5, o6, none, o8] ∧ Fr H' v t ∧ LowT t ∧ TB j t ∧ rv t + bsum m k (psum s) j (l.drop j) / (m : Rat) = rv (bnv k s)) ⟨Same.refl _, _, _, _, _, _, rfl, fpt2, ⟨by decide, by decide⟩, ⟨by simp, by simp, by decide⟩, ?_⟩ (fun j σ H' _ ⟨s5, _⟩ => SqL.of (s5 _ _ hp)) ?_ ?_
  · rw [bvr, List.drop_zero, rv_int]
    grind
  · rintro j x σ H5 H6 hj ⟨s5, v, t, o5, o6, o8, rfl, fv, tl, tb, hrv⟩ ⟨T, u, y, rfl, hT, rfl, hu, hy⟩
    obtain rfl : u = V.int (j : Nat) := (Option.some.inj hu).symm
    obtain ⟨y', x, hy', hx, _, hxm, hdrop⟩ := hf.get hj
    obtain rfl : y = y' := Option.some.inj (hy.symm.trans hy')
    have fy : Fr H2 y x := hf.2 j y x hy' hx
    rw [hdrop] at hrv
    have hrv : rv t + (rv x * (comb k j * ((m ^ j : Nat) : Int) * psum s (k - j) : Int) + bsum m k (psum s) (j + 1) (l.drop (j + 1))) / (m : Rat) = rv (bnv k s) := hrv
    have fx := lf x hxm
    have jk : j ≤ k := by omega
    have s6 : Same H5 (upd H5 T (.tup [V.int (j : Nat), y])) := Same.upd_new hT
    have hTT : (upd H5 T (.tup [V.int (j : Nat), y])) T = some (.tup [V.int (j : Nat), y]) := upd_same
    generalize upd H5 T (.tup [V.int (j : Nat), y]) = H6 at s6 hTT
    have fy6 := fy.same (s5.trans s6)
    refine ⟨T, _, rfl, SqT.of hTT, rfl, ?_⟩
    refine ⟨_, _, rfl, _, _, rfl, rfl, ?_⟩
    refine ⟨_, rfl, fr0 fy6 ⟨rfl, _, rfl, ifNI (fun ne => ?_) fun e0 => ?_⟩⟩
    · have fv6 := fv.same s6
      have tS := small_of (tb.small (by omega)).1 (tb.small (by omega)).2.1 (tb.small (by omega)).2.2
      have hpv6 := s6 _ _ (s5 _ _ hpv2)
      have s26 := s5.trans s6
      have ekj : (k : Int) - (j : Int) = ((k - j : Nat) : Int) := by omega
      clear hTT hT s5 s6 fv fy
      refine ⟨_, rfl, _, _, rfl, rfl, 1, _, rfl, ⟨by decide, by decide, by omega, by omega⟩, fun C hC => ?_⟩
      refine lc_range (lo := 1) (n := ((m : Int) + 1 - 1).toNat) (fun i H' => Same H6 H' ∧ H' C = some (.lst ((rws s i (k - j)).map V.int))) ⟨Same.upd_new hC, upd_same⟩ ?_ ?_
      · rintro i H7 hi ⟨s7, h7⟩
        have hi : i < m := by omega
        dsimp only [gName]
        rw [show (1 : Int) + (i : Int) = ((i + 1 : Nat) : Int) by omega]
        have pw : (((i + 1) ^ (k - j) : Nat) : Int).natAbs < 2 ^ 8000 := by
          rw [Int.natAbs_natCast]
          exact Nat.lt_of_le_of_lt (Nat.le_trans (Nat.pow_le_pow_left (by omega : i + 1 ≤ 2 ^ 9) (k - j)) (Nat.pow_le_pow_right (by decide) (by omega : k - j ≤ 24))) (by decide)
        refine ⟨rfl, _, rfl, _, rfl, .inl ⟨pv, _, ((i + 1 : Nat) : Int), _, rfl, rfl, SqL.of (s7 _ _ hpv6), atI_nat (valsV_at (by omega)), ?_⟩⟩
        refine ⟨_, rfl, _, rfl, _, rfl, _, _, rfl, rfl, i + 1, k - j, (by show [V.int ((i + 1 : Nat) : Int), V.int ((k : Int) - (j : Int))] = _; rw [ekj]), by omega, by omega, by omega, _, _, rfl, rfl, mul8 (Nat.lt_of_le_of_lt (val_le _ _) (by decide)) pw, ?_⟩
        refine ⟨_, h7, ?_, fun b o e => ?_, ?_⟩
        · rw [List.length_map, rws_len]
          exact Nat.lt_of_le_of_lt (by omega : i ≤ 400) (by decide)
        · rw [upd_ne (ne_of_none e hC)]
          exact s7 _ _ e
        · rw [upd_same]
          unfold rws
          rw [List.range_succ, List.map_append, List.map_append]
          rfl
      rintro H7 ⟨s7, h7⟩
      rw [show ((m : Int) + 1 - 1).toNat = m by omega] at h7
      have hsum := rws_sum s (k - j)
      rw [← hm] at hsum
      refine ⟨C, _, rfl, SqL.of h7, ?_⟩
      rw [hsum]
      have hP := pb.P (k - j) (by omega)
      have hC2 := comb_le (show k < 27 by omega) (show j < 27 by omega)
      have hpw := pb.pow (show j ≤ 24 by omega)
      have hf2 := pb.fac jk
      generalize hPP : psum s (k - j) = PP at hP hf2 hrv
      generalize hcc : comb k j = cc at hC2 hf2 hrv
      have fy7 := fy6.same s7
      have b1 : cc.natAbs < 2 ^ 65 := Nat.lt_of_le_of_lt hC2 (by decide)
      have b2 : x.1.natAbs < 2 ^ 41 := Nat.lt_of_le_of_lt fx.1 (by decide)
      have b3 : PP.natAbs < 2 ^ 226 := Nat.lt_of_le_of_lt hP (by decide)
      have b4 : ((m ^ j : Nat) : Int).natAbs < 2 ^ 217 := by rw [Int.natAbs_natCast]; exact Nat.lt_of_le_of_lt hpw (by decide)
      have b5 : x.2.natAbs < 2 ^ 41 := Nat.lt_of_le_of_lt fx.2.1 (by decide)
      have b6 : ((m : Nat) : Int).natAbs < 2 ^ 9 := by rw [Int.natAbs_natCast]; exact Nat.lt_of_le_of_lt s64 (by decide)
      dsimp only [gName]
      refine ⟨_, rfl, _, rfl, _, rfl, k, j, rfl, by omega, by omega, ?_⟩
      rw [hcc]
      refine ⟨_, rfl, fr0 fy7 ⟨_, _, rfl, rfl, mulB b1 b2, ?_⟩⟩
      refine ⟨_, rfl, _, _, rfl, rfl, mulB (absMul b1 b2) b3, ?_⟩
      refine ⟨_, rfl, _, rfl, m, j, rfl, by omega, by omega, by omega, _, _, rfl, rfl, mulB (absMul (absMul b1 b2) b3) b4, ?_⟩
      refine ⟨_, rfl, fr1 fy7 ⟨_, rfl, _, _, rfl, rfl, mulB b5 b6, (by show (2 : Nat) ≤ sizeLine; decide), fun p5 hp5 => ?_⟩⟩
      have s8 : Same H7 (upd H7 p5 (.tup [V.int (cc * x.1 * PP * ((m ^ j : Nat) : Int)), V.int (x.2 * (m : Int))])) := Same.upd_new hp5
      have f8 : Fr (upd H7 p5 (.tup [V.int (cc * x.1 * PP * ((m ^ j : Nat) : Int)), V.int (x.2 * (m : Int))])) (.ref p5) (cc * x.1 * PP * ((m ^ j : Nat) : Int), x.2 * (m : Int)) := Fr.new
      generalize upd H7 p5 (.tup [V.int (cc * x.1 * PP * ((m ^ j : Nat) : Int)), V.int (x.2 * (m : Int))]) = H8 at s8 f8
      have ym : 0 < x.2 * (m : Int) := Int.mul_pos fx.2.2 mI
      have y1 : (cc * x.1 * PP * ((m ^ j : Nat) : Int)).natAbs ≤ 2 ^ 511 := by
        have e : cc * x.1 * PP * ((m ^ j : Nat) : Int) = x.1 * (cc * ((m ^ j : Nat) : Int) * PP) := by grind
        rw [e, Int.natAbs_mul]
        exact Nat.le_trans (Nat.mul_le_mul fx.1 hf2) (by decide)
      have y2 : (x.2 * (m : Int)).natAbs ≤ 2 ^ 49 := by
        rw [Int.natAbs_mul, Int.natAbs_natCast]
        exact Nat.le_trans (Nat.mul_le_mul fx.2.1 pb.m6) (by decide)
      refine ⟨_, _, t, _, rfl, fv6.same (s7.trans s8), f8, tS, ⟨Nat.lt_of_le_of_lt y1 (Nat.pow_lt_pow_right (by decide) (by decide)), Nat.lt_of_le_of_lt y2 (Nat.pow_lt_pow_right (by decide) (by decide)), ym⟩, fun H9 r s9 f9 => ?_⟩
      have tv := nsum_val (x := t) (y := (cc * x.1 * PP * ((m ^ j : Nat) : Int), x.2 * (m : Int))) tb.2.2 ym
      refine ⟨s26.trans (s7.trans (s8.trans s9)), _, _, _, _, _, rfl, f9, tv.1, (tb.step (y := (cc * x.1 * PP * ((m ^ j : Nat) : Int), x.2 * (m : Int))) y1 y2 ym).low, ?_⟩
      rw [tv.2, ← hrv]
      have x2q : (x.2 : Rat) ≠ 0 := rat_ne (by have := fx.2.2; omega)
      have : rv (cc * x.1 * PP * ((m ^ j : Nat) : Int), x.2 * (m : Int)) = rv x * ((cc * ((m ^ j : Nat) : Int) * PP : Int) : Rat) / (m : Rat) := by
        unfold rv
        dsimp only
        rw [Rat.intCast_mul, Rat.intCast_mul, Rat.intCast_mul, Rat.intCast_mul, Rat.intCast_mul, Rat.intCast_mul, show (((m : Nat) : Int) : Rat) = (m : Rat) from Rat.intCast_natCast m]
        grind
      rw [this]
      grind
    · refine ⟨s5.trans s6, v, t, _, _, _, rfl, fv.same s6, tl, ⟨Nat.le_trans tb.1 (Nat.mul_le_mul (Nat.mul_le_mul_right _ (by omega)) (Nat.pow_le_pow_right (by decide) (by omega))), Nat.le_trans tb.2.1 (Nat.pow_le_pow_right (by decide) (by omega)), tb.2.2⟩, ?_⟩
      rw [← hrv]
      have : rv x = 0 := by
        unfold rv
        rw [e0]
        grind
      rw [this]
      grind
  · rintro σ H5 ⟨s5, v, t, o5, o6, o8, rfl, fv, tl, tb, hrv⟩
    have hd : l.drop us.length = [] := by rw [ul]; exact List.drop_length
    rw [hd] at hrv
    have : t = bnv k s := low_uniq tl bv.1 (by
      rw [← hrv]
      show rv t = rv t + 0 / (m : Rat)
      grind)
    rw [this] at fv
    exact ⟨_, rfl, q _ _ (s1.trans (s2.trans s5)) fv⟩
end
end Ft

set_option exponentiation.threshold 9000
namespace Ft
open PySem L2
theorem if_by2 {b : Bool} {p q : Prop} (h1 : b = true → p) (h2 : b = false → q) : if b = true then p else q := by
  cases b with
  | true => exact h1 rfl
  | false => exact h2 rfl
theorem eqv_pl (k : Nat) (x y : Int) : PyData.eqv (.tuple [.int (k : Int), .int x, .int y]) (.tuple [.int 2, .int 1, .int 1]) = isPl k x y := by
  show (((k : Int) == 2) && ((x == 1) && ((y == 1) && true))) = isPl k x y
  have a1 : ((k : Int) == 2) = decide (k = 2) := by
    by_cases h : k = 2
    · rw [decide_eq_true h, h]; rfl
    · rw [decide_eq_false h]; exact beq_eq_false_iff_ne.mpr (by omega)
  have b1 : ∀ z : Int, (z == 1) = decide (z = 1) := fun z => by
    by_cases h : z = 1
    · rw [decide_eq_true h, h]; rfl
    · rw [decide_eq_false h]; exact beq_eq_false_iff_ne.mpr h
  rw [a1, b1, b1, Bool.and_true]
  rfl
def S24 : List Int := [1, -3, -4, 5, -7, 8, -8, 1, 1, -4, -11, 12, 13, -15, 17, -19, -20, 21, -23, -24, 24, 28, 29, -31]
theorem S24_sign : ∀ x ∈ S24, isSign x = true ∧ x.natAbs ≤ 31 ∧ x ≠ 0 := by decide +kernel
def sp_sumPiece : Sp := fun vs H Q _ => ∃ (d l : Addr) (most : Nat), vs = [.ref d, .int (most : Int)] ∧ DeckAt H d l ∧ 2 ≤ most ∧ most ≤ 400 ∧ ∀ H' v k x y t, DeckAt H' d l → But d l H H' → PcAt H' v k x y t → PcOk k x y t → x ∈ S24 → y ∈ S24 → (x * y).natAbs * t ≤ most → Q v H'
theorem DeckAt.offd {H : Hp} {d l p : Addr} {xs : List V} (D : DeckAt H d l) (h : H p = some (.tup xs)) : p ≠ d := by
  obtain ⟨mx, dr, cs, hd, hl, _⟩ := D
  exact L2.ne_of h hd (by intro z; cases z)
theorem DeckAt.offl {H : Hp} {d l p : Addr} {xs : List V} (D : DeckAt H d l) (h : H p = some (.tup xs)) : p ≠ l := by
  obtain ⟨mx, dr, cs, hd, hl, _⟩ := D
  exact L2.ne_of h hl (by intro z; cases z)
section
variable {P : Program} {w : World} {K : PySem.W.Frag} {mg : Str → Option Value} {base : Heap}
theorem ok_sumPiece (D : Df K mg "_law_sum_piece" s__law_sum_piece ["_law_deck_here", "_law_most"]) (B : Bi mg) (c__law_pick : Cal P w K mg base 2 "_law_pick" (sp_pick K)) (c__law_draw : Cal P w K mg base 1 "_law_draw" sp_draw) : Cal P w K mg base 3 "_law_sum_piece" sp_sumPiece := by
  obtain ⟨f, fd, F, m, b⟩ := D.ex
  have sc := sc__law_sum_piece
  refine ⟨f, fd, _, F.ok sc (fun _ _ _ _ ⟨_, _, _, e, _⟩ => by rw [e]; rfl) (fun cdv A outer s H vs Q E hr h => ?_), m, F.kp, b⟩
  obtain ⟨d, l, most, rfl, D0, m1, m4, q⟩ := h
  have h64 : (A.deeper (PyProof.Rows.envOfC "_law_sum_piece" (defScope s__law_sum_piece) s.heap.objs.size f cdv)).units + 64 < cLine := by have := hr.un; omega
  refine ⟨_, (pss_cons (ps_set (i := 2) sc.nd rfl (Or.inl rfl) (pe_tup (pa_cons pe_int (pa_cons (pe_un un_neg pe_int) (pa_cons (pe_un un_neg pe_int) (pa_cons pe_int (pa_cons (pe_un un_neg pe_int) (pa_cons pe_int (pa_cons (pe_un un_neg pe_int) (pa_cons pe_int (pa_cons pe_int (pa_cons (pe_un un_neg pe_int) (pa_cons (pe_un un_neg pe_int) (pa_cons pe_int (pa_cons pe_int (pa_cons (pe_un un_neg pe_int) (pa_cons pe_int (pa_cons (pe_un un_neg pe_int) (pa_cons (pe_un un_neg pe_int) (pa_cons pe_int (pa_cons (pe_un un_neg pe_int) (pa_cons (pe_un un_neg pe_int) (pa_cons pe_int (pa_cons pe_int (pa_cons pe_int (pa_cons (pe_un un_neg pe_int) pa_nil))))))))))))))))))))))))))
      (pss_cons (ps_set (i := 4) sc.nd rfl (Or.inr rfl) (pe_c c__law_pick hr (by decide) (by rfl) (pa_cons (pv 0) (pa_cons (pe_lc (own := [("_law_sign", 3)]) (g := gName 3)  (by rfl) sc.nd (pi_tup (pv 2)) (blkOk_by (own := [("_law_sign", 3)]) (N := N__law_sum_piece) (sc := defScope s__law_sum_piece) (by decide +kernel)) (fun _ _ _ _ _ => (pg_name (i := 3) sc.nd rfl (Or.inl rfl))) (fun _ _ _ _ _ => (pts_one (pt_cmpR op_le (pe_callB call_abs (by rfl) B.abs (by decide +kernel) (pa_cons (pv 3) pa_nil)) (pv 1) (nomark _)))) (fun _ _ _ _ _ => (pv 3))) pa_nil))))
      (pss_cons (ps_set (i := 5) sc.nd rfl (Or.inl rfl) (pe_c c__law_pick hr (by decide) (by rfl) (pa_cons (pv 0) (pa_cons (pe_lc (own := [("_law_sign", 3)]) (g := gName 3)  (by rfl) sc.nd (pi_tup (pv 2)) (blkOk_by (own := [("_law_sign", 3)]) (N := N__law_sum_piece) (sc := defScope s__law_sum_piece) (by decide +kernel)) (fun _ _ _ _ _ => (pg_name (i := 3) sc.nd rfl (Or.inl rfl))) (fun _ _ _ _ _ => (pts_one (pt_cmpR op_le (pe_callB call_abs (by rfl) B.abs (by decide +kernel) (pa_cons (pe_op op_mulW (pv 3) (pv 4)) pa_nil)) (pv 1) (nomark _)))) (fun _ _ _ _ _ => (pv 3))) pa_nil))))
      (pss_cons (ps_set (i := 6) sc.nd rfl (Or.inl rfl) (pe_ifExp (pt_cmpR op_gt (pe_c c__law_draw hr (by decide) (by rfl) (pa_cons (pv 0) (pa_cons pe_int pa_nil))) pe_int (nomark _)) (pe_c c__law_pick hr (by decide) (by rfl) (pa_cons (pv 0) (pa_cons (pe_lst (pa_cons pe_int (pa_cons pe_int (pa_cons pe_int (pa_cons pe_int (pa_cons pe_int (pa_cons pe_int (pa_cons pe_int (pa_cons pe_int pa_nil))))))))) pa_nil))) (pe_op op_add pe_int (pe_c c__law_draw hr (by decide) (by rfl) (pa_cons (pv 0) (pa_cons pe_int pa_nil))))))
      (pss_cons (ps_if (pt_cmpR op_ne (pe_cmpR op_gt (pe_op op_mulW (pv 4) (pv 5)) pe_int (nomark _)) (pe_cmpR op_eq (pe_op op_mod (pe_callTy call_int1 (by rfl) B.int_ (by decide +kernel) (pa_cons (pv 6) pa_nil)) pe_int) pe_int (nomark _)) (nomark _))
      (pss_one (ps_set (i := 6) sc.nd rfl (Or.inl rfl) (pe_ifExp (pt_cmpR op_lt (pv 6) pe_int (nomark _)) (pe_op op_add (pv 6) pe_int) pe_int)))
      pss_nil)
      (pss_cons (ps_set (i := 7) sc.nd rfl (Or.inl rfl) (pe_op op_add pe_int (pe_c c__law_draw hr (by decide) (by rfl) (pa_cons (pv 0) (pa_cons (pe_op op_fdivW (pv 1) (pe_callB call_abs (by rfl) B.abs (by decide +kernel) (pa_cons (pe_op op_mulW (pv 4) (pv 5)) pa_nil))) pa_nil)))))
      (pss_cons (ps_if (PW.pt (pw_and (pt_cmpR op_gt (pv 7) pe_int (nomark _)) (pw_and1 (pt_cmpR op_eq (pe_c c__law_draw hr (by decide) (by rfl) (pa_cons (pv 0) (pa_cons pe_int pa_nil))) pe_int (nomark _)))))
      (pss_one (ps_set (i := 7) sc.nd rfl (Or.inl rfl) (pe_op op_add pe_int (pe_op op_mod (pe_callTy call_int1 (by rfl) B.int_ (by decide +kernel) (pa_cons (pv 7) pa_nil)) pe_int))))
      pss_nil)
      (pss_cons (ps_if (pt_cmpR (op_eqD h64) (pe_tup (pa_cons (pv 6) (pa_cons (pv 4) (pa_cons (pv 5) pa_nil)))) (pe_tup (pa_cons pe_int (pa_cons pe_int (pa_cons pe_int pa_nil)))) (nomark _))
      (pss_one (ps_set (i := 7) sc.nd rfl (Or.inl rfl) (pe_op op_add pe_int (pe_c c__law_draw hr (by decide) (by rfl) (pa_cons (pv 0) (pa_cons (pe_op op_sub (pv 1) pe_int) pa_nil))))))
      pss_nil)
      (pss_one (ps_ret (pe_tup (pa_cons pe_str (pa_cons (pv 6) (pa_cons (pe_ifExp (pt_cmpR op_eq (pv 6) pe_int (nomark _)) (pe_callB (call_min2 rfl) (by rfl) B.min_ (by decide +kernel) (pa_cons (pv 4) (pa_cons (pv 5) pa_nil))) (pv 4)) (pa_cons (pe_ifExp (pt_cmpR op_eq (pv 6) pe_int (nomark _)) (pe_callB (call_max2 rfl) (by rfl) B.max_ (by decide +kernel) (pa_cons (pv 4) (pa_cons (pv 5) pa_nil))) (pv 5)) (pa_cons (pv 7) pa_nil)))))))))))))))), ?_⟩
  refine ⟨_, rfl, _, rfl, _, rfl, _, rfl, _, rfl, _, rfl, _, rfl, _, rfl, _, rfl, _, rfl, _, rfl, _, rfl, (by show (24 : Nat) ≤ sizeLine; decide), fun p hp => ?_⟩
  have s1 : Same H (upd H p (.tup (S24.map V.int))) := Same.upd_new hp
  have h1 : (upd H p (.tup (S24.map V.int))) p = some (.tup (S24.map V.int)) := upd_same
  show tSeq _ _ _ _ (upd H p (.tup (S24.map V.int)))
  generalize upd H p (.tup (S24.map V.int)) = H1 at s1 h1
  have D1 := D0.same s1
  have b1 : But d l H H1 := But.of s1
  refine ⟨_, rfl, _, rfl, p, rfl, ⟨_, SqT.of h1⟩, fun L1 hL1 => ?_⟩
  refine lc_it (walk_tup (xs := S24.map V.int)) (fun i H' => Same H1 H' ∧ H' L1 = some (.lst (((S24.take i).filter (fun z : Int => decide ((z.natAbs : Int) ≤ (most : Int)))).map V.int))) ⟨Same.upd_new hL1, upd_same⟩ (fun i H' _ ⟨z, _⟩ => SqT.of (z _ _ h1)) ?_ ?_
  · rintro i v H9 _ hi ⟨s9, h9⟩ ⟨rfl, hv⟩
    obtain ⟨z, rfl, hz⟩ := int_at hv
    have z31 := (S24_sign z (List.mem_of_getElem? hz)).2.1
    have htk : S24.take (i + 1) = S24.take i ++ [z] := by rw [List.take_add_one, hz]; rfl
    refine ⟨rfl, _, rfl, z, rfl, _, rfl, _, _, rfl, rfl, _, rfl, ?_⟩
    rw [abs_ifN]
    refine ifD (fun e => ?_) fun e => ?_
    · refine ⟨_, rfl, _, h9, ?_, fun b o e2 => ?_, ?_⟩
      · rw [List.length_map]
        exact Nat.lt_of_le_of_lt (Nat.le_trans (List.length_filter_le _ _) (by rw [List.length_take]; exact Nat.min_le_right _ _ : _ ≤ 24)) (by decide)
      · rw [upd_ne (ne_of_none e2 hL1)]
        exact s9 _ _ e2
      · rw [upd_same, htk, List.filter_append, show [z].filter (fun z : Int => decide ((z.natAbs : Int) ≤ (most : Int))) = [z] from List.filter_cons_of_pos (p := (fun z : Int => decide ((z.natAbs : Int) ≤ (most : Int)))) (decide_eq_true e), List.map_append]
        rfl
    · refine ⟨s9, ?_⟩
      rw [h9, htk, List.filter_append, show [z].filter (fun z : Int => decide ((z.natAbs : Int) ≤ (most : Int))) = [] from List.filter_cons_of_neg (p := (fun z : Int => decide ((z.natAbs : Int) ≤ (most : Int)))) (fun h => e (of_decide_eq_true h)), List.append_nil]
  rintro H2 ⟨s2, h2⟩
  rw [List.length_map, List.take_length] at h2
  have ne1 := D1.new hL1
  have one_in : ∀ {F : Int → Bool}, F 1 = true → 0 < ((S24.filter F).map V.int).length := fun {F} e => by
    rw [List.length_map]
    exact List.length_pos_of_mem (List.mem_filter.mpr ⟨by decide, e⟩)
  have few : ∀ {F : Int → Bool}, ((S24.filter F).map V.int).length < 2 ^ 64 := fun {F} => by
    rw [List.length_map]
    exact Nat.lt_of_le_of_lt (List.length_filter_le _ _) (by decide)
  refine ⟨d, l, L1, _, rfl, D1.same s2, .inl ⟨h2, ne1.2⟩, one_in (decide_eq_true (by show (1 : Int) ≤ (most : Int); omega)), few, fun H3 v D3 b3 hv => ?_⟩
  obtain ⟨x, hx, rfl⟩ := List.mem_map.mp hv
  obtain ⟨hx, xm⟩ := List.mem_filter.mp hx
  have xm := of_decide_eq_true xm
  obtain ⟨sx, x31, x0⟩ := S24_sign x hx
  have h3 := b3 _ _ (s2 _ _ h1) (D1.offd h1) (D1.offl h1)
  dsimp only [gName]
  have D3' := D3
  have b03 := (b1.trans (But.of s2)).trans b3
  refine ⟨_, rfl, _, rfl, p, rfl, ⟨_, SqT.of h3⟩, fun L2 hL2 => ?_⟩
  refine lc_it (walk_tup (xs := S24.map V.int)) (fun i H' => Same H3 H' ∧ H' L2 = some (.lst (((S24.take i).filter (fun z : Int => decide (((z * x).natAbs : Int) ≤ (most : Int)))).map V.int))) ⟨Same.upd_new hL2, upd_same⟩ (fun i H' _ ⟨z, _⟩ => SqT.of (z _ _ h3)) ?_ ?_
  · rintro i v H9 _ hi ⟨s9, h9⟩ ⟨rfl, hv⟩
    obtain ⟨z, rfl, hz⟩ := int_at hv
    have z31 := (S24_sign z (List.mem_of_getElem? hz)).2.1
    have htk : S24.take (i + 1) = S24.take i ++ [z] := by rw [List.take_add_one, hz]; rfl
    refine ⟨rfl, _, rfl, _, rfl, _, _, rfl, rfl, mul8 (Nat.lt_of_le_of_lt z31 (by decide)) (Nat.lt_of_le_of_lt x31 (by decide)), _, rfl, _, rfl, _, _, rfl, rfl, _, rfl, ?_⟩
    rw [abs_ifN]
    refine ifD (fun e => ?_) fun e => ?_
    · refine ⟨_, rfl, _, h9, ?_, fun b o e2 => ?_, ?_⟩
      · rw [List.length_map]
        exact Nat.lt_of_le_of_lt (Nat.le_trans (List.length_filter_le _ _) (by rw [List.length_take]; exact Nat.min_le_right _ _ : _ ≤ 24)) (by decide)
      · rw [upd_ne (ne_of_none e2 hL2)]
        exact s9 _ _ e2
      · rw [upd_same, htk, List.filter_append, show [z].filter (fun z : Int => decide (((z * x).natAbs : Int) ≤ (most : Int))) = [z] from List.filter_cons_of_pos (p := (fun z : Int => decide (((z * x).natAbs : Int) ≤ (most : Int)))) (decide_eq_true e), List.map_append]
        rfl
    · refine ⟨s9, ?_⟩
      rw [h9, htk, List.filter_append, show [z].filter (fun z : Int => decide (((z * x).natAbs : Int) ≤ (most : Int))) = [] from List.filter_cons_of_neg (p := (fun z : Int => decide (((z * x).natAbs : Int) ≤ (most : Int)))) (fun h => e (of_decide_eq_true h)), List.append_nil]
  rintro H4 ⟨s4, h4⟩
  rw [List.length_map, List.take_length] at h4
  have ne2 := D3.new hL2
  refine ⟨d, l, L2, _, rfl, D3.same s4, .inl ⟨h4, ne2.2⟩, one_in (decide_eq_true (by rw [Int.one_mul]; exact xm)), few, fun H5 v D5 b5 hv => ?_⟩
  obtain ⟨y, hy, rfl⟩ := List.mem_map.mp hv
  obtain ⟨hy, ym⟩ := List.mem_filter.mp hy
  have ym := of_decide_eq_true ym
  obtain ⟨sy, y31, y0⟩ := S24_sign y hy
  have b05 := (b03.trans (But.of s4)).trans b5
  clear h4 h3 s4 b5 b3 s2 b1 b03 h2 D3 D3' D1 D0 few one_in ne1 ne2
  dsimp only [gName]
  have m2' : (y * x).natAbs = (x * y).natAbs := by rw [Int.mul_comm]
  have mxy : CMulW x y := mul8 (Nat.lt_of_le_of_lt x31 (by decide)) (Nat.lt_of_le_of_lt y31 (by decide))
  have xy1 : 1 ≤ (x * y).natAbs := by
    rw [Int.natAbs_mul]
    exact Nat.mul_pos (by omega) (by omega)
  have xym : (x * y).natAbs ≤ most := by omega
  refine tSeq_join (fun σ H' => DeckAt H' d l ∧ But d l H H' ∧ ∃ k : Nat, 1 ≤ k ∧ k ≤ 24 ∧ σ = [some (.ref d), some (.int (most : Int)), some (.ref p), none, some (.int x), some (.int y), some (.int (k : Int)), none]) (fun N hN => ?_) ?_
  · refine ⟨_, rfl, d, l, 16, rfl, D5, by decide, by decide, fun H6 r D6 b6 r0 r1 => ⟨_, _, rfl, rfl, _, rfl, ifD (fun e => ?_) fun e => ?_⟩⟩
    · refine ⟨_, rfl, (by show (8 : Nat) ≤ sizeLine; decide), fun p8 hp8 => ?_⟩
      have n8 := D6.new hp8
      refine ⟨d, l, p8, _, rfl, D6.same (Same.upd_new hp8), .inl ⟨upd_same, n8.2⟩, (by show 0 < 8; decide), (by show 8 < 2 ^ 64; decide), fun H7 v D7 b7 hv => ?_⟩
      obtain ⟨k, rfl, k1, k24⟩ : ∃ k : Nat, v = .int (k : Int) ∧ 1 ≤ k ∧ k ≤ 24 := by
        simp only [List.mem_cons, List.not_mem_nil, or_false] at hv
        rcases hv with h | h | h | h | h | h | h | h
        · exact ⟨1, h, by decide, by decide⟩
        · exact ⟨3, h, by decide, by decide⟩
        · exact ⟨5, h, by decide, by decide⟩
        · exact ⟨2, h, by decide, by decide⟩
        · exact ⟨1, h, by decide, by decide⟩
        · exact ⟨3, h, by decide, by decide⟩
        · exact ⟨4, h, by decide, by decide⟩
        · exact ⟨6, h, by decide, by decide⟩
      exact hN _ _ ⟨D7, ((b05.trans b6).trans (But.of (Same.upd_new (o := HO.lst [V.int 1, V.int 3, V.int 5, V.int 2, V.int 1, V.int 3, V.int 4, V.int 6]) hp8))).trans b7, k, k1, k24, rfl⟩
    · refine ⟨_, rfl, d, l, 18, rfl, D6, by decide, by decide, fun H7 r D7 b7 r0 r1 => ⟨_, _, rfl, rfl, ?_⟩⟩
      exact hN _ _ ⟨D7, (b05.trans b6).trans b7, (7 + r).toNat, by omega, by omega, by rw [show (((7 + r).toNat : Nat) : Int) = 7 + r by omega]; rfl⟩
  clear D5 b05
  rintro _ H5 ⟨D5, b5, k0, k01, k024, rfl⟩
  refine tSeq_join (fun σ H' => H5 = H' ∧ ∃ k : Nat, 1 ≤ k ∧ k ≤ 24 ∧ decide (0 < x * y) = decide (k % 2 = 0) ∧ σ = [some (.ref d), some (.int (most : Int)), some (.ref p), none, some (.int x), some (.int y), some (.int (k : Int)), none]) (fun N hN => ?_) ?_
  · have e2 : decide (V.int ((k0 : Int) % 2) = V.int 0) = decide (k0 % 2 = 0) := by
      by_cases z : k0 % 2 = 0
      · rw [decide_eq_true z]
        exact decide_eq_true (congrArg V.int (by omega))
      · rw [decide_eq_false z]
        exact decide_eq_false fun w => z (by have := V.int.inj w; omega)
    have e3 : ∀ a b : Bool, decide (V.bl a = V.bl b) = decide (a = b) := fun a b => by cases a <;> cases b <;> decide
    refine ⟨_, rfl, _, rfl, _, _, rfl, rfl, mxy, _, _, rfl, rfl, _, rfl, .inl ⟨_, rfl, _, _, rfl, rfl, (by show (0 : Int) < 2; decide), rfl, ?_⟩⟩
    refine ⟨rfl, !decide (decide (0 < x * y) = decide (k0 % 2 = 0)), ?_, ?_⟩
    · show V.bl (!decide (V.bl (decide (0 < x * y)) = V.bl (decide (V.int ((k0 : Int) % 2) = V.int 0)))) = _
      rw [e2, e3]
    refine if_by2 (fun e => ?_) fun e => ?_
    · have ne : ¬ decide (0 < x * y) = decide (k0 % 2 = 0) := by simpa using e
      refine ⟨_, rfl, _, _, rfl, rfl, _, rfl, ifD (fun e => ?_) fun e => ?_⟩
      · refine ⟨_, rfl, _, _, rfl, rfl, ?_⟩
        refine hN _ _ ⟨rfl, k0 + 1, by omega, by omega, ?_, rfl⟩
        by_cases a : 0 < x * y <;> by_cases b : k0 % 2 = 0 <;> simp only [a, b, decide_true, decide_false, not_true_eq_false, Bool.true_eq_false, Bool.false_eq_true, not_false_eq_true] at ne ⊢ <;> first | exact (decide_eq_true (by omega)).symm | exact (decide_eq_false (by omega)).symm | contradiction
      · refine hN _ _ ⟨rfl, 23, by decide, by decide, ?_, rfl⟩
        have k4 : k0 = 24 := by omega
        subst k4
        by_cases a : 0 < x * y
        · exact absurd (by rw [decide_eq_true a]; rfl) ne
        · rw [decide_eq_false a]; rfl
    · have eq : decide (0 < x * y) = decide (k0 % 2 = 0) := by simpa using e
      exact hN _ _ ⟨rfl, k0, k01, k024, eq, rfl⟩
  clear k01 k024 k0
  rintro _ _ ⟨rfl, k, k1, k24, par, rfl⟩
  refine ⟨_, rfl, _, rfl, _, rfl, _, rfl, _, _, rfl, rfl, mxy, _, rfl, ?_⟩
  rw [abs_ifN]
  have ed : (most : Int) / ((x * y).natAbs : Int) = ((most / (x * y).natAbs : Nat) : Int) := (Int.natCast_ediv _ _).symm
  have dp : 0 < most / (x * y).natAbs := Nat.div_pos xym (by omega)
  have dm := Nat.mul_div_le most (x * y).natAbs
  have dl : most / (x * y).natAbs ≤ most := Nat.div_le_self _ _
  refine ⟨_, _, rfl, rfl, cdivN (by omega) (by omega), d, l, ((most / (x * y).natAbs : Nat) : Int), by rw [← ed]; rfl, D5, by omega, by omega, fun H6 r D6 b6 r0 r1 => ?_⟩
  have b06 := b5.trans b6
  obtain ⟨t0, rfl⟩ : ∃ t0 : Nat, r = (t0 : Int) := ⟨r.toNat, by omega⟩
  have lev0 : (x * y).natAbs * (1 + t0) ≤ most := Nat.le_trans (Nat.mul_le_mul_left _ (by omega)) dm
  clear D5 b5 b6 dp dm dl ed r0 r1
  refine ⟨_, _, rfl, rfl, ?_⟩
  dsimp only [gName]
  refine tSeq_join (fun σ H' => DeckAt H' d l ∧ But d l H H' ∧ ∃ t : Nat, 1 ≤ t ∧ (x * y).natAbs * t ≤ most ∧ σ = [some (.ref d), some (.int (most : Int)), some (.ref p), none, some (.int x), some (.int y), some (.int (k : Int)), some (.int (t : Int))]) (fun N hN => ?_) ?_
  · have e1 : ((1 + t0 : Nat) : Int) = 1 + (t0 : Int) := by omega
    have stay : ∀ {H' : Hp}, DeckAt H' d l → But d l H H' → N [some (.ref d), some (.int (most : Int)), some (.ref p), none, some (.int x), some (.int y), some (.int (k : Int)), some (.int (1 + (t0 : Int)))] H' := fun D' b' => hN _ _ ⟨D', b', 1 + t0, by omega, lev0, by rw [e1]⟩
    refine ⟨_, rfl, _, _, rfl, rfl, _, rfl, ifD (fun e => ?_) fun e => stay D6 b06⟩
    refine ⟨_, rfl, d, l, 2, rfl, D6, by decide, by decide, fun H7 r D7 b7 r0 r1 => ⟨rfl, _, rfl, ifI (fun e2 => ?_) fun e2 => stay D7 (b06.trans b7)⟩⟩
    refine ⟨_, rfl, .inl ⟨_, rfl, _, _, rfl, rfl, (by show (0 : Int) < 3; decide), _, _, rfl, rfl, ?_⟩⟩
    refine hN _ _ ⟨D7, b06.trans b7, 1 + (1 + t0) % 3, by omega, Nat.le_trans (Nat.mul_le_mul_left _ (by omega)) lev0, ?_⟩
    rw [show ((1 + (1 + t0) % 3 : Nat) : Int) = 1 + (1 + (t0 : Int)) % 3 by omega]
    rfl
  clear D6 b06 lev0 t0
  rintro _ H6 ⟨D6, b6, t, t1, lev, rfl⟩
  refine tSeq_join (fun σ H' => DeckAt H' d l ∧ But d l H H' ∧ ∃ t : Nat, 1 ≤ t ∧ (x * y).natAbs * t ≤ most ∧ (isPl k x y = true → 2 ≤ t) ∧ σ = [some (.ref d), some (.int (most : Int)), some (.ref p), none, some (.int x), some (.int y), some (.int (k : Int)), some (.int (t : Int))]) (fun N hN => ?_) ?_
  · refine ⟨_, rfl, _, rfl, _, rfl, (by show (3 : Nat) ≤ sizeLine; decide), fun p1 hp1 => ?_⟩
    have s1 : Same H6 (upd H6 p1 (.tup [V.int (k : Int), V.int x, V.int y])) := Same.upd_new hp1
    have h1 : (upd H6 p1 (.tup [V.int (k : Int), V.int x, V.int y])) p1 = some (.tup [V.int (k : Int), V.int x, V.int y]) := upd_same
    generalize upd H6 p1 (.tup [V.int (k : Int), V.int x, V.int y]) = H7 at s1 h1
    refine ⟨(by show (3 : Nat) ≤ sizeLine; decide), fun p2 hp2 => ?_⟩
    have s2 : Same H7 (upd H7 p2 (.tup [V.int 2, V.int 1, V.int 1])) := Same.upd_new hp2
    have h2 : (upd H7 p2 (.tup [V.int 2, V.int 1, V.int 1])) p2 = some (.tup [V.int 2, V.int 1, V.int 1]) := upd_same
    generalize upd H7 p2 (.tup [V.int 2, V.int 1, V.int 1]) = H8 at s2 h2
    have D8 := D6.same (s1.trans s2)
    have b8 := b6.trans (But.of (s1.trans s2))
    refine ⟨.tuple [.int (k : Int), .int x, .int y], .tuple [.int 2, .int 1, .int 1], .tup (SqT.of (s2 _ _ h1)) (.cons (.int _) (.cons (.int _) (.cons (.int _) .nil))), .tup (SqT.of h2) (.cons (.int _) (.cons (.int _) (.cons (.int _) .nil))), rfl, rfl, isPl k x y, congrArg V.bl (eqv_pl k x y), ?_⟩
    refine if_by2 (fun e => ?_) fun e => hN _ _ ⟨D8, b8, t, t1, lev, fun z => (by rw [e] at z; cases z), rfl⟩
    have xy : (x * y).natAbs = 1 := by
      unfold isPl at e
      simp only [Bool.and_eq_true, decide_eq_true_eq] at e
      rw [e.2.1, e.2.2]
      rfl
    refine ⟨_, rfl, _, rfl, _, _, rfl, rfl, d, l, _, rfl, D8, by omega, by omega, fun H9 r D9 b9 r0 r1 => ⟨_, _, rfl, rfl, ?_⟩⟩
    exact hN _ _ ⟨D9, b8.trans b9, (2 + r).toNat, by omega, by rw [xy]; omega, fun _ => by omega, by rw [show (((2 + r).toNat : Nat) : Int) = 2 + r by omega]; rfl⟩
  clear D6 b6 lev t1 t
  rintro _ H6 ⟨D6, b6, t, t1, lev, pl2, rfl⟩
  have k1i : ∀ e : (k : Int) = 1, x * y < 0 := fun e => by
    have k0 : k = 1 := by omega
    rw [k0] at par
    have : ¬ 0 < x * y := by simpa using par
    have h0 : x * y ≠ 0 := Int.mul_ne_zero x0 y0
    omega
  refine ⟨_, rfl, _, rfl, rfl, _, rfl, ifI (fun e => ?_) fun e => ?_⟩
  · have neg := k1i e
    have e1 : k = 1 := by omega
    have ne : x ≠ y := fun z => by
      rw [z] at neg
      have h2 : 0 ≤ y * y := by
        rcases Int.le_total 0 y with h | h
        · exact Int.mul_nonneg h h
        · exact Int.mul_nonneg_of_nonpos_of_nonpos h h
      omega
    refine ⟨_, rfl, _, rfl, x, y, rfl, _, rfl, rfl, _, rfl, ifI (fun _ => ?_) fun z => absurd e z⟩
    refine ⟨_, rfl, _, rfl, x, y, rfl, _, rfl, (by show (5 : Nat) ≤ sizeLine; decide), fun p9 hp9 => ?_⟩
    have s9 : Same H6 (upd H6 p9 (.tup [V.str (Str.ofString "sum"), V.int (k : Int), V.int (if y < x then y else x), V.int (if y > x then y else x), V.int (t : Int)])) := Same.upd_new hp9
    have D9 := D6.same s9
    have b9 := b6.trans (But.of s9)
    rcases Int.lt_or_lt_of_ne ne with c | c
    · have a1 : (if y < x then y else x) = x := if_neg (by omega)
      have a2 : (if y > x then y else x) = y := if_pos c
      refine q _ _ k x y t D9 b9 ⟨p9, rfl, ?_⟩ ⟨k1, k24, sx, sy, t1, par, Nat.le_trans lev m4, fun _ => c, fun z => absurd e1 z⟩ hx hy lev
      rw [upd_same, a1, a2]
    · have a1 : (if y < x then y else x) = y := if_pos c
      have a2 : (if y > x then y else x) = x := if_neg (by omega)
      have cm : y * x = x * y := Int.mul_comm y x
      refine q _ _ k y x t D9 b9 ⟨p9, rfl, ?_⟩ ⟨k1, k24, sy, sx, t1, by rw [cm]; exact par, by rw [cm]; exact Nat.le_trans lev m4, fun _ => c, fun z => absurd e1 z⟩ hy hx (by rw [cm]; exact lev)
      rw [upd_same, a1, a2]
  · refine ⟨_, rfl, _, rfl, rfl, _, rfl, ifI (fun z => absurd z e) fun _ => ?_⟩
    refine ⟨_, rfl, _, rfl, (by show (5 : Nat) ≤ sizeLine; decide), fun p9 hp9 => ?_⟩
    have s9 : Same H6 (upd H6 p9 (.tup [V.str (Str.ofString "sum"), V.int (k : Int), V.int x, V.int y, V.int (t : Int)])) := Same.upd_new hp9
    refine q _ _ k x y t (D6.same s9) (b6.trans (But.of s9)) ⟨p9, rfl, upd_same⟩ ⟨k1, k24, sx, sy, t1, par, Nat.le_trans lev m4, fun z => absurd (by omega) e, fun _ => ?_⟩ hx hy lev
    cases hpl : isPl k x y with
    | true => exact .inl (pl2 hpl)
    | false => exact .inr rfl
end
end Ft

set_option exponentiation.threshold 9000
namespace Ft
open PySem L2
/-- both signs are small -/
def sp_ldsums : Sp := fun vs H Q _ => ∃ (k M : Nat) (x y : Int), vs = [.int (k : Int), .int x, .int y, .int (M : Int)] ∧ k ≤ 24 ∧ isSign x = true ∧ isSign y = true ∧ x.natAbs ≤ 400 ∧ y.natAbs ≤ 400 ∧ 1 ≤ M ∧ M ≤ 12 ∧ ∀ H' p, Same H H' → H p = none → H' p = some (.lst (rowL M (dsR k x y))) → Q (.ref p) H'
section
variable {P : Program} {w : World} {K : PySem.W.Frag} {mg : Str → Option Value} {base : Heap}
theorem ok_lsumFirst (D : Df K mg "_law_sum_first" s__law_sum_first ["_law_piece"]) (B : Bi mg) (c__law_lowest : Cal P w K mg base 2 "_law_lowest" sp_lowest) (c__law_by : Cal P w K mg base 3 "_law_by" (sp_num nprod)) (c__law_bernoulli : Cal P w K mg base 5 "_law_bernoulli" sp_lbern) : Cal P w K mg base 6 "_law_sum_first" sp_sumFirst := by
  obtain ⟨f, fd, F, m, b⟩ := D.ex
  have sc := sc__law_sum_first
  refine ⟨f, fd, _, F.ok sc (fun _ _ _ _ ⟨_, _, _, _, _, e, _⟩ => by rw [e]; rfl) (fun cdv A outer s H vs Q E hr h => ?_), m, F.kp, b⟩
  obtain ⟨v, k, x, y, t, rfl, hP, ok, ps, q⟩ := h
  have h64 : (A.deeper (PyProof.Rows.envOfC "_law_sum_first" (defScope s__law_sum_first) s.heap.objs.size f cdv)).units + 64 < cLine := by have := hr.un; omega
  refine ⟨_, (pss_cons (ps_asg (pv 0) (pg_tup rfl (pgs_cons (pg_name (i := 1) sc.nd rfl (Or.inl rfl)) (pgs_cons (pg_name (i := 2) sc.nd rfl (Or.inl rfl)) (pgs_cons (pg_name (i := 3) sc.nd rfl (Or.inl rfl)) (pgs_cons (pg_name (i := 4) sc.nd rfl (Or.inl rfl)) (pgs_cons (pg_name (i := 5) sc.nd rfl (Or.inl rfl)) pgs_nil)))))))
      (pss_cons (ps_if (pt_cmpR (op_eqD h64) (pe_tup (pa_cons (pv 2) (pa_cons (pv 3) (pa_cons (pv 4) pa_nil)))) (pe_tup (pa_cons pe_int (pa_cons pe_int (pa_cons pe_int pa_nil)))) (nomark _))
      (pss_one (ps_ret (pe_c c__law_lowest hr (by decide) (by rfl) (pa_cons (pe_op op_sub (pv 5) pe_int) (pa_cons pe_int pa_nil)))))
      pss_nil)
      (pss_cons (ps_if (pt_cmpR op_gt (pv 2) pe_int (nomark _))
      (pss_one (ps_ret (pe_ifExp (pt_cmpR op_eq (pv 3) pe_int (nomark _)) (pe_c c__law_by hr (by decide) (by rfl) (pa_cons (pe_c c__law_bernoulli hr (by decide) (by rfl) (pa_cons (pv 2) (pa_cons (pv 4) pa_nil))) (pa_cons (pe_tup (pa_cons (pe_un un_neg pe_int) (pa_cons (pe_op op_mulW pe_int (pv 2)) pa_nil))) pa_nil))) (pe_tup (pa_cons pe_int (pa_cons pe_int pa_nil))))))
      pss_nil)
      (pss_cons (ps_if (pt_cmpR op_notIn_seq pe_int (pe_tup (pa_cons (pv 3) (pa_cons (pv 4) pa_nil))) (by rfl))
      (pss_one (ps_ret (pe_tup (pa_cons pe_int (pa_cons pe_int pa_nil)))))
      pss_nil)
      (pss_one (ps_ret (pe_c c__law_by hr (by decide) (by rfl) (pa_cons (pe_c c__law_bernoulli hr (by decide) (by rfl) (pa_cons pe_int (pa_cons (pe_ifExp (pt_cmpR op_eq (pv 4) pe_int (nomark _)) (pv 3) (pv 4)) pa_nil))) (pa_cons (pe_tup (pa_cons (pe_un un_neg pe_int) (pa_cons pe_int pa_nil))) pa_nil))))))))), ?_⟩
  obtain ⟨p, rfl, hp⟩ := id hP
  refine ⟨_, rfl, p, _, rfl, SqT.of hp, rfl, _, _, rfl, _, _, rfl, _, _, rfl, _, _, rfl, _, _, rfl, rfl, ?_⟩
  dsimp only [gName]
  have e0 : fstV k x y t = if isPl k x y = true then low ((t : Int) - 1) 24 else if k = 1 then (if y = 1 then nprod (bnv 1 x) (-1, 2) else (0, 1)) else if x = 1 then nprod (bnv k y) (-1, 2 * (k : Int)) else (0, 1) := rfl
  have k1 := ok.k1
  have k24 := ok.k24
  have up : ∀ {a b : Nat} {z : Fq}, z.1.natAbs < 2 ^ a → z.2.natAbs < 2 ^ b → 0 < z.2 → a ≤ 4000 → b ≤ 4000 → Small 4000 z := fun h1 h2 h3 h4 h5 => ⟨Nat.lt_of_lt_of_le h1 (Nat.pow_le_pow_right (by decide) h4), Nat.lt_of_lt_of_le h2 (Nat.pow_le_pow_right (by decide) h5), h3⟩
  refine ⟨_, rfl, _, rfl, _, rfl, (by show (3 : Nat) ≤ sizeLine; decide), fun p1 hp1 => ?_⟩
  have s1 : Same H (upd H p1 (.tup [V.int (k : Int), V.int x, V.int y])) := Same.upd_new hp1
  have h1 : (upd H p1 (.tup [V.int (k : Int), V.int x, V.int y])) p1 = some (.tup [V.int (k : Int), V.int x, V.int y]) := upd_same
  generalize upd H p1 (.tup [V.int (k : Int), V.int x, V.int y]) = H7 at s1 h1
  refine ⟨(by show (3 : Nat) ≤ sizeLine; decide), fun p2 hp2 => ?_⟩
  have s2 : Same H7 (upd H7 p2 (.tup [V.int 2, V.int 1, V.int 1])) := Same.upd_new hp2
  have h2 : (upd H7 p2 (.tup [V.int 2, V.int 1, V.int 1])) p2 = some (.tup [V.int 2, V.int 1, V.int 1]) := upd_same
  generalize upd H7 p2 (.tup [V.int 2, V.int 1, V.int 1]) = H8 at s2 h2
  have s8 := s1.trans s2
  have q' : ∀ {H2 : Hp} {r : V} {z : Fq}, Same H8 H2 → fstV k x y t = z → Fr H2 r z → Q r H2 := fun a e f => q _ _ (s8.trans a) (by rw [e]; exact f)
  refine ⟨.tuple [.int (k : Int), .int x, .int y], .tuple [.int 2, .int 1, .int 1], .tup (SqT.of (s2 _ _ h1)) (.cons (.int _) (.cons (.int _) (.cons (.int _) .nil))), .tup (SqT.of h2) (.cons (.int _) (.cons (.int _) (.cons (.int _) .nil))), rfl, rfl, isPl k x y, congrArg V.bl (eqv_pl k x y), ?_⟩
  clear h1 h2 hp1 hp2 s1 s2
  refine if_by2 (fun hpl => ?_) fun hpl => ?_
  · rw [hpl, if_pos rfl] at e0
    refine ⟨_, rfl, _, _, rfl, rfl, (t : Int) - 1, 24, rfl, by decide, by decide, fun H9 r s9 f9 => q' s9 e0 f9⟩
  · rw [hpl, if_neg (by decide)] at e0
    dsimp only [tNext]
    refine ⟨_, rfl, _, _, rfl, rfl, _, rfl, ifD (fun e => ?_) fun e => ?_⟩
    · have k1' : ¬ k = 1 := by omega
      rw [if_neg k1'] at e0
      refine ⟨_, rfl, rfl, _, rfl, ifI (fun e2 => ?_) fun e2 => ?_⟩
      · rw [if_pos e2] at e0
        obtain ⟨ib, b1, b2, b3⟩ := bnv_ok (k := k) ok.sy (ps.2 e2) k24
        refine ⟨_, rfl, _, rfl, k, y, rfl, k24, ok.sy, ps.2 e2, fun H9 u s9 f9 => ?_⟩
        refine ⟨_, rfl, _, rfl, _, _, rfl, rfl, mul8 (by decide) (Nat.lt_of_le_of_lt (by omega : _ ≤ 24) (by decide)), (by show (2 : Nat) ≤ sizeLine; decide), fun p2 hp2 => ?_⟩
        have s4 : Same H9 (upd H9 p2 (.tup [V.int (-1), V.int (2 * (k : Int))])) := Same.upd_new hp2
        refine ⟨_, _, bnv k y, (-1, 2 * (k : Int)), rfl, f9.same s4, Fr.new, up b1 b2 b3 (by decide) (by decide), ⟨(by show (-1 : Int).natAbs < 2 ^ 4000; decide), Nat.lt_of_le_of_lt (by dsimp only; omega : _ ≤ 48) (by decide), by dsimp only; omega⟩, fun H5 r s5 f5 => ?_⟩
        exact q' (s9.trans (s4.trans s5)) e0 f5
      · rw [if_neg e2] at e0
        refine ⟨(by show (2 : Nat) ≤ sizeLine; decide), fun p2 hp2 => ?_⟩
        exact q' (Same.upd_new hp2) e0 Fr.new
    · have k1' : k = 1 := by omega
      rw [if_pos k1'] at e0
      dsimp only [tNext]
      have xneg : x < 0 := by
        have h := ok.one k1'
        have pr := ok.par
        rw [k1'] at pr
        have ng : ¬ 0 < x * y := by simpa using pr
        rcases Int.lt_or_le x 0 with c | c
        · exact c
        · exfalso
          have x0 := (isSign_le ok.sx).2.1
          exact ng (Int.mul_pos (by omega) (by omega))
      refine ⟨_, rfl, _, rfl, (by show (2 : Nat) ≤ sizeLine; decide), fun p2 hp2 => ?_⟩
      have s9 : Same H8 (upd H8 p2 (.tup [V.int x, V.int y])) := Same.upd_new hp2
      have h9 : (upd H8 p2 (.tup [V.int x, V.int y])) p2 = some (.tup [V.int x, V.int y]) := upd_same
      generalize upd H8 p2 (.tup [V.int x, V.int y]) = H9 at s9 h9
      have ein : inV (V.int 1) [V.int x, V.int y] = decide (y = 1) := by
        have ex : ¬ x = 1 := by omega
        show (eqV (V.int x) (V.int 1) || (eqV (V.int y) (V.int 1) || false)) = _
        have ev : ∀ z : Int, eqV (V.int z) (V.int 1) = decide (z = 1) := fun z => by
          show (z == 1) = decide (z = 1)
          by_cases h : z = 1
          · rw [h]; rfl
          · rw [decide_eq_false h]; exact beq_eq_false_iff_ne.mpr h
        rw [ev, ev, decide_eq_false ex, Bool.false_or, Bool.or_false]
      refine ⟨p2, _, rfl, .inr (SqT.of h9), rfl, rfl, _, congrArg (fun z : Bool => V.bl (!z)) ein, ?_⟩
      refine ifN (fun e2 => ?_) fun e2 => ?_
      · rw [if_neg e2] at e0
        refine ⟨(by show (2 : Nat) ≤ sizeLine; decide), fun p3 hp3 => ?_⟩
        exact q' (s9.trans (Same.upd_new hp3)) e0 Fr.new
      · rw [if_pos e2] at e0
        dsimp only [tNext]
        obtain ⟨ib, b1, b2, b3⟩ := bnv_ok (k := 1) ok.sx (ps.1 e2) (by decide)
        refine ⟨_, rfl, rfl, _, rfl, ifI (fun _ => ?_) fun z => absurd e2 z⟩
        refine ⟨_, rfl, 1, x, rfl, by decide, ok.sx, ps.1 e2, fun H10 u s10 f10 => ?_⟩
        refine ⟨_, rfl, (by show (2 : Nat) ≤ sizeLine; decide), fun p3 hp3 => ?_⟩
        have s4 : Same H10 (upd H10 p3 (.tup [V.int (-1), V.int 2])) := Same.upd_new hp3
        refine ⟨_, _, bnv 1 x, (-1, 2), rfl, f10.same s4, Fr.new, up b1 b2 b3 (by decide) (by decide), ⟨by decide, by decide, by decide⟩, fun H5 r s5 f5 => ?_⟩
        exact q' (s9.trans (s10.trans (s4.trans s5))) e0 f5
theorem ok_ldsums (D : Df K mg "_law_divisor_sums" s__law_divisor_sums ["_law_k", "_law_one", "_law_other_here", "_law_many"]) (B : Bi mg) (c__law_values : Cal P w K mg base 2 "_law_values" sp_lvals) (c__law_power : Cal P w K mg base 1 "_law_power" sp_pow) : Cal P w K mg base 3 "_law_divisor_sums" sp_ldsums := by
  obtain ⟨f, fd, F, m, b⟩ := D.ex
  have sc := sc__law_divisor_sums
  refine ⟨f, fd, _, F.ok sc (fun _ _ _ _ ⟨_, _, _, _, e, _⟩ => by rw [e]; rfl) (fun cdv A outer s H vs Q E hr h => ?_), m, F.kp, b⟩
  obtain ⟨k, M, x, y, rfl, k24, hx, hy, x64, y64, M1, M12, q⟩ := h
  have M4 : M ≤ 400 := by omega
  refine ⟨_, (pss_cons (ps_par (i := 4) (j := 5) (by rfl) sc.nd rfl rfl (by decide) rfl rfl (pa_cons (pe_c c__law_values hr (by decide) (by rfl) (pa_cons (pv 1) (pa_cons (pe_callB (call_max2 rfl) (by rfl) B.max_ (by decide +kernel) (pa_cons pe_int (pa_cons (pv 3) pa_nil))) pa_nil))) (pa_cons (pe_c c__law_values hr (by decide) (by rfl) (pa_cons (pv 2) (pa_cons (pe_callB (call_max2 rfl) (by rfl) B.max_ (by decide +kernel) (pa_cons pe_int (pa_cons (pv 3) pa_nil))) pa_nil))) pa_nil)) (by rfl))
      (pss_cons (ps_set (i := 6) sc.nd rfl (Or.inl rfl) (pe_op op_rep (pe_lst (pa_cons pe_int pa_nil)) (pv 3)))
      (pss_cons (ps_for PassesOwn.never rfl (pi_range2 (by rfl) B.range (pa_cons pe_int (pa_cons (pv 3) pa_nil))) (pg_name (i := 7) sc.nd rfl (Or.inl rfl))
      (pss_cons (ps_set (i := 8) sc.nd rfl (Or.inl rfl) (pe_op op_mulW (pe_ix (show IxR _ (rIx K) from ix_seq) (pv 5) (pv 7) (fun _ _ => rfl)) (pe_c c__law_power hr (by decide) (by rfl) (pa_cons (pv 7) (pa_cons (pv 0) pa_nil)))))
        (pss_one (ps_for PassesOwn.never rfl (pi_range2 (by rfl) B.range (pa_cons pe_int (pa_cons (pe_op op_add (pe_op op_fdivW (pe_op op_sub (pv 3) pe_int) (pv 7)) pe_int) pa_nil))) (pg_name (i := 9) sc.nd rfl (Or.inl rfl))
        (pss_one (ps_asg (pe_op op_add (pe_ix (show IxR _ (rIx K) from ix_seq) (pv 6) (pe_op op_mulW (pv 7) (pv 9)) (fun _ _ => rfl)) (pe_op op_mulW (pe_ix (show IxR _ (rIx K) from ix_seq) (pv 4) (pv 9) (fun _ _ => rfl)) (pv 8))) (pg_sub (pv 6) (pe_op op_mulW (pv 7) (pv 9)) set_list)))))))
      (pss_one (ps_ret (pv 6)))))), ?_⟩
  obtain ⟨Mx, hMx⟩ : ∃ z, z = max 2 M := ⟨_, rfl⟩
  have em : (if (M : Int) > 2 then (M : Int) else 2) = (Mx : Int) := by rw [hMx]; split <;> omega
  have M2 : 2 ≤ Mx := by omega
  have Mx4 : Mx ≤ 401 := by omega
  have MMx : M ≤ Mx := by omega
  refine ⟨_, rfl, _, rfl, 2, _, rfl, x, Mx, (by show [V.int x, V.int (if (M : Int) > 2 then (M : Int) else 2)] = _; rw [em]), hx, x64, M2, ⟨by omega, Mx4⟩, fun H1 pl s1 _ hl => ?_⟩
  refine ⟨_, rfl, _, rfl, 2, _, rfl, y, Mx, (by show [V.int y, V.int (if (M : Int) > 2 then (M : Int) else 2)] = _; rw [em]), hy, y64, M2, ⟨by omega, Mx4⟩, fun H2 pr s2 _ hrr => ?_⟩
  refine ⟨_, _, rfl, ?_⟩
  have hl2 := s2 _ _ hl
  have s02 := s1.trans s2
  clear hl s1 s2
  refine ⟨(by show (1 : Nat) ≤ sizeLine; decide), fun l0 hl0 => ?_⟩
  have s0 : Same H2 (upd H2 l0 (.lst [V.int 0])) := Same.upd_new hl0
  have h0 : (upd H2 l0 (.lst [V.int 0])) l0 = some (.lst [V.int 0]) := upd_same
  generalize upd H2 l0 (.lst [V.int 0]) = H3 at s0 h0
  refine ⟨_, rfl, l0, (M : Int), _, rfl, rfl, h0, by omega, by omega, ?_, fun L hL => ?_⟩
  · rw [Int.toNat_natCast]
    exact Nat.le_trans (by show 1 * M ≤ 400; omega) (by decide : 400 ≤ sizeLine)
  have hL0 : H L = none := s02.free (s0.free hL)
  have hz : (List.replicate ((M : Int)).toNat [V.int 0]).flatten = rowL M (dsU k x y 0) := by
    rw [Int.toNat_natCast, rep0]
    unfold rowL
    exact (List.map_const' .. ▸ by rw [List.length_range] : List.replicate M (V.int 0) = (List.range M).map fun _ => V.int 0)
  rw [hz]
  have sL := Same.upd_new (o := .lst (rowL M (dsU k x y 0))) hL
  have s3 := s02.trans (s0.trans sL)
  have h3 : (upd H3 L (.lst (rowL M (dsU k x y 0)))) L = some (.lst (rowL M (dsU k x y 0))) := upd_same
  have hl3 := sL _ _ (s0 _ _ hl2)
  have hr3 := sL _ _ (s0 _ _ hrr)
  have nLl : pl ≠ L := fun e => by rw [e] at hl2; rw [s0 _ _ hl2] at hL; cases hL
  have nLr : pr ≠ L := fun e => by rw [e] at hrr; rw [s0 _ _ hrr] at hL; cases hL
  generalize upd H3 L (.lst (rowL M (dsU k x y 0))) = H4 at s3 h3 hl3 hr3
  clear hl2 hrr s02 s0 sL h0 hL hl0
  dsimp only [gName]
  refine ⟨_, rfl, 1, (M : Int), rfl, by omega, for_range (lo := 1) (n := ((M : Int) - 1).toNat) (fun i σ H' => Same H H' ∧ H' pl = some (.lst ((valsV x Mx).map V.int)) ∧ H' pr = some (.lst ((valsV y Mx).map V.int)) ∧ H' L = some (.lst (rowL M (dsU k x y i))) ∧ ∃ o7 o8 o9 : Option V, σ = [some (.int (k : Int)), some (.int x), some (.int y), some (.int (M : Int)), some (.ref pl), some (.ref pr), some (.ref L), o7, o8, o9]) ⟨s3, hl3, hr3, h3, none, none, none, rfl⟩ ?_ ?_⟩
  · rintro i σ H5 hi ⟨s5, hl5, hr5, h5, o7, o8, o9, rfl⟩
    have hi : i + 1 < M := by omega
    have ei : (1 : Int) + (i : Int) = ((i + 1 : Nat) : Int) := by omega
    have dk : (i + 1) ^ k ≤ 2 ^ 408 := pow_100k (by omega) k24
    have mf : CMulW (valueAt y ((i + 1 : Nat) : Int)) (((i + 1) ^ k : Nat) : Int) := mul8 (Nat.lt_of_le_of_lt (val_le _ _) (by decide)) (by rw [Int.natAbs_natCast]; exact Nat.lt_of_le_of_lt dk (by decide))
    dsimp only [gName]
    rw [ei]
    refine ⟨_, rfl, _, rfl, .inl ⟨pr, _, ((i + 1 : Nat) : Int), _, rfl, rfl, SqL.of hr5, atI_nat (valsV_at (by omega)), ?_⟩⟩
    refine ⟨_, rfl, _, rfl, i + 1, k, rfl, by omega, by omega, k24, _, _, rfl, rfl, mf, ?_⟩
    have h5' : H5 L = some (.lst (rowL M (dsV k x y i 0))) := by rw [h5]; exact congrArg (fun z => some (HO.lst z)) (rowL_congr fun n _ => dsV_zero.symm)
    have hq : (((M : Int) - 1) / ((i + 1 : Nat) : Int) + 1 - 1).toNat = (M - 1) / (i + 1) := by
      rw [Int.add_sub_cancel, show (M : Int) - 1 = ((M - 1 : Nat) : Int) by omega]
      rfl
    have dl : (M - 1) / (i + 1) ≤ M - 1 := Nat.div_le_self _ _
    have dI : ((M : Int) - 1) / ((i + 1 : Nat) : Int) = (((M - 1) / (i + 1) : Nat) : Int) := by
      rw [show (M : Int) - 1 = ((M - 1 : Nat) : Int) by omega]
      rfl
    dsimp only [gName]
    refine ⟨_, rfl, _, _, rfl, rfl, _, rfl, _, _, rfl, rfl, cdivN (by omega) (by omega), _, _, rfl, rfl, 1, _, rfl, (by rw [dI]; omega), ?_⟩
    refine for_range (lo := 1) (n := (((M : Int) - 1) / ((i + 1 : Nat) : Int) + 1 - 1).toNat) (fun j σ H' => Same H H' ∧ H' pl = some (.lst ((valsV x Mx).map V.int)) ∧ H' pr = some (.lst ((valsV y Mx).map V.int)) ∧ H' L = some (.lst (rowL M (dsV k x y i j))) ∧ ∃ o9 : Option V, σ = [some (.int (k : Int)), some (.int x), some (.int y), some (.int (M : Int)), some (.ref pl), some (.ref pr), some (.ref L), some (.int ((i + 1 : Nat) : Int)), some (.int (valueAt y ((i + 1 : Nat) : Int) * (((i + 1) ^ k : Nat) : Int))), o9]) ⟨s5, hl5, hr5, h5', o9, rfl⟩ ?_ ?_
    · rw [hq]
      rintro j σ H6 hj ⟨s6, hl6, hr6, h6, o9, rfl⟩
      have kb : (i + 1) + j * (i + 1) ≤ M - 1 := by
        have h := Nat.mul_div_le (M - 1) (i + 1)
        have h2 : (i + 1) * (j + 1) ≤ (i + 1) * ((M - 1) / (i + 1)) := Nat.mul_le_mul_left _ hj
        rw [Nat.mul_add, Nat.mul_one, Nat.mul_comm] at h2
        omega
      have en : ((i + 1 : Nat) : Int) * ((j + 1 : Nat) : Int) = (((i + 1) + j * (i + 1) : Nat) : Int) := by
        rw [← Int.natCast_mul]
        congr 1
        grind
      have st := fun n => dsV_step (k := k) (D := x) (E := y) (d := i) (i := j) (n := n)
      have en2 : ((i + 1) + j * (i + 1)) / (i + 1) = j + 1 := by
        rw [show (i + 1) + j * (i + 1) = (i + 1) * (j + 1) by grind]
        exact Nat.mul_div_cancel_left _ (by omega)
      have i1 : 0 < i + 1 := by omega
      have i4 : i + 1 ≤ 400 := by omega
      have j4 : j + 1 < Mx := by omega
      have dk2 := dk
      have eT : ∀ n, n / (i + 1) = j + 1 → valueAt x ((j + 1 : Nat) : Int) * (valueAt y ((i + 1 : Nat) : Int) * (((i + 1) ^ k : Nat) : Int)) = dsT k x y n (i + 1) := fun n e => by unfold dsT; rw [e, Int.mul_assoc]
      generalize hn : (i + 1) + j * (i + 1) = n at en kb st en2
      generalize hd : i + 1 = dd at *
      have hs : (rowL M (dsV k x y i j)).set n (V.int (dsV k x y i j n + dsT k x y n dd)) = rowL M (dsV k x y i (j + 1)) := by
        unfold rowL
        rw [set_map _ _ (by omega)]
        refine List.map_congr_left fun z _ => ?_
        rw [st]
        by_cases e : z = n
        · rw [if_pos e, if_pos e, e]
        · rw [if_neg e, if_neg e]
      have sd : ((dd : Nat) : Int).natAbs < 2 ^ 8000 := by rw [Int.natAbs_natCast]; exact Nat.lt_of_le_of_lt i4 (by decide)
      have sj : ((j + 1 : Nat) : Int).natAbs < 2 ^ 8000 := by rw [Int.natAbs_natCast]; exact Nat.lt_of_le_of_lt (by omega : _ ≤ 401) (by decide)
      dsimp only [gName]
      rw [show (1 : Int) + (j : Int) = ((j + 1 : Nat) : Int) by omega]
      refine ⟨_, rfl, _, rfl, _, rfl, _, _, rfl, rfl, mul8 sd sj, .inl ⟨L, _, (n : Int), _, rfl, congrArg V.int en, SqL.of h6, atI_nat (rowL_get _ (by omega)), ?_⟩⟩
      refine ⟨_, rfl, _, rfl, .inl ⟨pl, _, ((j + 1 : Nat) : Int), _, rfl, rfl, SqL.of hl6, atI_nat (valsV_at j4), ?_⟩⟩
      refine ⟨_, rfl, _, _, rfl, rfl, mul8 (Nat.lt_of_le_of_lt (val_le _ _) (by decide)) (Nat.lt_of_le_of_lt (one_mul_le (val_le _ _) (by rw [Int.natAbs_natCast]; exact dk)) (by decide)), _, _, rfl, rfl, ?_⟩
      refine ⟨_, rfl, _, rfl, _, rfl, _, _, rfl, rfl, mul8 sd sj, L, _, _, n, rfl, rfl, h6, ?_, ?_⟩
      · rw [rowL_len, en]
        unfold ixN
        rw [if_pos (by omega), if_pos (by omega), Int.toNat_natCast]
      · dsimp only
        rw [eT n en2, hs]
        refine ⟨fun b o e => ?_, ?_, ?_, upd_same, _, rfl⟩
        · rw [upd_ne (ne_of_none e hL0)]
          exact s6 _ _ e
        · rw [upd_ne nLl]
          exact hl6
        · rw [upd_ne nLr]
          exact hr6
    · rw [hq]
      rintro σ H6 ⟨s6, hl6, hr6, h6, o9, rfl⟩
      rw [rowL_congr (fun n hn => dsV_last hn)] at h6
      exact ⟨s6, hl6, hr6, h6, _, _, _, rfl⟩
  · rintro σ H5 ⟨s5, _, _, h5, o7, o8, o9, rfl⟩
    rw [show ((M : Int) - 1).toNat = M - 1 by omega, rowL_congr (fun n hn => dsU_row k x y hn)] at h5
    exact ⟨_, rfl, q _ L s5 hL0 h5⟩
end
end Ft

set_option exponentiation.threshold 9000
namespace Ft
open PySem L2
def sp_lsumTerms : Sp := fun vs H Q _ => ∃ v k x y t M, vs = [v, .int ((M : Nat) : Int)] ∧ PcAt H v k x y t ∧ PcOk k x y t ∧ x.natAbs ≤ 400 ∧ y.natAbs ≤ 400 ∧ 1 ≤ M ∧ M ≤ 12 ∧ ∀ H' r, Same H H' → Bg H' r (fstV k x y t).2 (rowT k x y t M) → Q r H'
section
variable {P : Program} {w : World} {K : PySem.W.Frag} {mg : Str → Option Value} {base : Heap}
set_option maxHeartbeats 1000000 in
theorem ok_lsumTerms (D : Df K mg "_law_sum_terms" s__law_sum_terms ["_law_piece", "_law_many"]) (B : Bi mg) (c__law_divisor_sums : Cal P w K mg base 3 "_law_divisor_sums" sp_ldsums) (c__law_sum_first : Cal P w K mg base 6 "_law_sum_first" sp_sumFirst) : Cal P w K mg base 7 "_law_sum_terms" sp_lsumTerms := by
  obtain ⟨f, fd, F, m, b⟩ := D.ex
  have sc := sc__law_sum_terms
  refine ⟨f, fd, _, F.ok sc (fun _ _ _ _ ⟨_, _, _, _, _, _, e, _⟩ => by rw [e]; rfl) (fun cdv A outer s H vs Q E hr h => ?_), m, F.kp, b⟩
  obtain ⟨v, k, x, y, t, M, rfl, hP, ok, x64, y64, M1, M12, q⟩ := h
  have M4 : M ≤ 400 := by omega
  have h64 : (A.deeper (PyProof.Rows.envOfC "_law_sum_terms" (defScope s__law_sum_terms) s.heap.objs.size f cdv)).units + 64 < cLine := by have := hr.un; omega
  refine ⟨_, (pss_cons (ps_asg (pv 0) (pg_tup rfl (pgs_cons (pg_name (i := 2) sc.nd rfl (Or.inl rfl)) (pgs_cons (pg_name (i := 3) sc.nd rfl (Or.inl rfl)) (pgs_cons (pg_name (i := 4) sc.nd rfl (Or.inl rfl)) (pgs_cons (pg_name (i := 5) sc.nd rfl (Or.inl rfl)) (pgs_cons (pg_name (i := 6) sc.nd rfl (Or.inl rfl)) pgs_nil)))))))
      (pss_cons (ps_par (i := 7) (j := 8) (by rfl) sc.nd rfl rfl (by decide) rfl rfl (pa_cons (pe_c c__law_divisor_sums hr (by decide) (by rfl) (pa_cons (pe_op op_sub (pv 3) pe_int) (pa_cons (pv 4) (pa_cons (pv 5) (pa_cons (pv 1) pa_nil))))) (pa_cons (pe_lst pa_nil) pa_nil)) (by rfl))
      (pss_cons (ps_set (i := 9) sc.nd rfl (Or.inr rfl) (pe_c c__law_sum_first hr (by decide) (by rfl) (pa_cons (pv 0) pa_nil)))
      (pss_cons (ps_for PassesOwn.never rfl (pi_range2 (by rfl) B.range (pa_cons pe_int (pa_cons (pv 1) pa_nil))) (pg_name (i := 10) sc.nd rfl (Or.inl rfl))
      (pss_one (ps_if (pt_cmpR (op_eqD h64) (pe_tup (pa_cons (pv 3) (pa_cons (pv 4) (pa_cons (pv 5) pa_nil)))) (pe_tup (pa_cons pe_int (pa_cons pe_int (pa_cons pe_int pa_nil)))) (nomark _))
        (pss_one (ps_expr (pe_bm PySem.F.plainAttrs_list PySem.F.slot_list_append PySem.F.type_list_append mt_append (pv 8) (pa_cons (pe_op op_sub (pe_ix (show IxR _ (rIx K) from ix_seq) (pv 7) (pv 10) (fun _ _ => rfl)) (pe_ifExp (pt_cmpR op_eq (pe_op op_mod (pe_callTy call_int1 (by rfl) B.int_ (by decide +kernel) (pa_cons (pv 10) pa_nil)) (pv 6)) pe_int (nomark _)) (pe_op op_mulW (pv 6) (pe_ix (show IxR _ (rIx K) from ix_seq) (pv 7) (pe_op op_fdivW (pv 10) (pv 6)) (fun _ _ => rfl))) pe_int)) pa_nil))))
        (pss_one (ps_expr (pe_bm PySem.F.plainAttrs_list PySem.F.slot_list_append PySem.F.type_list_append mt_append (pv 8) (pa_cons (pe_ifExp (pt_cmpR op_eq (pe_op op_mod (pe_callTy call_int1 (by rfl) B.int_ (by decide +kernel) (pa_cons (pv 10) pa_nil)) (pv 6)) pe_int (nomark _)) (pe_ix (show IxR _ (rIx K) from ix_seq) (pv 7) (pe_op op_fdivW (pv 10) (pv 6)) (fun _ _ => rfl)) pe_int) pa_nil)))))))
      (pss_one (ps_ret (pe_tup (pa_cons (pe_ix (show IxR _ (rIx K) from ix_seq) (pv 9) pe_int (fun _ _ => rfl)) (pa_cons (pe_op op_catA (pe_tup (pa_cons (pe_ix (show IxR _ (rIx K) from ix_seq) (pv 9) pe_int (fun _ _ => rfl)) pa_nil)) (pe_callTy call_tuple_of (by rfl) B.tuple (by decide +kernel) (pa_cons (pe_lc (own := [("_law_x", 11)]) (g := gName 11) (tt := tYes) (by rfl) sc.nd (pi_list (pv 8)) (blkOk_by (own := [("_law_x", 11)]) (N := N__law_sum_terms) (sc := defScope s__law_sum_terms) (by decide +kernel)) (fun _ _ _ _ _ => (pg_name (i := 11) sc.nd rfl (Or.inl rfl))) (fun _ _ _ _ _ => pts_nil) (fun _ _ _ _ _ => (pe_op op_mulW (pe_ix (show IxR _ (rIx K) from ix_seq) (pv 9) pe_int (fun _ _ => rfl)) (pv 11)))) pa_nil))) pa_nil))))))))), ?_⟩
  have k1 := ok.k1
  have k24 := ok.k24
  have t1 := ok.t1
  have t4 := ok.t4
  have ps : PcS x y := ⟨fun _ => x64, fun _ => y64⟩
  obtain ⟨f1, f2, f3⟩ := fst_le ok ps
  obtain ⟨p, rfl, hp⟩ := id hP
  refine ⟨_, rfl, p, _, rfl, SqT.of hp, rfl, _, _, rfl, _, _, rfl, _, _, rfl, _, _, rfl, _, _, rfl, rfl, ?_⟩
  dsimp only [gName]
  refine ⟨_, rfl, _, _, rfl, rfl, _, rfl, _, rfl, _, rfl, k - 1, M, x, y, (by show [V.int ((k : Int) - 1), V.int x, V.int y, V.int (M : Int)] = _; rw [show (k : Int) - 1 = ((k - 1 : Nat) : Int) by omega]), by omega, ok.sx, ok.sy, x64, y64, M1, M12, fun H1 pS s1 _ hS => ?_⟩
  refine ⟨Nat.zero_le _, fun L hL => ⟨_, _, rfl, ?_⟩⟩
  have hL0 : H L = none := s1.free hL
  have s2 : Same H1 (upd H1 L (.lst [])) := Same.upd_new hL
  have h2 : (upd H1 L (.lst [])) L = some (.lst []) := upd_same
  have nS : pS ≠ L := fun e => by rw [e] at hS; rw [hS] at hL; cases hL
  have hS2 := s2 _ _ hS
  generalize upd H1 L (.lst []) = H2 at s2 h2 hS2
  dsimp only [gName]
  refine ⟨_, rfl, _, k, x, y, t, rfl, ⟨p, rfl, s2 _ _ (s1 _ _ hp)⟩, ok, ps, fun H3 r s3 fr => ?_⟩
  obtain ⟨pf, rfl, hf⟩ := fr
  have s03 := s1.trans (s2.trans s3)
  have h3 := s3 _ _ h2
  have hS3 := s3 _ _ hS2
  have nf : pf ≠ L := fun e => by rw [e, h3] at hf; cases hf
  have lat : ∀ n, latV k x y t n = if isPl k x y = true then dsR (k - 1) x y n - (if n % t = 0 then (t : Int) * dsR (k - 1) x y (n / t) else 0) else if n % t = 0 then dsR (k - 1) x y (n / t) else 0 := fun n => rfl
  have lt8 : ∀ n, n ≤ 400 → (dsR (k - 1) x y n).natAbs < 2 ^ 8000 := fun n hn => Nat.lt_trans (dsR_le hn (show k - 1 ≤ 24 by omega)) (Nat.pow_lt_pow_right (by decide) (by decide))
  have tl : ((t : Nat) : Int).natAbs < 2 ^ 8000 := by rw [Int.natAbs_natCast]; exact Nat.lt_of_le_of_lt t4 (by decide)
  have lb : ∀ n, n ≤ 400 → CMulW (fstV k x y t).2 (latV k x y t n) := fun n hn => mul8 (Nat.lt_trans f2 (Nat.pow_lt_pow_right (by decide) (by decide))) (Nat.lt_trans (latV_le ok hn) (Nat.pow_lt_pow_right (by decide) (by decide)))
  clear hL s1 s2 s3 hS hS2 h2 f1 f2 hP hp
  dsimp only [gName]
  refine ⟨_, rfl, 1, (M : Int), rfl, by omega, for_range (lo := 1) (n := ((M : Int) - 1).toNat) (fun i σ H' => Same H H' ∧ H' pS = some (.lst (rowL M (dsR (k - 1) x y))) ∧ H' pf = some (.tup [.int (fstV k x y t).1, .int (fstV k x y t).2]) ∧ H' L = some (.lst ((List.range i).map fun i => V.int (latV k x y t (i + 1)))) ∧ ∃ o10 : Option V, σ = [some (.ref p), some (.int (M : Int)), some (.str (Str.ofString "sum")), some (.int (k : Int)), some (.int x), some (.int y), some (.int (t : Int)), some (.ref pS), some (.ref L), some (.ref pf), o10, none]) ⟨s03, hS3, hf, h3, none, rfl⟩ ?_ ?_⟩
  · rintro i σ H4 hi ⟨s4, hS4, hf4, h4, o10, rfl⟩
    have hi : i + 1 < M := by omega
    dsimp only [gName]
    rw [show (1 : Int) + (i : Int) = ((i + 1 : Nat) : Int) by omega]
    have li := lat (i + 1)
    have fin : ∀ {H5 : Hp} (z : Int), Same H4 H5 → z = latV k x y t (i + 1) → H5 L = some (.lst ((List.range i).map fun i => V.int (latV k x y t (i + 1)))) ∧ ((List.range i).map fun i => V.int (latV k x y t (i + 1))).length < sizeLine ∧ Same H (upd H5 L (.lst (((List.range i).map fun i => V.int (latV k x y t (i + 1))) ++ [V.int z]))) ∧ (upd H5 L (.lst (((List.range i).map fun i => V.int (latV k x y t (i + 1))) ++ [V.int z]))) pS = some (.lst (rowL M (dsR (k - 1) x y))) ∧ (upd H5 L (.lst (((List.range i).map fun i => V.int (latV k x y t (i + 1))) ++ [V.int z]))) pf = some (.tup [.int (fstV k x y t).1, .int (fstV k x y t).2]) ∧ (upd H5 L (.lst (((List.range i).map fun i => V.int (latV k x y t (i + 1))) ++ [V.int z]))) L = some (.lst ((List.range (i + 1)).map fun i => V.int (latV k x y t (i + 1)))) := fun {H5} z s5 e => by
      subst e
      refine ⟨s5 _ _ h4, ?_, fun b o e => ?_, ?_, ?_, ?_⟩
      · rw [List.length_map, List.length_range]
        exact Nat.lt_of_le_of_lt (by omega : i ≤ 400) (by decide)
      · rw [upd_ne (ne_of_none e hL0)]
        exact s5 _ _ (s4 _ _ e)
      · rw [upd_ne nS]
        exact s5 _ _ hS4
      · rw [upd_ne nf]
        exact s5 _ _ hf4
      · rw [upd_same, List.range_succ, List.map_append]
        rfl
    obtain ⟨n, hn⟩ : ∃ n, n = i + 1 := ⟨_, rfl⟩
    rw [← hn] at li fin hi ⊢
    have di : ∀ c, c ≤ n → ((rowL M (dsR (k - 1) x y)))[c]? = some (V.int (dsR (k - 1) x y c)) := fun c hc => rowL_get _ (by omega)
    refine ⟨_, rfl, _, rfl, _, rfl, (by show (3 : Nat) ≤ sizeLine; decide), fun p1 hp1 => ?_⟩
    have s5 : Same H4 (upd H4 p1 (.tup [V.int (k : Int), V.int x, V.int y])) := Same.upd_new hp1
    have h1 : (upd H4 p1 (.tup [V.int (k : Int), V.int x, V.int y])) p1 = some (.tup [V.int (k : Int), V.int x, V.int y]) := upd_same
    generalize upd H4 p1 (.tup [V.int (k : Int), V.int x, V.int y]) = H5 at s5 h1
    refine ⟨(by show (3 : Nat) ≤ sizeLine; decide), fun p2 hp2 => ?_⟩
    have s6 : Same H5 (upd H5 p2 (.tup [V.int 2, V.int 1, V.int 1])) := Same.upd_new hp2
    have h2 : (upd H5 p2 (.tup [V.int 2, V.int 1, V.int 1])) p2 = some (.tup [V.int 2, V.int 1, V.int 1]) := upd_same
    generalize upd H5 p2 (.tup [V.int 2, V.int 1, V.int 1]) = H6 at s6 h2
    have s46 := s5.trans s6
    have hS6 := s46 _ _ hS4
    have h6 := s46 _ _ h4
    have hnt : n / t < M := Nat.lt_of_le_of_lt (Nat.div_le_self _ _) hi
    have t0 : (0 : Int) < (t : Int) := by omega
    refine ⟨.tuple [.int (k : Int), .int x, .int y], .tuple [.int 2, .int 1, .int 1], .tup (SqT.of (s6 _ _ h1)) (.cons (.int _) (.cons (.int _) (.cons (.int _) .nil))), .tup (SqT.of h2) (.cons (.int _) (.cons (.int _) (.cons (.int _) .nil))), rfl, rfl, isPl k x y, congrArg V.bl (eqv_pl k x y), ?_⟩
    refine if_by2 (fun hpl => ?_) fun hpl => ?_
    · rw [hpl, if_pos rfl] at li
      refine ⟨_, rfl, .inl ⟨rfl, _, SqL.of h6⟩, ?_⟩
      refine ⟨_, rfl, _, rfl, .inl ⟨pS, _, ((n : Nat) : Int), _, rfl, rfl, SqL.of hS6, atI_nat (di n (Nat.le_refl _)), ?_⟩⟩
      refine ⟨_, rfl, .inl ⟨_, rfl, _, rfl, _, _, rfl, rfl, t0, rfl, _, rfl, ifI (fun e => ?_) fun e => ?_⟩⟩
      · have e' : n % t = 0 := Int.ofNat.inj e
        rw [if_pos e'] at li
        refine ⟨_, rfl, _, rfl, _, rfl, _, rfl, _, _, rfl, rfl, cdivN (by omega) (by omega), .inl ⟨pS, _, ((n / t : Nat) : Int), _, rfl, congrArg V.int (Int.natCast_ediv n t).symm, SqL.of hS6, atI_nat (di _ (Nat.div_le_self _ _)), ?_⟩⟩
        refine ⟨_, _, rfl, rfl, mul8 tl (lt8 _ (by omega)), _, _, rfl, rfl, ?_⟩
        obtain ⟨w1, w2, w3⟩ := fin (dsR (k - 1) x y n - (t : Int) * dsR (k - 1) x y (n / t)) s46 li.symm
        exact ⟨L, _, _, rfl, rfl, w1, w2, w3.1, w3.2.1, w3.2.2.1, w3.2.2.2, _, rfl⟩
      · have e' : ¬ n % t = 0 := fun z => e (congrArg Int.ofNat z)
        rw [if_neg e'] at li
        refine ⟨_, _, rfl, rfl, ?_⟩
        obtain ⟨w1, w2, w3⟩ := fin (dsR (k - 1) x y n - 0) s46 li.symm
        exact ⟨L, _, _, rfl, rfl, w1, w2, w3.1, w3.2.1, w3.2.2.1, w3.2.2.2, _, rfl⟩
    · rw [hpl, if_neg (by decide)] at li
      refine ⟨_, rfl, .inl ⟨rfl, _, SqL.of h6⟩, ?_⟩
      refine ⟨_, rfl, .inl ⟨_, rfl, _, rfl, _, _, rfl, rfl, t0, rfl, _, rfl, ifI (fun e => ?_) fun e => ?_⟩⟩
      · have e' : n % t = 0 := Int.ofNat.inj e
        rw [if_pos e'] at li
        refine ⟨_, rfl, _, rfl, _, rfl, _, _, rfl, rfl, cdivN (by omega) (by omega), .inl ⟨pS, _, ((n / t : Nat) : Int), _, rfl, congrArg V.int (Int.natCast_ediv n t).symm, SqL.of hS6, atI_nat (di _ (Nat.div_le_self _ _)), ?_⟩⟩
        obtain ⟨w1, w2, w3⟩ := fin (dsR (k - 1) x y (n / t)) s46 li.symm
        exact ⟨L, _, _, rfl, rfl, w1, w2, w3.1, w3.2.1, w3.2.2.1, w3.2.2.2, _, rfl⟩
      · have e' : ¬ n % t = 0 := fun z => e (congrArg Int.ofNat z)
        rw [if_neg e'] at li
        obtain ⟨w1, w2, w3⟩ := fin 0 s46 li.symm
        exact ⟨L, _, _, rfl, rfl, w1, w2, w3.1, w3.2.1, w3.2.2.1, w3.2.2.2, _, rfl⟩
  rintro σ H4 ⟨s4, hS4, hf4, h4, o10, rfl⟩
  rw [show ((M : Int) - 1).toNat = M - 1 by omega] at h4
  have fr4 : Fr H4 (.ref pf) (fstV k x y t) := ⟨pf, rfl, hf4⟩
  have er : (rowT k x y t M).map V.int = V.int (fstV k x y t).1 :: (List.range (M - 1)).map fun i => V.int ((fstV k x y t).2 * latV k x y t (i + 1)) := by
    unfold rowT
    rw [List.map_cons, List.map_map]
    rfl
  dsimp only
  refine ⟨_, rfl, fr1 fr4 ⟨_, rfl, fr0 fr4 ⟨(by show (1 : Nat) ≤ sizeLine; decide), fun pA hpA => ?_⟩⟩⟩
  obtain ⟨F1, hF1⟩ : ∃ z, z = (fstV k x y t).1 := ⟨_, rfl⟩
  obtain ⟨F2, hF2⟩ : ∃ z, z = (fstV k x y t).2 := ⟨_, rfl⟩
  have s5 : Same H4 (upd H4 pA (.tup [V.int (fstV k x y t).1])) := Same.upd_new hpA
  have hA : (upd H4 pA (.tup [V.int (fstV k x y t).1])) pA = some (.tup [V.int (fstV k x y t).1]) := upd_same
  generalize upd H4 pA (.tup [V.int (fstV k x y t).1]) = H5 at s5 hA
  have hL5 := s5 _ _ h4
  have fr5 := fr4.same s5
  refine ⟨_, rfl, L, rfl, ⟨_, SqL.of hL5⟩, fun D2 hD2 => ?_⟩
  refine lc_it (walk_list (xs := (List.range (M - 1)).map fun i => V.int (latV k x y t (i + 1)))) (fun i H' => Same H5 H' ∧ H' D2 = some (.lst ((List.range i).map fun i => V.int ((fstV k x y t).2 * latV k x y t (i + 1))))) ⟨Same.upd_new hD2, upd_same⟩ (fun i H' _ ⟨z, _⟩ => SqL.of (z _ _ hL5)) ?_ ?_
  · rintro i v H6 _ hi ⟨s6, h6⟩ ⟨rfl, hv⟩
    rw [List.length_map, List.length_range] at hi
    obtain rfl : v = V.int (latV k x y t (i + 1)) := by
      rw [List.getElem?_map, List.getElem?_range hi] at hv
      exact (Option.some.inj hv).symm
    refine ⟨rfl, _, rfl, fr1 (fr5.same s6) ⟨_, rfl, _, _, rfl, rfl, lb _ (by omega), ?_⟩⟩
    refine ⟨_, h6, ?_, fun b o e => ?_, ?_⟩
    · rw [List.length_map, List.length_range]
      exact Nat.lt_of_le_of_lt (by omega : i ≤ 400) (by decide)
    · rw [upd_ne (ne_of_none e hD2)]
      exact s6 _ _ e
    · rw [upd_same, List.range_succ, List.map_append]
      rfl
  rintro H6 ⟨s6, h6⟩
  rw [List.length_map, List.length_range] at h6
  refine ⟨D2, _, rfl, .inl ⟨SqL.of h6, fun pB hpB => ?_⟩⟩
  have s7 : Same H6 (upd H6 pB (.tup ((List.range (M - 1)).map fun i => V.int ((fstV k x y t).2 * latV k x y t (i + 1))))) := Same.upd_new hpB
  have hB7 : (upd H6 pB (.tup ((List.range (M - 1)).map fun i => V.int ((fstV k x y t).2 * latV k x y t (i + 1))))) pB = some (.tup ((List.range (M - 1)).map fun i => V.int ((fstV k x y t).2 * latV k x y t (i + 1)))) := upd_same
  generalize upd H6 pB (.tup ((List.range (M - 1)).map fun i => V.int ((fstV k x y t).2 * latV k x y t (i + 1)))) = H7 at s7 hB7
  have hA7 := s7 _ _ (s6 _ _ hA)
  have s07 := s4.trans (s5.trans (s6.trans s7))
  have fin : ∀ {H8 : Hp} {pT : Addr}, Same H7 H8 → H8 pT = some (.tup ((rowT k x y t M).map V.int)) → 2 ≤ sizeLine ∧ ∀ p9, H8 p9 = none → Q (.ref p9) (upd H8 p9 (.tup [V.int (fstV k x y t).2, V.ref pT])) := fun {H8 pT} s8 h8 => ⟨by decide, fun p9 hp9 => q _ _ (s07.trans (s8.trans (Same.upd_new hp9))) ⟨p9, pT, rfl, upd_same, (Same.upd_new hp9) _ _ h8⟩⟩
  refine ⟨pA, pB, _, _, rfl, rfl, SqT.of hA7, SqT.of hB7, ?_, fun e => (by cases e), fun _ e => ?_, fun _ _ pC hpC => ?_⟩
  · rw [List.length_map, List.length_range]
    exact Nat.le_trans (by show 1 + (M - 1) ≤ 400; omega) (by decide)
  · refine fin (Same.refl _) ?_
    rw [er, e]
    exact hA7
  · refine fin (Same.upd_new hpC) ?_
    rw [er]
    exact upd_same
end
end Ft

set_option exponentiation.threshold 9000
namespace Ft
open PySem L2
def sp_divisors : Sp := fun vs H Q _ => ∃ n : Nat, vs = [.int (n : Int)] ∧ 1 ≤ n ∧ n ≤ 100000 ∧ ∀ H' p, Same H H' → H' p = some (.tup ((dvs n).map fun d : Nat => V.int (d : Int))) → Q (.ref p) H'
def sp_dsum : Sp := fun vs H Q _ => ∃ (n k : Nat) (a b : Int), vs = [.int (n : Int), .int (k : Int), .int a, .int b] ∧ 1 ≤ n ∧ n ≤ 100000 ∧ k ≤ 24 ∧ isSign a = true ∧ isSign b = true ∧ ∀ H', Same H H' → Q (.int (dsF k a b n)) H'
section
variable {P : Program} {w : World} {K : PySem.W.Frag} {mg : Str → Option Value} {base : Heap}
end
end Ft

set_option exponentiation.threshold 9000
namespace Ft
open PySem L2
/-! ### told rows of pieces are in lowest terms -/
theorem fst_LowT {k : Nat} {x y : Int} {t : Nat} (ok : PcOk k x y t) (ps : PcS x y) : LowT (fstV k x y t) := by
  have k1 := ok.k1
  have k24 := ok.k24
  have z : LowT ((0 : Int), (1 : Int)) := ⟨by decide, by decide⟩
  unfold fstV
  split
  · exact low_LowT (by decide)
  · split
    · split
      · rename_i hy
        obtain ⟨_, _, _, b3⟩ := bnv_ok (k := 1) ok.sx (ps.1 hy) (by decide)
        exact (nprod_val (y := (-1, 2)) b3 (by decide)).1
      · exact z
    · split
      · rename_i hx
        obtain ⟨_, _, _, b3⟩ := bnv_ok (k := k) ok.sy (ps.2 hx) k24
        exact (nprod_val (y := (-1, 2 * (k : Int))) b3 (by show (0 : Int) < 2 * (k : Int); omega)).1
      · exact z
theorem low_id {b : Int} {t : Int} {ts : List Int} (h : Nat.gcd b.natAbs t.natAbs = 1) : lowB b (t :: ts) = b ∧ lowT b (t :: ts) = t :: ts := by
  have e : gcdL b.natAbs (t :: ts) = 1 := by
    show gcdL (Nat.gcd b.natAbs t.natAbs) ts = 1
    rw [h]
    exact gcdL_one ts
  unfold lowB lowT
  rw [e]
  refine ⟨Int.ediv_one _, ?_⟩
  conv => rhs; rw [← List.map_id (t :: ts)]
  exact List.map_congr_left fun x _ => Int.ediv_one x
theorem rowT_low {k : Nat} {x y : Int} {t M : Nat} (ok : PcOk k x y t) (ps : PcS x y) : lowB (fstV k x y t).2 (rowT k x y t M) = (fstV k x y t).2 ∧ lowT (fstV k x y t).2 (rowT k x y t M) = rowT k x y t M := by
  have h := (fst_LowT ok ps).co
  unfold rowT
  exact low_id (by rw [Nat.gcd_comm]; exact h)
/-! ### signs by squares, small -/
theorem sqI_big {d : Int} {z : Int} (hz : z ≠ 0) (h : z.natAbs < (d * d).natAbs) : ∀ f, sqI d f z = z
  | 0 => rfl
  | f + 1 => by
    show (if z % (d * d) = 0 then sqI d f (z / (d * d)) else z) = z
    rw [if_neg]
    intro e
    have := Int.natAbs_dvd_natAbs.mpr (Int.dvd_of_emod_eq_zero e)
    have := Nat.le_of_dvd (by omega) this
    omega
theorem sqA_stop {z : Int} (hz : z ≠ 0) (h : z.natAbs ≤ 400) : ∀ i, sqA z (19 + i) = sqA z 19
  | 0 => rfl
  | i + 1 => by
    show sqI ((2 : Int) + ((19 + i : Nat) : Int)) 20 (sqA z (19 + i)) = _
    rw [sqA_stop hz h i]
    obtain ⟨a, b⟩ := sqA_ok hz 19
    refine sqI_big a ?_ 20
    have e : (2 : Int) + ((19 + i : Nat) : Int) = ((21 + i : Nat) : Int) := by omega
    rw [e, Int.natAbs_mul, Int.natAbs_natCast]
    have : 21 * 21 ≤ (21 + i) * (21 + i) := Nat.mul_le_mul (by omega) (by omega)
    omega
theorem sgn_all : (List.range 801).all (fun i => decide ((i : Int) - 400 = 0) || decide ((if sqA ((i : Int) - 400) 19 % 4 = 1 then sqA ((i : Int) - 400) 19 else 4 * sqA ((i : Int) - 400) 19) = anySign ((i : Int) - 400))) = true := by decide +kernel
theorem lawSgn_eq {z : Int} (hz : z ≠ 0) (h : z.natAbs ≤ 400) : lawSgnOf z = anySign z := by
  have c := List.all_eq_true.mp sgn_all (z + 400).toNat (List.mem_range.mpr (by omega))
  rw [show (((z + 400).toNat : Nat) : Int) - 400 = z by omega, decide_eq_false hz, Bool.false_or] at c
  unfold lawSgnOf
  rw [show 398 = 19 + 379 from rfl, sqA_stop hz h]
  exact of_decide_eq_true c
theorem anySgn_le {z : Int} (hz : z ≠ 0) (h : z.natAbs ≤ 400) : (anySign z).natAbs ≤ 1600 := by
  rw [← lawSgn_eq hz h]
  have := (sqA_ok hz 398).2
  unfold lawSgnOf
  split <;> omega
def sp_sumLevel : Sp := fun vs H Q _ => ∃ v k x y t, vs = [v] ∧ PcAt H v k x y t ∧ PcOk k x y t ∧ x.natAbs ≤ 400 ∧ y.natAbs ≤ 400 ∧ ∀ H', Same H H' → Q (.int (((x * y).natAbs * t : Nat) : Int)) H'
def sp_sumSign : Sp := fun vs H Q _ => ∃ v k x y t, vs = [v] ∧ PcAt H v k x y t ∧ PcOk k x y t ∧ ∀ H', Same H H' → Q (.int (anySign (x * y))) H'
section
variable {P : Program} {w : World} {K : PySem.W.Frag} {mg : Str → Option Value} {base : Heap}
theorem fn_sumLevel {f : Addr} {fd : FuncData} (F : Fun K "sum_level" "sum_level" s_sum_level f fd) (B : Bi mg) (c_check_divisor_piece : Cal P w K mg base 5 "check_divisor_piece" sp_checkPiece) : FnOk P w K mg base CX0 6 f fd ["divisor_piece"] sp_sumLevel := by
  have sc := sc_sum_level
  refine F.ok sc (fun _ _ _ _ ⟨_, _, _, _, _, e, _⟩ => by rw [e]; rfl) (fun cdv A outer s H vs Q E hr h => ?_)
  obtain ⟨v, k, x, y, t, rfl, hP, ok, x4, y4, q⟩ := h
  refine ⟨_, (pss_cons (ps_expr (pe_c c_check_divisor_piece hr (by decide) (by rfl) (pa_cons (pv 0) pa_nil)))
      (pss_cons (ps_asg (pv 0) (pg_tup rfl (pgs_cons (pg_name (i := 1) sc.nd rfl (Or.inl rfl)) (pgs_cons (pg_name (i := 2) sc.nd rfl (Or.inl rfl)) (pgs_cons (pg_name (i := 3) sc.nd rfl (Or.inl rfl)) (pgs_cons (pg_name (i := 4) sc.nd rfl (Or.inl rfl)) (pgs_cons (pg_name (i := 5) sc.nd rfl (Or.inl rfl)) pgs_nil)))))))
      (pss_one (ps_ret (pe_op op_mulW (pe_callB call_abs (by rfl) B.abs (by decide +kernel) (pa_cons (pe_op op_mulW (pv 3) (pv 4)) pa_nil)) (pv 5)))))), ?_⟩
  refine ⟨_, rfl, v, k, x, y, t, rfl, hP, ok, fun H1 s1 => ?_⟩
  obtain ⟨p, rfl, hp⟩ := hP.same s1
  refine ⟨_, rfl, p, _, rfl, SqT.of hp, rfl, _, _, rfl, _, _, rfl, _, _, rfl, _, _, rfl, _, _, rfl, rfl, ?_⟩
  dsimp only [gName]
  have t4 := ok.t4
  have xyl : (x * y).natAbs ≤ 160000 := by rw [Int.natAbs_mul]; exact Nat.mul_le_mul x4 y4
  refine ⟨_, rfl, _, rfl, _, _, rfl, rfl, mul8 (Nat.lt_of_le_of_lt x4 (by decide)) (Nat.lt_of_le_of_lt y4 (by decide)), _, rfl, ?_⟩
  rw [abs_ifN]
  refine ⟨_, rfl, _, _, rfl, rfl, mul8 (by rw [Int.natAbs_natCast]; exact Nat.lt_of_le_of_lt xyl (by decide)) (by rw [Int.natAbs_natCast]; exact Nat.lt_of_le_of_lt t4 (by decide)), ?_⟩
  have := q H1 s1
  rw [Int.natCast_mul] at this
  exact this
theorem fn_sumSign {f : Addr} {fd : FuncData} (F : Fun K "sum_sign" "sum_sign" s_sum_sign f fd) (c_check_divisor_piece : Cal P w K mg base 5 "check_divisor_piece" sp_checkPiece) (c_joined_sign : Cal P w K mg base 5 "joined_sign" sp_joined_sign) : FnOk P w K mg base CX0 6 f fd ["divisor_piece"] sp_sumSign := by
  have sc := sc_sum_sign
  refine F.ok sc (fun _ _ _ _ ⟨_, _, _, _, _, e, _⟩ => by rw [e]; rfl) (fun cdv A outer s H vs Q E hr h => ?_)
  obtain ⟨v, k, x, y, t, rfl, hP, ok, q⟩ := h
  refine ⟨_, (pss_cons (ps_expr (pe_c c_check_divisor_piece hr (by decide) (by rfl) (pa_cons (pv 0) pa_nil)))
      (pss_one (ps_ret (pe_c c_joined_sign hr (by decide) (by rfl) (pa_cons (pe_ix (show IxR _ (rIx K) from ix_seq) (pv 0) pe_int (fun _ _ => rfl)) (pa_cons (pe_ix (show IxR _ (rIx K) from ix_seq) (pv 0) pe_int (fun _ _ => rfl)) pa_nil)))))), ?_⟩
  refine ⟨_, rfl, v, k, x, y, t, rfl, hP, ok, fun H1 s1 => ?_⟩
  obtain ⟨p, rfl, hp⟩ := hP.same s1
  refine ⟨_, rfl, .inr (.inl ⟨p, _, 2, _, rfl, rfl, SqT.of hp, atI_nat (j := 2) rfl, ?_⟩)⟩
  refine ⟨_, rfl, .inr (.inl ⟨p, _, 3, _, rfl, rfl, SqT.of hp, atI_nat (j := 3) rfl, ?_⟩)⟩
  exact ⟨x, y, rfl, ⟨ok.sx, ok.sy⟩, q _ s1⟩
end
end Ft

set_option exponentiation.threshold 9000
namespace Ft
open PySem L2
/-! ### what the functions of divisor pieces refuse, and what they tell -/
theorem fnok_or {P : Program} {w : World} {K : PySem.W.Frag} {mg : Str → Option Value} {base : Heap} {CX : CXT} {k : Nat} {f : Addr} {fd : FuncData} {ps : List Str} {s1 s2 : Sp} (a : FnOk P w K mg base CX k f fd ps s1) (b : FnOk P w K mg base CX k f fd ps s2) :
    FnOk P w K mg base CX k f fd ps (fun vs H Q E => s1 vs H Q E ∨ s2 vs H Q E) :=
  ⟨fun vs H Q E h => h.elim (a.len vs H Q E) (b.len vs H Q E), fun A outer s H args us vs Q E hr e bi r h => h.elim (a.run A outer s H args us vs Q E hr e bi r) (b.run A outer s H args us vs Q E hr e bi r)⟩
theorem fnok_mono {P : Program} {w : World} {K : PySem.W.Frag} {mg : Str → Option Value} {base : Heap} {CX : CXT} {k : Nat} {f : Addr} {fd : FuncData} {ps : List Str} {s1 s2 : Sp} (a : FnOk P w K mg base CX k f fd ps s1) (h : ∀ vs H Q E, s2 vs H Q E → s1 vs H Q E) : FnOk P w K mg base CX k f fd ps s2 :=
  ⟨fun vs H Q E q => a.len vs H Q E (h vs H Q E q), fun A outer s H args us vs Q E hr e bi r q => a.run A outer s H args us vs Q E hr e bi r (h vs H Q E q)⟩
theorem dead {X : Cx} {ss : List Stmt} : PSs X ss (fun _ _ _ => False) := ⟨fun _ _ _ _ _ _ h => h.elim⟩
theorem fnok_lift {P : Program} {w : World} {K : PySem.W.Frag} {mg : Str → Option Value} {base : Heap} {k : Nat} {f : Addr} {fd : FuncData} {ps : List Str} {sp : Sp} (F : FnOk P w K mg base CX0 k f fd ps sp) : FnOk P w K mg base (L2.CX P w) k f fd ps sp :=
  ⟨F.len, fun A outer s H args us vs Q E hr he hb hv hs => codeAny_mono (F.run A outer s H args us vs Q E hr he hb hv hs) fun r s' h => by
    rcases r with e | fl
    · exact h.elim
    cases fl
    case ret v => exact h
    all_goals exact h.elim⟩
abbrev pcD (k : Nat) (x y : Int) (t : Nat) : PyData := .tuple [.str (Str.ofString "sum"), .int (k : Int), .int x, .int y, .int (t : Int)]
theorem PcOk.le {k : Nat} {x y : Int} {t : Nat} (h : PcOk k x y t) : x.natAbs ≤ 400 ∧ y.natAbs ≤ 400 ∧ PcS x y := by
  have a := (isSign_le h.sx).1
  have b := (isSign_le h.sy).1
  exact ⟨a, b, fun _ => a, fun _ => b⟩
theorem dq_piece {H : Hp} {N : Addr → Prop} {v : V} {k : Nat} {x y : Int} {t : Nat} (h : Dq H N v (pcD k x y t)) : PcAt H v k x y t := by
  obtain ⟨p, xs, rfl, np, rp, hx⟩ := h.tup_inv
  cases hx with
  | cons h0 hx => cases hx with
    | cons h1 hx => cases hx with
      | cons h2 hx => cases hx with
        | cons h3 hx => cases hx with
          | cons h4 hx =>
            cases hx
            cases h0
            cases h1
            cases h2
            cases h3
            cases h4
            cases rp
            exact ⟨p, rfl, by assumption⟩
def sp_cntQ (C : Addr) : Sp := fun vs H Q E => ∃ v d N, vs = [v] ∧ Dq H N v d ∧ (btwD 1 400 d = true → Q .non H) ∧ (btwD 1 400 d = false → Rz E C "thing" v H)
def sp_ckPcQ (C : Addr) : Sp := fun vs H Q E => ∃ v d N, vs = [v] ∧ Dq H N v d ∧ smallI d ∧ (pieceD d = true → ∀ H', Same H H' → Q .non H') ∧ (pieceD d = false → Rz E C "thing" v H)
/-- what is asked of a piece alone -/
def sp_tellQ (C : Addr) (A : Nat → Int → Int → Nat → Hp → V → Prop) : Sp := fun vs H Q E => ∃ v d N, vs = [v] ∧ Dq H N v d ∧ smallI d ∧ (pieceD d = false → Rz E C "thing" v H) ∧ ∀ k x y t, d = pcD k x y t → PcOk k x y t → ∀ H' r, Same H H' → A k x y t H' r → Q r H'
def lvA (_ : Nat) (x y : Int) (t : Nat) (_ : Hp) (r : V) : Prop := r = .int (((x * y).natAbs * t : Nat) : Int)
def sgA (_ : Nat) (x y : Int) (_ : Nat) (_ : Hp) (r : V) : Prop := r = .int (anySign (x * y))
def fsA (k : Nat) (x y : Int) (t : Nat) (H : Hp) (r : V) : Prop := Fr H r (fstV k x y t)
def sp_termsQ (C0 C1 : Addr) : Sp := fun vs H Q E => ∃ v u d e N M, vs = [v, u] ∧ Dq H N v d ∧ smallI d ∧ Dq H M u e ∧ (pieceD d = false → Rz E C0 "thing" v H) ∧ (pieceD d = true → btwD 1 400 e = false → Rz E C1 "thing" u H) ∧ ∀ (k : Nat) (x y : Int) (t m : Nat), d = pcD k x y t → PcOk k x y t → e = .int (m : Int) → 1 ≤ m → m ≤ 400 → ∀ H' r, Same H H' → Bg H' r (fstV k x y t).2 (rowT k x y t m) → Q r H'
section
variable {P : Program} {w : World} {K : PySem.W.Frag} {mg : Str → Option Value} {base : Heap}
theorem cx_checkCountQ {C : Addr} (D : Df K mg "check_count" s_check_count ["many"]) (T : Err P w K mg base "BadCount" C "thing") (c_is_between : Cal P w K mg base 2 "is_between" sp_betweenQ) : CalX P w K mg base 4 "check_count" (sp_cntQ C) := by
  obtain ⟨f, fd, F, m, b⟩ := D.ex
  have sc := sc_check_count
  refine ⟨f, fd, _, F.okX sc (fun _ _ _ _ ⟨_, _, _, e, _⟩ => by rw [e]; rfl) (fun cdv A outer s H vs Q E hr h => ?_), m, F.kp, b⟩
  obtain ⟨v, d, N, rfl, hd, q1, q2⟩ := h
  refine ⟨_, (pss_one (ps_if (pt_not (pt_val (pe_c c_is_between hr (by decide) (by rfl) (pa_cons (pv 0) (pa_cons pe_int (pa_cons pe_int pa_nil))))))
      (pss_one (ps_raise rfl (takes_of rfl rfl rfl rfl) (pmk_err T hr (by decide) (by rfl) (pa_cons (pv 0) pa_nil))))
      pss_nil)), ?_⟩
  refine ⟨_, rfl, v, d, N, 1, 400, rfl, hd, _, rfl, ?_⟩
  cases hf : btwD 1 400 d with
  | true => exact iteF (q1 hf)
  | false => exact iteT ⟨_, rfl, v, rfl, fun d hd => q2 hf _ _ (Same.refl _) hd⟩
theorem cx_checkPieceQ {C : Addr} (D : Df K mg "check_divisor_piece" s_check_divisor_piece ["divisor_piece"]) (T : Err P w K mg base "BadSum" C "thing") (c_is_divisor_piece : Cal P w K mg base 4 "is_divisor_piece" sp_pieceQ) : CalX P w K mg base 5 "check_divisor_piece" (sp_ckPcQ C) := by
  obtain ⟨f, fd, F, m, b⟩ := D.ex
  have sc := sc_check_divisor_piece
  refine ⟨f, fd, _, F.okX sc (fun _ _ _ _ ⟨_, _, _, e, _⟩ => by rw [e]; rfl) (fun cdv A outer s H vs Q E hr h => ?_), m, F.kp, b⟩
  obtain ⟨v, d, N, rfl, hd, hs, q1, q2⟩ := h
  refine ⟨_, (pss_one (ps_if (pt_not (pt_val (pe_c c_is_divisor_piece hr (by decide) (by rfl) (pa_cons (pv 0) pa_nil))))
      (pss_one (ps_raise rfl (takes_of rfl rfl rfl rfl) (pmk_err T hr (by decide) (by rfl) (pa_cons (pv 0) pa_nil))))
      pss_nil)), ?_⟩
  refine ⟨_, rfl, v, d, N, rfl, hd, hs, fun H1 s1 => ⟨_, rfl, ?_⟩⟩
  cases hf : pieceD d with
  | true => exact iteF (q1 hf _ s1)
  | false => exact iteT ⟨_, rfl, v, rfl, fun d hd => q2 hf _ _ s1 hd⟩
theorem fx_level {f : Addr} {fd : FuncData} {C : Addr} (F : Fun K "sum_level" "sum_level" s_sum_level f fd) (B : Bi mg) (c_check_divisor_piece : Cal P w K mg base 5 "check_divisor_piece" sp_checkPiece) (x_check_divisor_piece : CalX P w K mg base 5 "check_divisor_piece" (sp_ckPcQ C)) : FnOk P w K mg base (L2.CX P w) 6 f fd ["divisor_piece"] (sp_tellQ C lvA) := by
  have bad : FnOk P w K mg base (L2.CX P w) 6 f fd ["divisor_piece"] (fun vs H Q E => ∃ v d N, vs = [v] ∧ Dq H N v d ∧ smallI d ∧ pieceD d = false ∧ Rz E C "thing" v H) := by
    have sc := sc_sum_level
    refine F.okX sc (fun _ _ _ _ ⟨_, _, _, e, _⟩ => by rw [e]; rfl) (fun cdv A outer s H vs Q E hr h => ?_)
    obtain ⟨v, d, N, rfl, hd, hs, hb, r⟩ := h
    refine ⟨_, (pss_cons (ps_expr (pe_x x_check_divisor_piece hr (by decide) (by rfl) (passes_call (takes_of rfl rfl rfl rfl) fun _ _ _ _ h => h) (pa_cons (pv 0) pa_nil))) dead), ?_⟩
    exact ⟨_, rfl, v, d, N, rfl, hd, hs, (fun z => by rw [hb] at z; cases z), fun _ => r⟩
  refine fnok_mono (fnok_or (fnok_lift (fn_sumLevel F B c_check_divisor_piece)) bad) fun vs H Q E ⟨v, d, N, e, hd, hs, r, q⟩ => ?_
  cases hb : pieceD d with
  | true =>
    obtain ⟨k, t, x, y, rfl, ok⟩ := pieceD_ok hb
    obtain ⟨x4, y4, ps⟩ := ok.le
    exact .inl ⟨v, k, x, y, t, e, dq_piece hd, ok, x4, y4, fun H1 s1 => q k x y t rfl ok _ _ s1 rfl⟩
  | false => exact .inr ⟨v, d, N, e, hd, hs, hb, r hb⟩
theorem fx_sign {f : Addr} {fd : FuncData} {C : Addr} (F : Fun K "sum_sign" "sum_sign" s_sum_sign f fd) (c_check_divisor_piece : Cal P w K mg base 5 "check_divisor_piece" sp_checkPiece) (c_joined_sign : Cal P w K mg base 5 "joined_sign" sp_joined_sign) (x_check_divisor_piece : CalX P w K mg base 5 "check_divisor_piece" (sp_ckPcQ C)) : FnOk P w K mg base (L2.CX P w) 6 f fd ["divisor_piece"] (sp_tellQ C sgA) := by
  have bad : FnOk P w K mg base (L2.CX P w) 6 f fd ["divisor_piece"] (fun vs H Q E => ∃ v d N, vs = [v] ∧ Dq H N v d ∧ smallI d ∧ pieceD d = false ∧ Rz E C "thing" v H) := by
    have sc := sc_sum_sign
    refine F.okX sc (fun _ _ _ _ ⟨_, _, _, e, _⟩ => by rw [e]; rfl) (fun cdv A outer s H vs Q E hr h => ?_)
    obtain ⟨v, d, N, rfl, hd, hs, hb, r⟩ := h
    refine ⟨_, (pss_cons (ps_expr (pe_x x_check_divisor_piece hr (by decide) (by rfl) (passes_call (takes_of rfl rfl rfl rfl) fun _ _ _ _ h => h) (pa_cons (pv 0) pa_nil))) dead), ?_⟩
    exact ⟨_, rfl, v, d, N, rfl, hd, hs, (fun z => by rw [hb] at z; cases z), fun _ => r⟩
  refine fnok_mono (fnok_or (fnok_lift (fn_sumSign F c_check_divisor_piece c_joined_sign)) bad) fun vs H Q E ⟨v, d, N, e, hd, hs, r, q⟩ => ?_
  cases hb : pieceD d with
  | true =>
    obtain ⟨k, t, x, y, rfl, ok⟩ := pieceD_ok hb
    obtain ⟨x4, y4, ps⟩ := ok.le
    exact .inl ⟨v, k, x, y, t, e, dq_piece hd, ok, fun H1 s1 => q k x y t rfl ok _ _ s1 rfl⟩
  | false => exact .inr ⟨v, d, N, e, hd, hs, hb, r hb⟩
theorem fx_first {f : Addr} {fd : FuncData} {C : Addr} (F : Fun K "sum_first" "sum_first" s_sum_first f fd) (B : Bi mg) (c_check_divisor_piece : Cal P w K mg base 5 "check_divisor_piece" sp_checkPiece) (c_is_plain : Cal P w K mg base 1 "is_plain" sp_isPlain) (c_lowest_terms : Cal P w K mg base 1 "lowest_terms" sp_low) (c_number_product : Cal P w K mg base 2 "number_product" (sp_num nprod)) (c_bernoulli : Cal P w K mg base 5 "bernoulli" sp_bern) (x_check_divisor_piece : CalX P w K mg base 5 "check_divisor_piece" (sp_ckPcQ C)) : FnOk P w K mg base (L2.CX P w) 6 f fd ["divisor_piece"] (sp_tellQ C fsA) := by
  have bad : FnOk P w K mg base (L2.CX P w) 6 f fd ["divisor_piece"] (fun vs H Q E => ∃ v d N, vs = [v] ∧ Dq H N v d ∧ smallI d ∧ pieceD d = false ∧ Rz E C "thing" v H) := by
    have sc := sc_sum_first
    refine F.okX sc (fun _ _ _ _ ⟨_, _, _, e, _⟩ => by rw [e]; rfl) (fun cdv A outer s H vs Q E hr h => ?_)
    obtain ⟨v, d, N, rfl, hd, hs, hb, r⟩ := h
    refine ⟨_, (pss_cons (ps_expr (pe_x x_check_divisor_piece hr (by decide) (by rfl) (passes_call (takes_of rfl rfl rfl rfl) fun _ _ _ _ h => h) (pa_cons (pv 0) pa_nil))) dead), ?_⟩
    exact ⟨_, rfl, v, d, N, rfl, hd, hs, (fun z => by rw [hb] at z; cases z), fun _ => r⟩
  refine fnok_mono (fnok_or (fnok_lift (fn_sumFirst F B c_check_divisor_piece c_is_plain c_lowest_terms c_number_product c_bernoulli)) bad) fun vs H Q E ⟨v, d, N, e, hd, hs, r, q⟩ => ?_
  cases hb : pieceD d with
  | true =>
    obtain ⟨k, t, x, y, rfl, ok⟩ := pieceD_ok hb
    obtain ⟨x4, y4, ps⟩ := ok.le
    exact .inl ⟨v, k, x, y, t, e, dq_piece hd, ok, ps, fun H1 r s1 g => q k x y t rfl ok _ _ s1 g⟩
  | false => exact .inr ⟨v, d, N, e, hd, hs, hb, r hb⟩
theorem fx_terms {f : Addr} {fd : FuncData} {C0 C1 : Addr} (F : Fun K "sum_terms" "sum_terms" s_sum_terms f fd) (B : Bi mg) (c_check_divisor_piece : Cal P w K mg base 5 "check_divisor_piece" sp_checkPiece) (c_check_count : Cal P w K mg base 3 "check_count" sp_checkCount) (c_sum_row : Cal P w K mg base 7 "sum_row" sp_sumRow) (c_lowered : Cal P w K mg base 1 "lowered" sp_lowered) (x_check_divisor_piece : CalX P w K mg base 5 "check_divisor_piece" (sp_ckPcQ C0)) (x_check_count : CalX P w K mg base 4 "check_count" (sp_cntQ C1)) : FnOk P w K mg base (L2.CX P w) 8 f fd ["divisor_piece", "many"] (sp_termsQ C0 C1) := by
  have bad : FnOk P w K mg base (L2.CX P w) 8 f fd ["divisor_piece", "many"] (fun vs H Q E => ∃ v u d e N M, vs = [v, u] ∧ Dq H N v d ∧ smallI d ∧ Dq H M u e ∧ (pieceD d && btwD 1 400 e) = false ∧ (pieceD d = false → Rz E C0 "thing" v H) ∧ (pieceD d = true → btwD 1 400 e = false → Rz E C1 "thing" u H)) := by
    have sc := sc_sum_terms
    refine F.okX sc (fun _ _ _ _ ⟨_, _, _, _, _, _, e, _⟩ => by rw [e]; rfl) (fun cdv A outer s H vs Q E hr h => ?_)
    obtain ⟨v, u, d, e, N, M, rfl, hd, hs, he, hb, r1, r2⟩ := h
    refine ⟨_, (pss_cons (ps_expr (pe_x x_check_divisor_piece hr (by decide) (by rfl) (passes_call (takes_of rfl rfl rfl rfl) fun _ _ _ _ h => h) (pa_cons (pv 0) pa_nil))) (pss_cons (ps_expr (pe_x x_check_count hr (by decide) (by rfl) (passes_call (takes_of rfl rfl rfl rfl) fun _ _ _ _ h => h) (pa_cons (pv 1) pa_nil))) dead)), ?_⟩
    refine ⟨_, rfl, v, d, N, rfl, hd, hs, (fun z H1 s1 => ?_), r1⟩
    refine ⟨_, rfl, u, e, M, rfl, he.same s1, (fun z2 => by rw [z, z2] at hb; cases hb), fun z2 => (r2 z z2).same s1⟩
  refine fnok_mono (fnok_or (fnok_lift (fn_sumTerms F B c_check_divisor_piece c_check_count c_sum_row c_lowered)) bad) fun vs H Q E ⟨v, u, d, e, N, M, ev, hd, hs, he, r1, r2, q⟩ => ?_
  cases hb : (pieceD d && btwD 1 400 e) with
  | true =>
    obtain ⟨h1, h2⟩ := Bool.and_eq_true_iff.mp hb
    obtain ⟨k, t, x, y, rfl, ok⟩ := pieceD_ok h1
    obtain ⟨x4, y4, ps⟩ := ok.le
    obtain ⟨m, rfl, m1, m4⟩ : ∃ m : Nat, e = .int (m : Int) ∧ 1 ≤ m ∧ m ≤ 400 := by
      cases e with
      | int z =>
        have h2 := Bool.and_eq_true_iff.mp (show (decide (1 ≤ z) && decide (z ≤ 400)) = true from h2)
        have a := of_decide_eq_true h2.1
        have b := of_decide_eq_true h2.2
        exact ⟨z.toNat, by rw [Int.toNat_of_nonneg (by omega)], by omega, by omega⟩
      | none => cases h2
      | bool _ => cases h2
      | str _ => cases h2
      | list _ => cases h2
      | tuple _ => cases h2
      | dict _ => cases h2
    cases he
    refine .inl ⟨v, k, x, y, t, m, ev, dq_piece hd, ok, ps, m1, m4, fun H1 r s1 g => q k x y t m rfl ok rfl m1 m4 _ _ s1 ?_⟩
    rw [(rowT_low (M := m) ok ps).1, (rowT_low (M := m) ok ps).2] at g
    exact g
  | false => exact .inr ⟨v, u, d, e, N, M, ev, hd, hs, he, hb, r1, r2⟩
end
end Ft

set_option exponentiation.threshold 9000
namespace Ft
open PySem L2
theorem ints4 {D : PyData} (h : intsD 4 D = true) : ∃ k x y t, D = .tuple [.int k, .int x, .int y, .int t] := by
  cases D with
  | tuple ds =>
    obtain ⟨h1, h2⟩ := Bool.and_eq_true_iff.mp (show (decide (ds.length = 4) && ds.all isIntD) = true from h)
    match ds, of_decide_eq_true h1 with
    | [a, b, c, e], _ =>
      have ha := List.all_eq_true.mp h2 a (by simp)
      have hb := List.all_eq_true.mp h2 b (by simp)
      have hc := List.all_eq_true.mp h2 c (by simp)
      have he := List.all_eq_true.mp h2 e (by simp)
      have i : ∀ {d : PyData}, isIntD d = true → ∃ x, d = .int x := fun {d} h => by cases d <;> first | exact ⟨_, rfl⟩ | cases h
      obtain ⟨x, rfl⟩ := i ha
      obtain ⟨y, rfl⟩ := i hb
      obtain ⟨z, rfl⟩ := i hc
      obtain ⟨t, rfl⟩ := i he
      exact ⟨x, y, z, t, rfl⟩
  | int _ => cases h
  | str _ => cases h
  | none => cases h
  | bool _ => cases h
  | list _ => cases h
  | dict _ => cases h
section
variable {P : Program} {w : World} {K : PySem.W.Frag} {mg : Str → Option Value} {base : Heap}
theorem ok_lisSum (D : Df K mg "_law_is_sum" s__law_is_sum ["_law_thing"]) (B : Bi mg) (c__law_are_integers : Cal P w K mg base 2 "_law_are_integers" sp_tupQ) (c__law_is_sign : Cal P w K mg base 2 "_law_is_sign" sp_lisS) : Cal P w K mg base 3 "_law_is_sum" sp_pieceQ := by
  obtain ⟨f, fd, F, m, b⟩ := D.ex
  have sc := sc__law_is_sum
  refine ⟨f, fd, _, F.ok sc (fun _ _ _ _ ⟨_, _, _, e, _⟩ => by rw [e]; rfl) (fun cdv A outer s H vs Q E hr h => ?_), m, F.kp, b⟩
  obtain ⟨v, d, N, rfl, hd, hb, q⟩ := h
  have hu : (A.deeper (PyProof.Rows.envOfC "_law_is_sum" (defScope s__law_is_sum) s.heap.objs.size f cdv)).units < cLine := by have := hr.un; omega
  have h64 : (A.deeper (PyProof.Rows.envOfC "_law_is_sum" (defScope s__law_is_sum) s.heap.objs.size f cdv)).units + 64 < cLine := by have := hr.un; omega
  refine ⟨_, (pss_cons (ps_if (PW.pt (pw_or (pt_not (pt_val (pe_callB (id := "isinstance") (r := rIsi K) call_isi (by rfl) B.isinstance (by decide +kernel) (pa_cons (pv 0) (pa_cons (pe_ty (n := "tuple") (by rfl) B.tuple (by decide +kernel)) pa_nil))))) (pw_or (pt_cmpR op_ne (pe_callB call_len_seq (by rfl) B.len_ (by decide +kernel) (pa_cons (pv 0) pa_nil)) pe_int (nomark _)) (pw_or (pt_cmpR (op_neS hu) (pe_ix (show IxR _ (rIx K) from ix_seq) (pv 0) pe_int (fun _ _ => rfl)) pe_str (nomark _)) (pw_or1 (pt_not (pt_val (pe_c c__law_are_integers hr (by decide) (by rfl) (pa_cons (pe_slice sl_tup (pv 0) (po_some pe_int) po_none) (pa_cons pe_int pa_nil))))))))))
      (pss_one (ps_ret pe_bl))
      pss_nil)
      (pss_cons (ps_asg (pv 0) (pg_tup rfl (pgs_cons (pg_name (i := 1) sc.nd rfl (Or.inl rfl)) (pgs_cons (pg_name (i := 2) sc.nd rfl (Or.inl rfl)) (pgs_cons (pg_name (i := 3) sc.nd rfl (Or.inl rfl)) (pgs_cons (pg_name (i := 4) sc.nd rfl (Or.inl rfl)) (pgs_cons (pg_name (i := 5) sc.nd rfl (Or.inl rfl)) pgs_nil)))))))
      (pss_cons (ps_if (PW.pt (pw_or (pt_not (pt_chain op_le op_le pe_int (pv 2) pe_int)) (pw_or (pt_not (pt_val (pe_c c__law_is_sign hr (by decide) (by rfl) (pa_cons (pv 3) pa_nil)))) (pw_or (pt_not (pt_val (pe_c c__law_is_sign hr (by decide) (by rfl) (pa_cons (pv 4) pa_nil)))) (pw_or (pt_cmpR op_lt (pv 5) pe_int (nomark _)) (pw_or1 (pt_cmpR op_gt (pe_op op_mulW (pe_callB call_abs (by rfl) B.abs (by decide +kernel) (pa_cons (pe_op op_mulW (pv 3) (pv 4)) pa_nil)) (pv 5)) pe_int (nomark _))))))))
      (pss_one (ps_ret pe_bl))
      pss_nil)
      (pss_cons (ps_if (PW.pt (pw_or (pt_cmpR op_ne (pe_cmpR op_gt (pe_op op_mulW (pv 3) (pv 4)) pe_int (nomark _)) (pe_cmpR op_eq (pe_op op_mod (pe_callTy call_int1 (by rfl) B.int_ (by decide +kernel) (pa_cons (pv 2) pa_nil)) pe_int) pe_int (nomark _)) (nomark _)) (pw_or1 (PW.pt (pw_and (pt_cmpR op_eq (pv 2) pe_int (nomark _)) (pw_and1 (pt_cmpR op_ge (pv 3) (pv 4) (nomark _))))))))
      (pss_one (ps_ret pe_bl))
      pss_nil)
      (pss_one (ps_ret (pe_or (pe_cmpR (op_neD h64) (pe_tup (pa_cons (pv 2) (pa_cons (pv 3) (pa_cons (pv 4) pa_nil)))) (pe_tup (pa_cons pe_int (pa_cons pe_int (pa_cons pe_int pa_nil)))) (nomark _)) (pe_one (pe_cmpR op_gt (pv 5) pe_int (nomark _)))))))))), ?_⟩
  refine ⟨_, rfl, _, _, _, _, isTupD d, rfl, .ty _, hd.ty, kit_tupD d, _, rfl, ?_⟩
  cases hT : isTupD d with
  | false =>
    have e : pieceD d = false := by cases d <;> first | rfl | cases hT
    rw [e] at q
    exact iteT (q _ (Same.refl _))
  | true =>
  obtain ⟨ds, rfl⟩ := tup_of hT
  obtain ⟨a, xs, rfl, na, ra, hx⟩ := hd.tup_inv
  have lx := hx.length
  refine iteF ⟨_, rfl, a, xs, rfl, .inr (.inl ra), ?_⟩
  rw [lx]
  have no5 : ds.length ≠ 5 → pieceD (.tuple ds) = false := fun n => by
    cases z : pieceD (.tuple ds) with
    | false => rfl
    | true =>
      obtain ⟨k, t, x, y, ee, _⟩ := pieceD_ok z
      cases ee
      exact absurd rfl n
  refine ⟨rfl, _, rfl, ?_⟩
  by_cases l5 : ds.length = 5
  case neg =>
    rw [no5 l5] at q
    rw [decide_eq_false (by intro h; exact l5 (by have := V.int.inj h; omega))]
    exact iteT (iteT (q _ (Same.refl _)))
  rw [decide_eq_true (by rw [l5]; rfl)]
  refine iteF ?_
  obtain ⟨d0, b, c, e, g, rfl⟩ : ∃ d0 b c e g, ds = [d0, b, c, e, g] := by
    match ds, l5 with
    | [d0, b, c, e, g], _ => exact ⟨d0, b, c, e, g, rfl⟩
  obtain ⟨v0, vb, vc, ve, vg, rfl, dx0, db, dc, de, dg⟩ : ∃ v0 vb vc ve vg, xs = [v0, vb, vc, ve, vg] ∧ Dq H N v0 d0 ∧ Dq H N vb b ∧ Dq H N vc c ∧ Dq H N ve e ∧ Dq H N vg g := by
    cases hx with
    | cons h0 hx => cases hx with
      | cons h1 hx => cases hx with
        | cons h2 hx => cases hx with
          | cons h3 hx => cases hx with
            | cons h4 hx =>
              cases hx
              exact ⟨_, _, _, _, _, rfl, h0, h1, h2, h3, h4⟩
  have rp : H a = some (.tup [v0, vb, vc, ve, vg]) := by cases ra; assumption
  refine ⟨_, rfl, .inr (.inl ⟨a, _, 0, v0, rfl, rfl, .inl ra.rd, atI_nat (j := 0) rfl, d0, N, Str.ofString "sum", rfl, dx0, ?_⟩)⟩
  refine ⟨_, rfl, ?_⟩
  cases hs : strD (Str.ofString "sum") d0 with
  | false =>
    have e : pieceD (.tuple [d0, b, c, e, g]) = false := by
      cases z : pieceD (.tuple [d0, b, c, e, g]) with
      | false => rfl
      | true =>
        obtain ⟨k, t, x, y, ee, _⟩ := pieceD_ok z
        cases ee
        cases hs
    rw [e] at q
    exact iteT (iteT (q _ (Same.refl _)))
  | true =>
  have e0 : d0 = .str (Str.ofString "sum") := by
    cases d0 with
    | str x => rw [of_decide_eq_true (show decide (x = Str.ofString "sum") = true from hs)]
    | int _ => cases hs
    | none => cases hs
    | bool _ => cases hs
    | list _ => cases hs
    | tuple _ => cases hs
    | dict _ => cases hs
  subst e0
  refine iteF ?_
  refine ⟨_, rfl, _, rfl, a, _, rfl, SqT.of rp, (by show ¬ ((1 : Nat) = 0 ∧ (5 : Nat) = 5); decide), fun p1 hp1 => ?_⟩
  have ec : cutV [v0, vb, vc, ve, vg] (some 1) none = [vb, vc, ve, vg] := rfl
  rw [ec]
  have s1 : Same H (upd H p1 (.tup [vb, vc, ve, vg])) := Same.upd_new hp1
  have h1 : (upd H p1 (.tup [vb, vc, ve, vg])) p1 = some (.tup [vb, vc, ve, vg]) := upd_same
  generalize upd H p1 (.tup [vb, vc, ve, vg]) = H1 at s1 h1
  have al : ∀ {v : V} {D : PyData}, Dq H N v D → Dq H1 (fun _ => True) v D := fun h => h.move (fun b o _ e _ => s1 b o e) fun _ _ _ _ _ => trivial
  refine ⟨.ref p1, .tuple [b, c, e, g], fun _ => True, 4, rfl, .tup trivial (.inl h1) (.cons (al db) (.cons (al dc) (.cons (al de) (.cons (al dg) .nil)))), by decide, fun H2 s2 => ⟨_, rfl, ?_⟩⟩
  have s02 := s1.trans s2
  cases h4 : intsD 4 (.tuple [b, c, e, g]) with
  | false =>
    rw [piece_not (fun k x y t ea eb ec ee => by subst ea eb ec ee; cases h4)] at q
    exact iteT (q _ s02)
  | true =>
  refine iteF ?_
  obtain ⟨k, x, y, t, ee⟩ := ints4 h4
  cases ee
  cases db
  cases dc
  cases de
  cases dg
  refine ⟨_, rfl, a, _, rfl, SqT.of (s02 _ _ rp), rfl, _, _, rfl, _, _, rfl, _, _, rfl, _, _, rfl, _, _, rfl, rfl, ?_⟩
  dsimp only [gName]
  have no : pieceN k x y t = false → ∀ H', Same H2 H' → Q (.bl false) H' := fun h H' s => by
    rw [piece_not (fun k' x' y' t' ea eb ec ee => by cases ea; cases eb; cases ec; cases ee; exact h)] at q
    exact q _ (s02.trans s)
  refine ⟨_, rfl, _, _, rfl, rfl, _, rfl, ?_⟩
  by_cases k1 : 1 ≤ k
  case neg =>
    rw [decide_eq_false k1]
    exact iteF ⟨_, rfl, iteT (iteT (no (by unfold pieceN; rw [decide_eq_false k1, Bool.false_and, Bool.false_and]) _ (Same.refl _)))⟩
  rw [decide_eq_true k1]
  refine iteT ⟨_, _, rfl, rfl, _, rfl, ?_⟩
  by_cases k24 : k ≤ 24
  case neg =>
    rw [decide_eq_false k24]
    exact iteT (iteT (no (by unfold pieceN; rw [decide_eq_false k24, Bool.and_false, Bool.false_and]) _ (Same.refl _)))
  rw [decide_eq_true k24]
  have bk : (decide (1 ≤ k) && decide (k ≤ 24)) = true := by rw [decide_eq_true k1, decide_eq_true k24]; rfl
  refine iteF ⟨_, rfl, x, rfl, fun H3 s3 => ⟨_, rfl, ?_⟩⟩
  cases sx : isSign x with
  | false => exact iteT (iteT (no (by unfold pieceN; rw [sx, Bool.false_and, Bool.and_false]) _ s3))
  | true =>
  refine iteF ⟨_, rfl, y, rfl, fun H4 s4 => ⟨_, rfl, ?_⟩⟩
  have s34 := s3.trans s4
  cases sy : isSign y with
  | false => exact iteT (iteT (no (by unfold pieceN; rw [sy, Bool.false_and, Bool.and_false, Bool.and_false]) _ s34))
  | true =>
  refine iteF ⟨_, rfl, _, _, rfl, rfl, _, rfl, ?_⟩
  by_cases t1 : 1 ≤ t
  case neg =>
    rw [decide_eq_true (by omega)]
    exact iteT (iteT (no (by unfold pieceN; rw [decide_eq_false t1, Bool.false_and, Bool.and_false, Bool.and_false, Bool.and_false]) _ s34))
  rw [decide_eq_false (by omega)]
  refine iteF ?_
  obtain ⟨x4, x0, _⟩ := isSign_le sx
  obtain ⟨y4, y0, _⟩ := isSign_le sy
  have t19 : t.natAbs < 2 ^ 1900 := hb _ t rfl (by simp)
  have mxy : CMulW x y := mul8 (Nat.lt_of_le_of_lt x4 (by decide)) (Nat.lt_of_le_of_lt y4 (by decide))
  have mx : ((if x * y < 0 then -(x * y) else x * y) : Int) = ((x * y).natAbs : Int) := by split <;> omega
  have lxy : (x * y).natAbs ≤ 160000 := by
    rw [Int.natAbs_mul]
    exact Nat.mul_le_mul x4 y4
  have e0 : pieceD (.tuple [.str (Str.ofString "sum"), .int k, .int x, .int y, .int t]) = (decide (decide (0 < x * y) = decide (k % 2 = 0)) && (decide ((x * y).natAbs * t.toNat ≤ 400) && (if k = 1 then decide (x < y) else (decide (2 ≤ t) || !isPl k.toNat x y)))) := by
    show (decide (Str.ofString "sum" = Str.ofString "sum") && pieceN k x y t) = _
    rw [decide_eq_true (rfl : Str.ofString "sum" = Str.ofString "sum"), Bool.true_and]
    unfold pieceN
    rw [bk, sx, sy, decide_eq_true t1]
    rfl
  rw [e0] at q
  replace q : ∀ b : Bool, (decide (decide (0 < x * y) = decide (k % 2 = 0)) && (decide ((x * y).natAbs * t.toNat ≤ 400) && (if k = 1 then decide (x < y) else (decide (2 ≤ t) || !isPl k.toNat x y)))) = b → ∀ H', Same H4 H' → Q (.bl b) H' := fun b h H' s => by
    have := q H' (s02.trans (s34.trans s))
    rw [h] at this
    exact this
  have et : ((x * y).natAbs : Int) * t = (((x * y).natAbs * t.toNat : Nat) : Int) := by rw [Int.natCast_mul, Int.toNat_of_nonneg (by omega)]
  refine ⟨_, rfl, _, rfl, _, _, rfl, rfl, mxy, _, rfl, _, rfl, _, _, rfl, rfl, ?_, ?_⟩
  · rw [mx]
    exact wide_mul (a := 30) (b := 1900) (by rw [Int.natAbs_natCast]; exact Nat.lt_of_le_of_lt lxy (by decide)) t19 (by decide) (by decide) (by decide)
  refine ⟨_, _, rfl, rfl, _, rfl, ?_⟩
  rw [mx, et]
  by_cases hl : (x * y).natAbs * t.toNat ≤ 400
  case neg =>
    rw [decide_eq_true (by omega)]
    exact iteT (q false (by rw [decide_eq_false hl, Bool.false_and, Bool.and_false]) _ (Same.refl _))
  rw [decide_eq_false (by omega)]
  refine iteF ?_
  rw [decide_eq_true hl, Bool.true_and] at q
  dsimp only [tNext]
  have e2 : decide (V.int (k % 2) = V.int 0) = decide (k % 2 = 0) := decide_eq_decide.mpr ⟨fun z => V.int.inj z, fun z => congrArg V.int z⟩
  have e3 : (!decide (V.bl (decide (0 < x * y)) = V.bl (decide (V.int (k % 2) = V.int 0)))) = !decide (decide (0 < x * y) = decide (k % 2 = 0)) := by
    rw [e2]
    congr 1
    exact decide_eq_decide.mpr ⟨fun z => V.bl.inj z, fun z => congrArg V.bl z⟩
  refine ⟨_, rfl, _, rfl, _, _, rfl, rfl, mxy, _, _, rfl, rfl, _, rfl, .inl ⟨_, rfl, _, _, rfl, rfl, (by show (0 : Int) < 2; decide), rfl, ?_⟩⟩
  refine ⟨rfl, _, rfl, ?_⟩
  rw [show (!decide (V.bl (decide (0 < x * y)) = V.bl (decide (V.int (k % 2) = V.int 0)))) = _ from e3]
  by_cases hp : decide (0 < x * y) = decide (k % 2 = 0)
  case neg =>
    rw [decide_eq_false hp, Bool.false_and] at q
    rw [decide_eq_false hp]
    exact iteT (iteT (q false rfl _ (Same.refl _)))
  rw [decide_eq_true hp, Bool.true_and] at q
  rw [decide_eq_true hp]
  refine iteF ?_
  have go : (if k = 1 then x < y else True) → tNext { nx := tRet (tOrV (tOp (rNeD K) (tTup (tCons (tVar 2) (tCons (tVar 3) (tCons (tVar 4) tNil)))) (tTup (tCons (tC (V.int 2)) (tCons (tC (V.int 1)) (tCons (tC (V.int 1)) tNil))))) (tOp (rI0 fun i j => V.bl (decide (j < i))) (tVar 5) (tC (V.int 1)))) { nx := fun _ H' => Q V.non H', rt := Q }, rt := Q } [some (.ref a), some v0, some (V.int k), some (V.int x), some (V.int y), some (V.int t)] H4 := fun hk => by
    dsimp only [tNext]
    refine ⟨_, rfl, _, rfl, _, rfl, (by show (3 : Nat) ≤ sizeLine; decide), fun p1 hp1 => ?_⟩
    have s1 := Same.upd_new (o := .tup [V.int k, V.int x, V.int y]) hp1
    have h1 : (upd H4 p1 (.tup [V.int k, V.int x, V.int y])) p1 = some (.tup [V.int k, V.int x, V.int y]) := upd_same
    generalize upd H4 p1 (.tup [V.int k, V.int x, V.int y]) = H5 at s1 h1
    refine ⟨(by show (3 : Nat) ≤ sizeLine; decide), fun p2 hp2 => ?_⟩
    have s2 : Same H5 (upd H5 p2 (.tup [V.int 2, V.int 1, V.int 1])) := Same.upd_new hp2
    have h2 : (upd H5 p2 (.tup [V.int 2, V.int 1, V.int 1])) p2 = some (.tup [V.int 2, V.int 1, V.int 1]) := upd_same
    generalize upd H5 p2 (.tup [V.int 2, V.int 1, V.int 1]) = H6 at s2 h2
    refine ⟨.tuple [.int k, .int x, .int y], .tuple [.int 2, .int 1, .int 1], .tup (SqT.of (s2 _ _ h1)) (.cons (.int _) (.cons (.int _) (.cons (.int _) .nil))), .tup (SqT.of h2) (.cons (.int _) (.cons (.int _) (.cons (.int _) .nil))), rfl, rfl, ?_⟩
    have ee : PyData.eqv (.tuple [.int k, .int x, .int y]) (.tuple [.int 2, .int 1, .int 1]) = isPl k.toNat x y := by
      show ((k == 2) && ((x == 1) && ((y == 1) && true))) = isPl k.toNat x y
      have b1 : ∀ z c : Int, (z == c) = decide (z = c) := fun z c => by
        by_cases h : z = c
        · rw [decide_eq_true h, h]; exact beq_self_eq_true c
        · rw [decide_eq_false h]; exact beq_eq_false_iff_ne.mpr h
      rw [b1, b1, b1, Bool.and_true]
      unfold isPl
      congr 1
      exact decide_eq_decide.mpr ⟨fun h => by omega, fun h => by omega⟩
    rw [ee]
    have s := s1.trans s2
    cases hpl : isPl k.toNat x y with
    | false =>
      refine ⟨true, rfl, iteT (q true ?_ _ s)⟩
      by_cases h1 : k = 1
      · rw [if_pos h1] at hk ⊢
        exact decide_eq_true hk
      · rw [if_neg h1, hpl, Bool.not_false, Bool.or_true]
    | true =>
      refine ⟨false, rfl, iteF ⟨_, rfl, _, _, rfl, rfl, q _ ?_ _ s⟩⟩
      have h1 : k ≠ 1 := fun h => by
        subst h
        cases hpl
      rw [if_neg h1, hpl, Bool.not_true, Bool.or_false]
      exact decide_eq_decide.mpr ⟨fun h => by omega, fun h => by omega⟩
  refine ⟨_, rfl, rfl, _, rfl, ifI (fun h1 => ?_) fun h1 => ?_⟩
  · refine ⟨_, rfl, _, rfl, _, _, rfl, rfl, _, rfl, ?_⟩
    by_cases hxy : x < y
    · rw [decide_eq_false (by omega)]
      exact iteF (go (by rw [if_pos h1]; exact hxy))
    · rw [decide_eq_true (by omega)]
      exact iteT (q false (by rw [if_pos h1]; exact decide_eq_false hxy) _ (Same.refl _))
  · exact iteF (go (by rw [if_neg h1]; trivial))
end
end Ft

set_option maxHeartbeats 4000000
/-! t[::-1], t a tuple -/
namespace Ft
open PySem PySem.Spec PyProof.Rows L2 HT
section
variable {prog : Program} {w : World} {A : Around} {E : Value → Shared → Prop} {s : Shared}
theorem adjust_rev (n : Nat) : Builtin.Slice.sliceAdjust none none (-1) (n : Int) = ((n : Int) - 1, -1) := by
  unfold Builtin.Slice.sliceAdjust
  simp
theorem places_rev (n : Nat) : Builtin.Slice.slicePlaces ((n : Int) - 1) (-1) (-1) = n := by
  unfold Builtin.Slice.slicePlaces
  simp
  omega
theorem sliceApplied_rev {sl : Addr} {vs : Value} {n : Nat} {Q : Int × Int × Nat → Shared → Prop} (hs : s.heap.IsSliceOf sl .none .none vs) (ps : IsPart vs (some (-1)))
    (h : Q ((n : Int) - 1, -1, n) s) : wpAny (model prog w) A (Builtin.Slice.sliceApplied (.ref sl) (pure (n : Int))) Q E s := by
  obtain ⟨os, hos, hcs, hds⟩ := id hs
  unfold Builtin.Slice.sliceApplied Builtin.Slice.sliceFields
  refine wpAny_bind (wpAny_bind (wpAny_field hos hds (x := .none) rfl (wpAny_bind (wpAny_field hos hds (x := .none) rfl (wpAny_bind (wpAny_field hos hds (x := vs) rfl (wpAny_pure ?_)))))))
  refine wpAny_bind (slicePart_ ps ?_)
  show wpAny _ _ (if ((-1 : Int) == 0) = true then _ else _) _ _ s
  rw [if_neg (by decide)]
  refine wpAny_bind (slicePart_none (wpAny_bind (slicePart_none (wpAny_bind (wpAny_pure ?_)))))
  show wpAny _ _ (match Builtin.Slice.sliceAdjust none none (-1) (n : Int) with | (lo, hi) => pure (lo, (-1 : Int), Builtin.Slice.slicePlaces lo hi (-1))) _ _ s
  rw [adjust_rev]
  show wpAny _ _ (pure ((n : Int) - 1, (-1 : Int), Builtin.Slice.slicePlaces ((n : Int) - 1) (-1) (-1))) _ _ s
  rw [places_rev]
  exact wpAny_pure h
theorem filterMap_some {α β : Type} {f : α → Option β} {g : α → β} : ∀ l : List α, (∀ x ∈ l, f x = some (g x)) → l.filterMap f = l.map g
  | [], _ => rfl
  | x :: l, h => by
    rw [List.filterMap_cons, h x List.mem_cons_self, List.map_cons, filterMap_some l fun y hy => h y (List.mem_cons_of_mem _ hy)]
theorem pick_rev (xs : Array Value) : ((List.range xs.size).filterMap fun (m : Nat) => xs[(((xs.size : Int) - 1) + (m : Int) * -1).toNat]?).toArray = xs.toList.reverse.toArray := by
  congr 1
  have e : ∀ m ∈ List.range xs.size, xs[(((xs.size : Int) - 1) + (m : Int) * -1).toNat]? = some (xs.toList.reverse.getD m .none) := fun m hm => by
    have hm := List.mem_range.mp hm
    rw [show (((xs.size : Int) - 1) + (m : Int) * -1).toNat = xs.size - 1 - m by omega, List.getD_eq_getElem?_getD, List.getElem?_reverse (by simpa using hm), Array.length_toList, Array.getElem?_toList, Array.getElem?_eq_getElem (by omega)]
    rfl
  rw [filterMap_some _ e]
  refine List.ext_getElem? fun i => ?_
  rw [List.getElem?_map]
  rcases Nat.lt_or_ge i xs.size with h | h
  · rw [List.getElem?_range h]
    show some (xs.toList.reverse.getD i Value.none) = _
    rw [List.getD_eq_getElem?_getD]
    have : i < xs.toList.reverse.length := by simpa using h
    rw [List.getElem?_eq_getElem this]
    rfl
  · rw [List.getElem?_eq_none (by simpa using h), List.getElem?_eq_none (by simpa using h)]
    rfl
theorem getItem_tuple_rev {t sl : Addr} {items : Array Value} {vs : Value} {Q : Value → Shared → Prop} (ht : IsTup s.heap t items) (hs : s.heap.IsSliceOf sl .none .none vs) (ps : IsPart vs (some (-1)))
    (h : Q (.ref s.heap.objs.size) { s with heap := s.heap.push { cls := .type "tuple", data := .seq items.toList.reverse.toArray } })
    (hsz : items.size ≤ sizeLine) : wpAny (model prog w) A (getItem (.ref t) (.ref sl)) Q E s := by
  have htake : sizeOk (.seq items.toList.reverse.toArray) := by
    show items.toList.reverse.toArray.size ≤ sizeLine
    rw [List.size_toArray, List.length_reverse, Array.length_toList]
    exact hsz
  obtain ⟨os, hos, hcs, hds⟩ := id hs
  have hTs : s.TypeIs (.ref sl) "slice" := ⟨os, hos, hcs⟩
  unfold getItem
  try with_reducible refine wpAny_holding ?_
  first | refine wpAny_bind (wpAny_pure ?_) | skip
  refine wpAny_bind (wpAny_sequenceKey ht.typeIs (by decide) ?_)
  refine wpAny_bind (wpAny_callSpecial?_slot (name := Str.ofString "__getitem__") ht.typeIs PyProof.Rows.slot_tuple_getitem
    (wpAny_call_entry PyProof.Rows.slot_tuple_getitem ht.typeIs entry_tuple_getitem ?_ (args_tuple_getitem _ _)))
  show wpAny _ _ (Builtin.Tuple.tupleItemsOf (.ref t) >>= _) _ _ s
  refine wpAny_bind (tupleItemsOf_ ht ?_)
  refine wpAny_bind (wpAny_typeOf hTs ?_)
  rw [if_pos (by decide)]
  refine wpAny_bind (sliceApplied_rev hs ps ?_)
  have hno : ¬ ((((items.size : Int) - 1) == 0 && (-1 : Int) == 1 && items.size == items.size) = true) := by
    intro q
    rw [Bool.and_eq_true, Bool.and_eq_true] at q
    exact absurd q.1.2 (by decide)
  show wpAny _ _ (if (((items.size : Int) - 1) == 0 && (-1 : Int) == 1 && items.size == items.size) = true then _ else _) _ _ s
  rw [if_neg hno, pick_rev]
  first
    | exact wpAny_bind (m := Builtin.Tuple.tupleExact _) (wpAny_newObj_type (wpAny_pure ⟨_, rfl, wpAny_pure h⟩) htake)
    | exact wpAny_bind (m := Builtin.Tuple.tupleExact _) (wpAny_newObj_type (wpAny_bind (wpAny_pure (wpAny_pure ⟨_, rfl, wpAny_pure h⟩))) htake)
    | exact wpAny_bind (wpAny_bind (m := Builtin.Tuple.tupleExact _) (wpAny_newObj_type (wpAny_pure (wpAny_pure ⟨_, rfl, wpAny_pure h⟩)) htake))
    | exact wpAny_bind (wpAny_bind (m := Builtin.Tuple.tupleExact _) (wpAny_newObj_type (wpAny_pure ⟨_, rfl, wpAny_pure h⟩) htake))
end
section
variable {X : Cx}
def tRevT (K : PySem.W.Frag) (te : TE) : TE := fun σ H Q => te σ H fun x H1 => ∃ a xs, x = .ref a ∧ SqT K H1 a xs ∧ ∀ p, H1 p = none → Q (.ref p) (upd H1 p (.tup xs.reverse))
theorem pe_revT {e : Expr} {te : TE} {k : Nat} {p1 p2 p3 pos : Pos} (he : PE X e te) : PE X (.Subscript e (.Slice none none (some (.UnaryOp .USub (.Constant (.int 1) k p1) p2)) p3) pos) (tRevT X.K te) := by
  refine ⟨fun pins s σ H Q I h => ?_⟩
  refine Subscript_ (thn (he.run pins s σ H _ I h) fun v s1 ⟨x, H1, I1, r1, q1⟩ => ?_)
  obtain ⟨a, xs, ex, hx, q⟩ := q1
  subst ex
  cases r1
  have hst : PO X (some (.UnaryOp .USub (.Constant (.int 1) k p1) p2)) (tPart (tUn (rU fun i => .int (-i)) (tC (.int 1)))) := po_some (pe_un un_neg pe_int)
  refine wpAny_Slice (thn (po_none.run pins s1 σ H1 (fun o H2 => o = none ∧ H2 = H1) I1 ⟨rfl, rfl⟩) fun vl s2 ⟨l, H2, I2, pl, el, e2⟩ => ?_)
  subst el e2
  refine thn (po_none.run pins s2 σ H2 (fun o H3 => o = none ∧ H3 = H2) I2 ⟨rfl, rfl⟩) fun vu s3 ⟨u, H3, I3, pu, eu, e3⟩ => ?_
  subst eu e3
  refine thn (hst.run pins s3 σ H3 (fun o H4 => o = some (-1) ∧ H4 = H3) I3 ⟨1, rfl, -1, rfl, rfl, rfl⟩) fun vs s4 ⟨o, H4, I4, ps, eo, e4⟩ => ?_
  subst eo e4
  cases pl
  cases pu
  have I5 : Inv X pins σ H4 { s4 with heap := s4.heap.push { cls := .type "slice", data := .fields #[.none, .none, vs] } } := I4.kept (t' := s4.toks) fun b ob q => Heap.get?_push_of_some _ q
  obtain ⟨its, r, ht, hz⟩ := I5.tuple hx
  have hlen := r.length
  show wpAny (model X.prog X.w) X.A (subscriptTail e (.Slice none none (some (.UnaryOp .USub (.Constant (.int 1) k p1) p2)) p3) (.ref a) (.ref s4.heap.objs.size)) (EP X pins σ Q) X.xe { s4 with heap := s4.heap.push { cls := .type "slice", data := .fields #[.none, .none, vs] } }
  refine tail_any (ops := [.ref a, .ref s4.heap.objs.size]) ht.typeIs (PyProof.Rows.slot_tuple_getitem.lookup) ?_ (by with_unfolding_all rfl)
  refine getItem_tuple_rev ht (Heap.IsSliceOf.new _ .none .none vs) ps ?_ (by rw [List.size_toArray]; omega)
  refine ⟨.ref _, _, I5.laid (t' := s4.toks) (o := .tup xs.reverse) (fun b ob q => Heap.get?_push_of_some _ q) (Nat.le_refl _) ?_, rfl, q _ (I5.hok.fresh (Nat.le_refl _))⟩
  exact ⟨by rw [List.length_reverse]; exact hz, _, r.reverse, IsTup.new _ _⟩
end
end Ft

set_option exponentiation.threshold 9000
namespace Ft
open PySem L2
theorem sqa_iff {k m : Nat} {ds : List PyData} : SqA k m ds ↔ (∀ d ∈ ds, d.showable = true ∧ d.depth ≤ k ∧ d.leavesShort 700 = true) ∧ PyData.bulkAll ds ≤ m := by
  have h1 : ∀ ds : List PyData, (PyData.showableAll ds = true ∧ PyData.depthAll ds ≤ k ∧ PyData.leavesShortAll 700 ds = true) ↔ ∀ d ∈ ds, d.showable = true ∧ d.depth ≤ k ∧ d.leavesShort 700 = true := fun ds => by
    induction ds with
    | nil => exact ⟨fun _ d hd => (by cases hd), fun _ => ⟨rfl, Nat.zero_le _, rfl⟩⟩
    | cons d ds ih =>
      simp only [PyData.showableAll, PyData.depthAll, PyData.leavesShortAll, Bool.and_eq_true, List.mem_cons, forall_eq_or_imp]
      rw [← ih]
      constructor
      · rintro ⟨⟨a, b⟩, c, e, f⟩
        exact ⟨⟨a, by omega, e⟩, b, by omega, f⟩
      · rintro ⟨⟨a, b, c⟩, e, f, g⟩
        exact ⟨⟨a, e⟩, by omega, c, g⟩
  constructor
  · intro h
    exact ⟨(h1 ds).mp ⟨h.show_, h.depth, h.short⟩, h.bulk⟩
  · rintro ⟨h, b⟩
    obtain ⟨x, y, z⟩ := (h1 ds).mpr h
    exact ⟨x, y, z, b⟩
theorem bulk_app (bs : List PyData) : ∀ as : List PyData, PyData.bulkAll (as ++ bs) = PyData.bulkAll as + PyData.bulkAll bs
  | [] => by simp only [List.nil_append, PyData.bulkAll, Nat.zero_add]
  | a :: as => by simp only [List.cons_append, PyData.bulkAll, bulk_app bs as]; omega
theorem bulk_rev : ∀ as : List PyData, PyData.bulkAll as.reverse = PyData.bulkAll as
  | [] => rfl
  | a :: as => by simp only [List.reverse_cons, bulk_app, bulk_rev as, PyData.bulkAll]; omega
theorem SqA.app {k m n : Nat} {as bs : List PyData} (h : SqA k m as) (t : SqA k n bs) : SqA k (m + n) (as ++ bs) := by
  obtain ⟨h1, h2⟩ := sqa_iff.mp h
  obtain ⟨t1, t2⟩ := sqa_iff.mp t
  refine sqa_iff.mpr ⟨fun d hd => (List.mem_append.mp hd).elim (h1 d) (t1 d), ?_⟩
  rw [bulk_app]
  omega
theorem SqA.rev {k m : Nat} {as : List PyData} (h : SqA k m as) : SqA k m as.reverse := by
  obtain ⟨h1, h2⟩ := sqa_iff.mp h
  exact sqa_iff.mpr ⟨fun d hd => h1 d (List.mem_reverse.mp hd), by rw [bulk_rev]; exact h2⟩
theorem SqA.drop {k m : Nat} {as : List PyData} (h : SqA k m as) (n : Nat) : SqA k m (as.drop n) := by
  obtain ⟨h1, h2⟩ := sqa_iff.mp h
  have e := bulk_app (as.drop n) (as.take n)
  rw [List.take_append_drop] at e
  exact sqa_iff.mpr ⟨fun d hd => h1 d (List.mem_of_mem_drop hd), by omega⟩
theorem SqA.take {k m : Nat} {as : List PyData} (h : SqA k m as) (n : Nat) : SqA k m (as.take n) := by
  obtain ⟨h1, h2⟩ := sqa_iff.mp h
  have e := bulk_app (as.drop n) (as.take n)
  rw [List.take_append_drop] at e
  exact sqa_iff.mpr ⟨fun d hd => h1 d (List.mem_of_mem_take hd), by omega⟩
def cutD (ds : List PyData) (lo hi : Option Int) : List PyData := (ds.drop (HT.sIx ds.length 0 lo)).take (HT.sIx ds.length ds.length hi - HT.sIx ds.length 0 lo)
theorem SqA.cut {k m : Nat} {as : List PyData} (h : SqA k m as) (lo hi : Option Int) : SqA k m (cutD as lo hi) := (h.drop _).take _
theorem cutD_len (ds : List PyData) (lo hi : Option Int) : (cutD ds lo hi).length ≤ ds.length := by
  unfold cutD
  rw [List.length_take, List.length_drop]
  omega
theorem DqAll.drop {H : Hp} {N : Addr → Prop} : ∀ {vs : List V} {ds : List PyData} (n : Nat), DqAll H N vs ds → DqAll H N (vs.drop n) (ds.drop n)
  | _, _, 0, h => h
  | _, _, _ + 1, .nil => .nil
  | _, _, n + 1, .cons _ t => DqAll.drop n t
theorem DqAll.take {H : Hp} {N : Addr → Prop} : ∀ {vs : List V} {ds : List PyData} (n : Nat), DqAll H N vs ds → DqAll H N (vs.take n) (ds.take n)
  | _, _, 0, _ => .nil
  | _, _, _ + 1, .nil => .nil
  | _, _, n + 1, .cons h t => .cons h (DqAll.take n t)
theorem DqAll.cut {H : Hp} {N : Addr → Prop} {vs : List V} {ds : List PyData} (h : DqAll H N vs ds) (lo hi : Option Int) : DqAll H N (cutV vs lo hi) (cutD ds lo hi) := by
  unfold cutV cutD
  rw [h.length]
  exact (h.drop _).take _
theorem DqAll.rev {H : Hp} {N : Addr → Prop} : ∀ {vs : List V} {ds : List PyData}, DqAll H N vs ds → DqAll H N vs.reverse ds.reverse
  | _, _, .nil => .nil
  | _, _, .cons h t => by
    rw [List.reverse_cons, List.reverse_cons]
    exact DqAll.app (.cons h .nil) t.rev
section
variable {N : Addr → Prop} {σ : L2.St} {H0 : Hp} {K : PySem.W.Frag}
theorem mk_listT (nw : ∀ p, H0 p = none → N p) {te : TE} {ds : List PyData} (h : Mk N σ H0 te (.tuple ds)) : Mk N σ H0 (tCB (fun xs H_1 Q => ∃ p ys, xs = [V.ref p] ∧ (SqL K H_1 p ys ∨ SqT K H_1 p ys) ∧ ∀ (l : Addr), H_1 l = none → Q (V.ref l) (upd H_1 l (HO.lst ys))) (tCons te tNil)) (.list ds) := fun H Q s q => h H _ s fun H1 v s1 e1 => by
  obtain ⟨a, xs, rfl, na, ra, hx⟩ := e1.tup_inv
  exact ⟨a, xs, rfl, .inr (.inl ra.rd), fun l hl => q _ _ (s1.trans (Same.upd_new hl)) (.lst (nw _ ((s.trans s1).free hl)) (.inl upd_same) (hx.same (Same.upd_new hl)))⟩
theorem mk_catT (nw : ∀ p, H0 p = none → N p) {t1 t2 : TE} {as bs : List PyData} (h1 : Mk N σ H0 t1 (.tuple as)) (h2 : Mk N σ H0 t2 (.tuple bs)) (hl : as.length + bs.length ≤ sizeLine) : Mk N σ H0 (tOp (rCatA K) t1 t2) (.tuple (as ++ bs)) := fun H Q s q => h1 H _ s fun H1 v s1 e1 => h2 H1 _ (s.trans s1) fun H2 u s2 e2 => by
  obtain ⟨a, xs, rfl, na, ra, hx⟩ := (e1.same s2).tup_inv
  obtain ⟨b, ys, rfl, nb, rb, hy⟩ := e2.tup_inv
  have l1 := hx.length
  have l2 := hy.length
  have j := hy.app hx
  refine ⟨a, b, xs, ys, rfl, rfl, .inl ra.rd, .inl rb.rd, by omega, fun e => ?_, fun _ e => ?_, fun _ _ p hp => ?_⟩
  · subst e
    exact q _ _ (s1.trans s2) (.tup nb rb j)
  · subst e
    rw [List.append_nil] at j
    exact q _ _ (s1.trans s2) (.tup na ra j)
  · exact q _ _ ((s1.trans s2).trans (Same.upd_new hp)) (.tup (nw _ (((s.trans s1).trans s2).free hp)) (.inl upd_same) (j.same (Same.upd_new hp)))
theorem mk_sl (nw : ∀ p, H0 p = none → N p) {te : TE} {tl th : TO} {ds : List PyData} (lo hi : Option Int) (h : Mk N σ H0 te (.tuple ds)) (el : ∀ H Q, Q lo H → tl σ H Q) (eh : ∀ H Q, Q hi H → th σ H Q) : Mk N σ H0 (tSl (rSlA K) te tl th) (.tuple (cutD ds lo hi)) := fun H Q s q => h H _ s fun H1 v s1 e1 => by
  obtain ⟨a, xs, rfl, na, ra, hx⟩ := e1.tup_inv
  have j := hx.cut lo hi
  refine el _ _ (eh _ _ ⟨a, xs, rfl, .inl ra.rd, fun hw => ?_, fun _ p hp => ?_⟩)
  · have e : cutV xs lo hi = xs := by
      unfold cutV
      rw [hw.1, hw.2, List.drop_zero, Nat.sub_zero, List.take_of_length_le (Nat.le_refl _)]
    rw [e] at j
    exact q _ _ s1 (.tup na ra j)
  · exact q _ _ (s1.trans (Same.upd_new hp)) (.tup (nw _ ((s.trans s1).free hp)) (.inl upd_same) (j.same (Same.upd_new hp)))
theorem mk_revT (nw : ∀ p, H0 p = none → N p) {te : TE} {ds : List PyData} (h : Mk N σ H0 te (.tuple ds)) : Mk N σ H0 (tRevT K te) (.tuple ds.reverse) := fun H Q s q => h H _ s fun H1 v s1 e1 => by
  obtain ⟨a, xs, rfl, na, ra, hx⟩ := e1.tup_inv
  exact ⟨a, xs, rfl, .inl ra.rd, fun p hp => q _ _ (s1.trans (Same.upd_new hp)) (.tup (nw _ ((s.trans s1).free hp)) (.inl upd_same) (hx.rev.same (Same.upd_new hp)))⟩
theorem mk_d01 (nw : ∀ p, H0 p = none → N p) : Mk N σ H0 (tDisp [(tC (.int 0), tC (.int 1))]) (.dict [(.int 0, .int 1)]) := fun H Q s q p hp => by
  have s1 := Same.upd_new (o := .dK []) hp
  refine ⟨upd_same, [(.inl 0, .int 1)], rfl, by show (1 : Nat) ≤ 15; decide, ?_⟩
  have st : Same H (upd (upd H p (.dK [])) p (.dK (mergeK [] [(.inl 0, .int 1)]))) := fun b o e => by
    rw [upd_ne (ne_of_none e hp)]
    exact s1 _ _ e
  exact q _ _ st (.dict (kvs := [(.inl 0, .int 1)]) (nw _ (s.free hp)) upd_same rfl (.cons (.int 1) .nil))
theorem mk_cats {t1 t2 : TE} {x y : Str} (h1 : Mk N σ H0 t1 (.str x)) (h2 : Mk N σ H0 t2 (.str y)) (hl : x.length + y.length ≤ sizeLine) : Mk N σ H0 (tOp (fun x y H Q => ∃ i j, x = .str i ∧ y = .str j ∧ i.length + j.length ≤ sizeLine ∧ Q (.str (i ++ j)) H) t1 t2) (.str (x ++ y)) := fun H Q s q => h1 H _ s fun H1 v s1 e1 => h2 H1 _ (s.trans s1) fun H2 w s2 e2 => by
  cases e1
  cases e2
  exact ⟨_, _, rfl, rfl, hl, q _ _ (s1.trans s2) (.str _)⟩
theorem mk_slS {te : TE} {tl th : TO} {x : Str} (lo hi : Option Int) (h : Mk N σ H0 te (.str x)) (hl : x.length ≤ sizeLine) (el : ∀ H Q, Q lo H → tl σ H Q) (eh : ∀ H Q, Q hi H → th σ H Q) : Mk N σ H0 (tSl C8.rSlX te tl th) (.str (Txt.slice x lo hi)) := fun H Q s q => h H _ s fun H1 v s1 e1 => by
  cases e1
  exact el _ _ (eh _ _ ⟨_, rfl, hl, q _ _ s1 (.str _)⟩)
theorem mk_up {te : TE} {x : Str} (h : Mk N σ H0 te (.str x)) (hl : x.length ≤ 5592405) : Mk N σ H0 (tBM0 K "str" (fun x xs H Q => ∃ a, x = .str a ∧ xs = [] ∧ a.length ≤ 5592405 ∧ Q (.str (Txt.upper a)) H) te) (.str (Txt.upper x)) := fun H Q s q => h H _ s fun H1 v s1 e1 => by
  cases e1
  exact ⟨rfl, _, rfl, rfl, hl, q _ _ s1 (.str _)⟩
/-- a place of a tuple display -/
theorem ixT_mk {ta : TA} {Ds : List PyData} {k i : Nat} {H : Hp} {Q : VK} (h : MkA N σ H ta Ds) (hl : Ds.length ≤ sizeLine) (hs : σ[k]? = some (some (.int (i : Int)))) (hi : i < Ds.length) (q : ∀ H' v D, Same H H' → Dq H' N v D → D ∈ Ds → Q v H') : tOp (rIx K) (tTup ta) (tVar k) σ H Q :=
  h H _ (Same.refl _) fun H1 vs s1 e1 => ⟨by rw [e1.length]; exact hl, fun p hp => by
    have s2 := Same.upd_new (o := .tup vs) hp
    have l := e1.length
    obtain ⟨x, hx⟩ : ∃ x, vs[i]? = some x := ⟨_, List.getElem?_eq_getElem (by omega)⟩
    obtain ⟨D, hD, dx⟩ := e1.get (List.mem_of_getElem? hx)
    exact ⟨_, hs, .inr (.inl ⟨p, vs, (i : Int), x, rfl, rfl, SqT.of upd_same, atI_nat hx, q _ _ D (s1.trans s2) (dx.same s2) hD⟩)⟩⟩
/-- a place of a list and a list display, joined -/
theorem ixC_mk {ta : TA} {Ds Es : List PyData} {k j i : Nat} {p : Addr} {xs : List V} {H : Hp} {Q : VK} (hj : σ[j]? = some (some (.ref p))) (hp : H p = some (.lst xs)) (hx : DqAll H N xs Es) (h : MkA N σ H ta Ds) (hl : Es.length + Ds.length ≤ sizeLine) (hs : σ[k]? = some (some (.int (i : Int)))) (hi : i < Es.length + Ds.length) (q : ∀ H' v D, Same H H' → Dq H' N v D → D ∈ Es ++ Ds → Q v H') : tOp (rIx K) (tOp rCat (tVar j) (tLst ta)) (tVar k) σ H Q := by
  have l1 := hx.length
  refine ⟨_, hj, h H _ (Same.refl _) fun H1 vs s1 e1 => ⟨by rw [e1.length]; omega, fun r hr => ?_⟩⟩
  have s2 := Same.upd_new (o := .lst vs) hr
  have l2 := e1.length
  refine ⟨p, r, xs, vs, rfl, rfl, s2 _ _ (s1 _ _ hp), upd_same, by omega, fun u hu => ?_⟩
  have s3 := Same.upd_new (o := .lst (xs ++ vs)) hu
  have ea := ((e1.same s2).app (hx.same (s1.trans s2))).same s3
  obtain ⟨x, hx3⟩ : ∃ x, (xs ++ vs)[i]? = some x := ⟨_, List.getElem?_eq_getElem (by rw [List.length_append]; omega)⟩
  obtain ⟨D, hD, dx⟩ := ea.get (List.mem_of_getElem? hx3)
  exact ⟨_, hs, .inl ⟨u, _, (i : Int), x, rfl, rfl, SqL.of upd_same, atI_nat hx3, q _ _ D ((s1.trans s2).trans s3) dx hD⟩⟩
end
theorem pick_mk {K : PySem.W.Frag} {σ : L2.St} {ta : TA} {Ds : List PyData} {H : Hp} {d l : Addr} {k : Nat} {Q : VK} (h : MkA (Off d l) σ H ta Ds) (hl : Ds.length ≤ sizeLine) (h0 : 0 < Ds.length) (h64 : Ds.length < 2 ^ 64) (hd : σ[k]? = some (some (.ref d))) (D : DeckAt H d l)
    (q : ∀ H' v DD, DeckAt H' d l → But d l H H' → Dq H' (Off d l) v DD → DD ∈ Ds → Q v H') : tCall (sp_pick K) [] E0 (tCons (tVar k) (tCons (tLst ta) tNil)) σ H Q := by
  refine ⟨_, hd, h H _ (Same.refl _) fun H1 vs s1 e1 => ⟨by rw [e1.length]; exact hl, fun p hp => ?_⟩⟩
  have s2 := Same.upd_new (o := .lst vs) hp
  refine ⟨d, l, p, vs, rfl, D.same (s1.trans s2), .inl ⟨upd_same, ((D.same s1).new hp).2⟩, by rw [e1.length]; exact h0, by rw [e1.length]; exact h64, fun H' v D' b' hv => ?_⟩
  obtain ⟨DD, hD, dq⟩ := e1.get hv
  exact q H' v DD D' ((But.of (s1.trans s2)).trans b') ((dq.same s2).but b') hD
/-- a pick of a list and a list display, joined -/
theorem pick_cat {K : PySem.W.Frag} {σ : L2.St} {ta : TA} {Ds Es : List PyData} {H : Hp} {d l p : Addr} {k j : Nat} {xs : List V} {Q : VK} (hj : σ[j]? = some (some (.ref p))) (hp : H p = some (.lst xs)) (hx : DqAll H (Off d l) xs Es) (h : MkA (Off d l) σ H ta Ds) (hl : Es.length + Ds.length ≤ sizeLine) (h0 : 0 < Es.length) (h64 : Es.length + Ds.length < 2 ^ 64) (hd : σ[k]? = some (some (.ref d))) (D : DeckAt H d l)
    (q : ∀ H' v DD, DeckAt H' d l → But d l H H' → Dq H' (Off d l) v DD → DD ∈ Es ++ Ds → Q v H') : tCall (sp_pick K) [] E0 (tCons (tVar k) (tCons (tOp rCat (tVar j) (tLst ta)) tNil)) σ H Q := by
  have l1 := hx.length
  refine ⟨_, hd, _, hj, h H _ (Same.refl _) fun H1 vs s1 e1 => ⟨by rw [e1.length]; omega, fun r hr => ?_⟩⟩
  have s2 := Same.upd_new (o := .lst vs) hr
  have l2 := e1.length
  refine ⟨p, r, xs, vs, rfl, rfl, s2 _ _ (s1 _ _ hp), upd_same, by omega, fun u hu => ?_⟩
  have s3 := Same.upd_new (o := .lst (xs ++ vs)) hu
  have ss := (s1.trans s2).trans s3
  have ea := ((e1.same s2).app (hx.same (s1.trans s2))).same s3
  refine ⟨d, l, u, xs ++ vs, rfl, D.same ss, .inl ⟨upd_same, ((D.same (s1.trans s2)).new hu).2⟩, by rw [List.length_append]; omega, by rw [List.length_append]; omega, fun H' v D' b' hv => ?_⟩
  obtain ⟨DD, hD, dq⟩ := ea.get hv
  exact q H' v DD D' ((But.of ss).trans b') (dq.but b') hD
theorem cat_dq {N : Addr → Prop} {K : PySem.W.Frag} {H : Hp} {x y : V} {as bs : List PyData} {Q : VK} (nw : ∀ p, H p = none → N p) (h1 : Dq H N x (.tuple as)) (h2 : Dq H N y (.tuple bs)) (hl : as.length + bs.length ≤ sizeLine) (q : ∀ H' v, Same H H' → Dq H' N v (.tuple (as ++ bs)) → Q v H') : rCatA K x y H Q := by
  obtain ⟨a, xs, rfl, na, ra, hx⟩ := h1.tup_inv
  obtain ⟨b, ys, rfl, nb, rb, hy⟩ := h2.tup_inv
  have l1 := hx.length
  have l2 := hy.length
  have j := hy.app hx
  refine ⟨a, b, xs, ys, rfl, rfl, .inl ra.rd, .inl rb.rd, by omega, fun e => ?_, fun _ e => ?_, fun _ _ p hp => ?_⟩
  · subst e
    exact q _ _ (Same.refl _) (.tup nb rb j)
  · subst e
    rw [List.append_nil] at j
    exact q _ _ (Same.refl _) (.tup na ra j)
  · exact q _ _ (Same.upd_new hp) (.tup (nw _ hp) (.inl upd_same) (j.same (Same.upd_new hp)))
theorem sq_tup {k m : Nat} {ds : List PyData} (h : Sq (k + 1) m (.tuple ds)) : SqA k m ds := by
  refine ⟨h.show_, ?_, h.short, ?_⟩
  · have := h.depth
    have e : PyData.depth (.tuple ds) = PyData.depthAll ds + 1 := rfl
    omega
  · have := h.bulk
    simp only [PyData.bulk] at this
    omega
theorem sqa_mem {k m : Nat} {ds : List PyData} (h : SqA k m ds) {d : PyData} (hd : d ∈ ds) : Sq k m d := by
  obtain ⟨h1, h2⟩ := sqa_iff.mp h
  have := h1 d hd
  refine ⟨this.1, this.2.1, this.2.2, ?_⟩
  have key : ∀ {ds : List PyData}, d ∈ ds → d.bulk ≤ PyData.bulkAll ds := fun {ds} hm => by
    induction ds with
    | nil => cases hm
    | cons e es ih =>
      simp only [PyData.bulkAll]
      rcases List.mem_cons.mp hm with rfl | hm
      · omega
      · have := ih hm; omega
  exact Nat.le_trans (key hd) h2
theorem eqv_nil' (ds : List PyData) : PyData.eqv (.tuple ds) (.tuple []) = ds.isEmpty := by cases ds <;> rfl
theorem SqA.up {k m k' m' : Nat} {ds : List PyData} (h : SqA k m ds) (h1 : k ≤ k') (h2 : m ≤ m') : SqA k' m' ds := ⟨h.show_, Nat.le_trans h.depth h1, h.short, Nat.le_trans h.bulk h2⟩
/-- a value within a piece, bent -/
structure Lf (D : PyData) : Prop where
  sq : Sq 5 300 D
  int : ∀ n, D = .int n → n.natAbs < 2 ^ 1000
def lfB (D : PyData) : Bool := sqB D && (match D with | .int n => decide (n.natAbs < 2 ^ 1000) | _ => true)
theorem lf_of {D : PyData} (h : lfB D = true) : Lf D := by
  unfold lfB at h
  obtain ⟨h1, h2⟩ := Bool.and_eq_true_iff.mp h
  refine ⟨sq_of h1, fun n e => ?_⟩
  subst e
  exact of_decide_eq_true h2
theorem lf_int {z : Int} (h : z.natAbs < 2 ^ 1000) : Lf (.int z) := ⟨(rs_int (k := 0) (m := 0) (Nat.lt_trans h (by decide))).q.mono (by decide) (by decide), fun n e => by cases e; exact h⟩
theorem lf_digits {z : Int} (h : z.natAbs < 10 ^ 28) : Lf (.str (Str.ofString (toString z))) := by
  refine ⟨⟨by rfl, by show (0 : Nat) ≤ 5; decide, str_short _, ?_⟩, fun n e => by cases e⟩
  exact Nat.le_trans (digits_len h) (by decide)
/-- a value beside a piece -/
structure Th (D : PyData) : Prop where
  sq : Sq 8 900 D
  sm : smallI D
def thB (D : PyData) : Bool := sqB D && (match D with | .tuple ds => ds.all (fun d => match d with | .int n => decide (n.natAbs < 2 ^ 1000) | _ => true) | _ => true)
theorem th_of {D : PyData} (h : thB D = true) : Th D := by
  unfold thB at h
  obtain ⟨h1, h2⟩ := Bool.and_eq_true_iff.mp h
  refine ⟨(sq_of h1).mono (by decide) (by decide), fun ds z e hz => ?_⟩
  subst e
  have := List.all_eq_true.mp h2 _ hz
  exact Nat.lt_trans (of_decide_eq_true this) (by decide)
theorem Th.rep {D : PyData} (h : Th D) : RepQ D := h.sq.rep (by decide) (by decide)
theorem th_tup {m : Nat} {ds : List PyData} (h : SqA 7 m ds) (hm : m ≤ 898) (hs : ∀ z, PyData.int z ∈ ds → z.natAbs < 2 ^ 1900) : Th (.tuple ds) := ⟨(Sq.tup h).mono (by decide) (by omega), fun es z e hz => by cases e; exact hs z hz⟩
end Ft

set_option exponentiation.threshold 9000
namespace Ft
open PySem L2
def sp_no : Sp := fun _ _ _ _ => False
def sp_bentL : Sp := fun vs H Q _ => ∃ (d l : Addr) (v : V) (D : PyData), vs = [.ref d, v, .int 1] ∧ DeckAt H d l ∧ ((∃ z, v = .int z ∧ D = .int z ∧ z.natAbs < 10 ^ 28) ∨ v = .str (Str.ofString "sum") ∧ D = .str (Str.ofString "sum")) ∧ ∀ H' v' D', DeckAt H' d l → But d l H H' → Dq H' (Off d l) v' D' → Lf D' → Q v' H'
def sp_bentP : Sp := fun vs H Q _ => ∃ (d l : Addr) (v : V) (k x y t : Int), vs = [.ref d, v, .int 2] ∧ DeckAt H d l ∧ Dq H (Off d l) v (.tuple [.str (Str.ofString "sum"), .int k, .int x, .int y, .int t]) ∧ (k.natAbs < 10 ^ 28 ∧ x.natAbs < 10 ^ 28 ∧ y.natAbs < 10 ^ 28 ∧ t.natAbs < 10 ^ 28) ∧ ∀ H' v' D', DeckAt H' d l → But d l H H' → Dq H' (Off d l) v' D' → Th D' → Q v' H'
section
variable {P : Program} {w : World} {K : PySem.W.Frag} {mg : Str → Option Value} {base : Heap}
theorem ok_bent0 (D : Df K mg "_law_bent" s__law_bent ["_law_deck_here", "_law_thing", "_law_depth"]) : Cal P w K mg base 3 "_law_bent" sp_no := by
  obtain ⟨f, fd, F, m, b⟩ := D.ex
  exact ⟨f, fd, _, ⟨fun _ _ _ _ h => h.elim, fun _ _ _ _ _ _ _ _ _ _ _ _ _ h => h.elim⟩, m, F.kp, b⟩
theorem ok_bentL (D : Df K mg "_law_bent" s__law_bent ["_law_deck_here", "_law_thing", "_law_depth"]) (B : Bi mg) (c__law_draw : Cal P w K mg base 1 "_law_draw" sp_draw) (c__law_bent : Cal P w K mg base 3 "_law_bent" sp_no) (c__law_is_integer : Cal P w K mg base 1 "_law_is_integer" sp_isIntQ) (c__law_pick : Cal P w K mg base 2 "_law_pick" (sp_pick K)) : Cal P w K mg base 4 "_law_bent" sp_bentL := by
  obtain ⟨f, fd, F, m, b⟩ := D.ex
  have sc := sc__law_bent
  refine ⟨f, fd, _, F.ok sc (fun _ _ _ _ ⟨_, _, _, _, e, _⟩ => by rw [e]; rfl) (fun cdv A outer s H vs Q E hr h => ?_), m, F.kp, b⟩
  obtain ⟨d, l, v, D, rfl, D0, hv, q⟩ := h
  have h64 : (A.deeper (PyProof.Rows.envOfC "_law_bent" (defScope s__law_bent) s.heap.objs.size f cdv)).units + 64 < cLine := by have := hr.un; omega
  refine ⟨_, (pss_cons (ps_if (PW.pt (pw_and (pt_val (pe_callB (id := "isinstance") (r := rIsi K) call_isi (by rfl) B.isinstance (by decide +kernel) (pa_cons (pv 1) (pa_cons (pe_ty (n := "tuple") (by rfl) B.tuple (by decide +kernel)) pa_nil)))) (pw_and (pt_cmpR (op_neD h64) (pv 1) (pe_tup pa_nil) (nomark _)) (pw_and (pt_cmpR op_gt (pv 2) pe_int (nomark _)) (pw_and1 (pt_cmpR op_gt (pe_c c__law_draw hr (by decide) (by rfl) (pa_cons (pv 0) (pa_cons pe_int pa_nil))) pe_int (nomark _)))))))
      (pss_cons (ps_set (i := 3) sc.nd rfl (Or.inl rfl) (pe_c c__law_draw hr (by decide) (by rfl) (pa_cons (pv 0) (pa_cons (pe_callB call_len_seq (by rfl) B.len_ (by decide +kernel) (pa_cons (pv 1) pa_nil)) pa_nil))))
        (pss_one (ps_ret (pe_op op_catA (pe_op op_catA (pe_slice sl_tupA (pv 1) po_none (po_some (pv 3))) (pe_tup (pa_cons (pe_c c__law_bent hr (by decide) (by rfl) (pa_cons (pv 0) (pa_cons (pe_ix (show IxR _ (rIx K) from ix_seq) (pv 1) (pv 3) (fun _ _ => rfl)) (pa_cons (pe_op op_sub (pv 2) pe_int) pa_nil)))) pa_nil))) (pe_slice sl_tupA (pv 1) (po_some (pe_op op_add (pv 3) pe_int)) po_none)))))
      pss_nil)
      (pss_cons (ps_par (i := 4) (j := 3) (by rfl) sc.nd rfl rfl (by decide) rfl rfl (pa_cons (pe_c c__law_draw hr (by decide) (by rfl) (pa_cons (pv 0) (pa_cons pe_int pa_nil))) (pa_cons pe_int pa_nil)) (by rfl))
      (pss_cons (ps_if (PW.pt (pw_and (pt_val (pe_callB (id := "isinstance") (r := rIsi K) call_isi (by rfl) B.isinstance (by decide +kernel) (pa_cons (pv 1) (pa_cons (pe_ty (n := "tuple") (by rfl) B.tuple (by decide +kernel)) pa_nil)))) (pw_and1 (pt_cmpR op_lt (pv 4) pe_int (nomark _)))))
      (pss_cons (ps_set (i := 3) sc.nd rfl (Or.inl rfl) (pe_c c__law_draw hr (by decide) (by rfl) (pa_cons (pv 0) (pa_cons (pe_op op_add (pe_callB call_len_seq (by rfl) B.len_ (by decide +kernel) (pa_cons (pv 1) pa_nil)) pe_int) pa_nil))))
        (pss_cons (ps_set (i := 5) sc.nd rfl (Or.inl rfl) (pe_lst (pa_cons (pe_callTy call_list_of (by rfl) B.list (by decide +kernel) (pa_cons (pv 1) pa_nil)) (pa_cons (pe_op op_catA (pe_slice sl_tupA (pv 1) po_none (po_some (pv 3))) (pe_slice sl_tupA (pv 1) (po_some (pe_op op_add (pv 3) pe_int)) po_none)) (pa_cons (pe_op op_catA (pe_op op_catA (pe_slice sl_tupA (pv 1) po_none (po_some (pv 3))) (pe_slice sl_tupA (pv 1) (po_some (pv 3)) (po_some (pe_op op_add (pv 3) pe_int)))) (pe_slice sl_tupA (pv 1) (po_some (pv 3)) po_none)) (pa_cons (pe_revT (pv 1)) pa_nil))))))
        (pss_one (ps_ret (pe_ix (show IxR _ (rIx K) from ix_seq) (pe_op op_cat (pv 5) (pe_lst (pa_cons (pe_op op_catA (pe_slice sl_tupA (pv 1) (po_some (pv 3)) po_none) (pe_slice sl_tupA (pv 1) po_none (po_some (pv 3)))) (pa_cons (pe_op op_catA (pv 1) (pe_tup (pa_cons pe_int pa_nil))) pa_nil)))) (pv 4) (fun _ _ => rfl))))))
      pss_nil)
      (pss_cons (ps_if (PW.pt (pw_and (pt_val (pe_c c__law_is_integer hr (by decide) (by rfl) (pa_cons (pv 1) pa_nil))) (pw_and1 (pt_cmpR op_lt (pv 4) pe_int (nomark _)))))
      (pss_one (ps_ret (pe_ix (show IxR _ (rIx K) from ix_seq) (pe_tup (pa_cons (pe_op op_add (pv 1) pe_int) (pa_cons (pe_op op_sub (pv 1) pe_int) (pa_cons (pe_un un_neg (pv 1)) (pa_cons (pe_cmpR op_eq (pv 1) pe_int (nomark _)) (pa_cons (pe_tup (pa_cons (pv 1) pa_nil)) (pa_cons (pe_callTy call_str_int (by rfl) B.str (by decide +kernel) (pa_cons (pv 1) pa_nil)) pa_nil))))))) (pv 4) (fun _ _ => rfl))))
      pss_nil)
      (pss_cons (ps_if (PW.pt (pw_and (pt_val (pe_callB (id := "isinstance") (r := rIsi K) call_isi (by rfl) B.isinstance (by decide +kernel) (pa_cons (pv 1) (pa_cons (pe_ty (n := "str") (by rfl) B.str (by decide +kernel)) pa_nil)))) (pw_and1 (pt_cmpR op_lt (pv 4) pe_int (nomark _)))))
      (pss_one (ps_ret (pe_ix (show IxR _ (rIx K) from ix_seq) (pe_tup (pa_cons (pe_op op_add_str (pv 1) pe_str) (pa_cons (pe_slice C8.sl_txt (pv 1) po_none (po_some (pe_un un_neg pe_int))) (pa_cons (pe_bm0 PySem.F.plainAttrs_str PySem.F.slot_str_upper PySem.F.type_str_upper mt_upper (pv 1)) pa_nil)))) (pv 4) (fun _ _ => rfl))))
      pss_nil)
      (pss_cons (ps_set (i := 6) sc.nd rfl (Or.inl rfl) (pe_lst (pa_cons pe_non (pa_cons pe_bl (pa_cons pe_bl (pa_cons (pe_tup pa_nil) (pa_cons pe_str (pa_cons pe_int (pa_cons pe_int (pa_cons (pe_un un_neg pe_int) (pa_cons pe_int (pa_cons (pe_tup (pa_cons pe_int pa_nil)) (pa_cons (pe_lst (pa_cons pe_int pa_nil)) (pa_cons (pe_dnewK) (pa_cons (pe_disp (pps_cons pe_int pe_int pps_nil) (by rfl) (by rfl) (fun z => by cases z) (by decide)) (pa_cons pe_str (pa_cons (pe_op op_pow pe_int pe_int) (pa_cons (pe_tup (pa_cons (pe_tup (pa_cons pe_int (pa_cons pe_int pa_nil))) (pa_cons (pe_tup (pa_cons pe_int (pa_cons pe_int pa_nil))) pa_nil))) (pa_cons (pe_lst pa_nil) (pa_cons pe_str pa_nil))))))))))))))))))))
      (pss_one (ps_ret (pe_c c__law_pick hr (by decide) (by rfl) (pa_cons (pv 0) (pa_cons (pe_op op_cat (pv 6) (pe_lst (pa_cons (pe_tup (pa_cons pe_str (pa_cons pe_int (pa_cons pe_int (pa_cons pe_int (pa_cons pe_int pa_nil)))))) (pa_cons (pe_un un_neg (pe_op op_pow pe_int pe_int)) (pa_cons (pe_tup (pa_cons pe_int (pa_cons pe_int pa_nil))) (pa_cons (pe_lst (pa_cons (pe_tup (pa_cons pe_int (pa_cons pe_int pa_nil))) pa_nil)) (pa_cons (pe_tup (pa_cons (pe_tup (pa_cons pe_int pa_nil)) pa_nil)) (pa_cons (pe_tup (pa_cons pe_int (pa_cons (pe_tup (pa_cons pe_int (pa_cons pe_int pa_nil))) pa_nil))) (pa_cons (pe_tup (pa_cons pe_int (pa_cons pe_int pa_nil))) pa_nil))))))))) pa_nil))))))))))), ?_⟩
  have dv : ∀ {N : Addr → Prop} {H : Hp}, Dq H N v D := fun {N H} => by
    rcases hv with ⟨z, rfl, rfl, _⟩ | ⟨rfl, rfl⟩
    · exact .int z
    · exact .str _
  have hT : isTupD D = false := by
    rcases hv with ⟨z, rfl, rfl, _⟩ | ⟨rfl, rfl⟩ <;> rfl
  refine ⟨_, rfl, _, _, _, _, isTupD D, rfl, .ty _, (dv (N := Off d l)).ty, kit_tupD D, _, rfl, ?_⟩
  rw [hT]
  refine iteF (iteF ?_)
  dsimp only [tNext]
  refine ⟨_, rfl, d, l, 8, rfl, D0, by decide, by decide, fun H1 way D1 b1 r0 r1 => ?_⟩
  refine ⟨_, _, rfl, ?_⟩
  dsimp only
  refine ⟨_, rfl, _, _, _, _, isTupD D, rfl, .ty _, (dv (N := Off d l)).ty, kit_tupD D, _, rfl, ?_⟩
  rw [hT]
  refine iteF (iteF ?_)
  dsimp only [tNext]
  have nw1 : ∀ p, H1 p = none → Off d l p := fun p hp => D1.new hp
  refine ⟨_, rfl, v, D, Off d l, rfl, dv, _, rfl, ?_⟩
  obtain ⟨wn, rfl⟩ : ∃ i : Nat, way = (i : Int) := ⟨way.toNat, by omega⟩
  have s40 : ∀ n : Nat, n ≤ 100 → n ≤ sizeLine := fun n h => Nat.le_trans h (by decide)
  rcases hv with ⟨z, rfl, rfl, zB⟩ | ⟨rfl, rfl⟩
  · have mv : ∀ {N : Addr → Prop} {H1 : Hp} {σ : L2.St}, σ[1]? = some (some (.int z)) → Mk N σ H1 (tVar 1) (.int z) := fun hs => mk_var hs (.int z)
    refine iteT ⟨_, rfl, _, _, rfl, rfl, _, rfl, ?_⟩
    by_cases h6 : wn < 6
    · rw [decide_eq_true (by omega)]
      refine iteT ?_
      refine ixT_mk (N := Off d l) (i := wn) (mka_cons (mk_i0 (mv rfl) mk_int) (mka_cons (mk_i0 (mv rfl) mk_int) (mka_cons (mk_neg (mv rfl)) (mka_cons (mk_eqI (mv rfl) mk_int) (mka_cons (mk_tup nw1 (mka_cons (mv rfl) mka_nil) (s40 _ (Nat.le_of_ble_eq_true rfl))) (mka_cons (mk_strI (mv rfl) ?_) mka_nil)))))) (s40 _ (Nat.le_of_ble_eq_true rfl)) rfl (show wn < 6 from h6) fun H2 v2 DD s2 dq hD => ?_
      · have := PySem.Flt.log2_lt_of (by decide) (show z.natAbs < 2 ^ 900 from Nat.lt_trans zB (by decide))
        omega
      refine q H2 v2 DD (D1.same s2) (b1.trans (But.of s2)) dq ?_
      simp only [List.mem_cons, List.not_mem_nil, or_false] at hD
      have zb : z.natAbs < 2 ^ 900 := Nat.lt_trans zB (by decide)
      have up : (2 : Nat) ^ 900 + 1 < 2 ^ 1000 := by decide
      rcases hD with rfl | rfl | rfl | rfl | rfl | rfl
      · exact lf_int (by omega)
      · exact lf_int (by omega)
      · exact lf_int (by omega)
      · cases decide (V.int z = V.int 1) <;> exact lf_of (by decide +kernel)
      · exact ⟨(Sq.tup (SqA.cons (rs_int (k := 2) (m := 2) (show z.natAbs < 2 ^ 1900 from Nat.lt_trans zB (by decide))).q SqA.nil)).mono (by decide) (by decide), fun n e => by cases e⟩
      · exact lf_digits zB
    rw [decide_eq_false (by omega)]
    refine iteF ?_
    dsimp only [tNext]
    refine ⟨_, rfl, _, _, _, _, false, rfl, .ty _, .base (.int z), kit_tab (a := "int") (b := "str") false, _, rfl, iteF (iteF ?_)⟩
    dsimp only [tNext]
    refine' asg_lst (N := Off d l) (Ds := _) ?L1 ?L2 fun H5 vs1 p1 s1 e1 hp1 => ?_
    case L1 =>
      repeat' first
        | exact mka_nil
        | exact mk_non
        | exact mk_bl
        | exact mk_int
        | exact mk_st
        | exact mk_d0 nw1
        | exact mk_d01 nw1
        | refine' mka_cons ?_ ?_
        | refine' mk_tup nw1 ?_ ?_
        | refine' mk_lst nw1 ?_ ?_
        | refine' mk_neg ?_
        | refine' mk_pow ?_ ?_ ?_
      all_goals first | decide | exact ⟨by decide, by decide, by decide⟩
    case L2 => decide
    dsimp only [gName]
    have s2 := s1.trans (Same.upd_new (o := .lst vs1) hp1)
    have f1 := e1.same (Same.upd_new (o := .lst vs1) hp1)
    have g1 : (upd H5 p1 (.lst vs1)) p1 = some (.lst vs1) := upd_same
    generalize upd H5 p1 (.lst vs1) = H6 at s2 f1 g1
    have D2 := D1.same s2
    have nw2 : ∀ p, H6 p = none → Off d l p := fun p hp => D2.new hp
    refine' pick_cat (Ds := _) rfl g1 f1 ?L3 ?L4 (by decide) ?L5 rfl D2 fun H7 v7 DD D7 b7 dq7 h7 => ?_
    case L3 =>
      repeat' first
        | exact mka_nil
        | exact mk_int
        | exact mk_st
        | refine' mka_cons ?_ ?_
        | refine' mk_tup nw2 ?_ ?_
        | refine' mk_lst nw2 ?_ ?_
        | refine' mk_neg ?_
        | refine' mk_pow ?_ ?_ ?_
      all_goals first | decide | exact ⟨by decide, by decide, by decide⟩
    case L4 => decide
    case L5 => decide
    refine q H7 v7 DD D7 ((b1.trans (But.of s2)).trans b7) dq7 ?_
    exact lf_of (List.all_eq_true.mp (show List.all _ lfB = true by decide +kernel) DD h7)
  · refine iteF (iteF ?_)
    dsimp only [tNext]
    have mv : ∀ {N : Addr → Prop} {H1 : Hp} {σ : L2.St}, σ[1]? = some (some (.str (Str.ofString "sum"))) → Mk N σ H1 (tVar 1) (.str (Str.ofString "sum")) := fun hs => mk_var hs (.str _)
    refine ⟨_, rfl, _, _, _, _, true, rfl, .ty _, .base (.str _), kit_tab (a := "str") (b := "str") true, _, rfl, iteT ?_⟩
    refine ⟨_, rfl, _, _, rfl, rfl, _, rfl, ?_⟩
    by_cases h3 : wn < 3
    · rw [decide_eq_true (by omega)]
      refine iteT ?_
      refine ixT_mk (N := Off d l) (i := wn) (mka_cons (mk_cats (mv rfl) mk_st (by decide)) (mka_cons (mk_slS none (some (-1)) (mv rfl) (by decide) (fun H Q q => q) (fun H Q q => ⟨_, rfl, _, rfl, q⟩)) (mka_cons (mk_up (mv rfl) (by decide)) mka_nil))) (s40 _ (Nat.le_of_ble_eq_true rfl)) rfl (show wn < 3 from h3) fun H2 v2 DD s2 dq hD => ?_
      refine q H2 v2 DD (D1.same s2) (b1.trans (But.of s2)) dq ?_
      simp only [List.mem_cons, List.not_mem_nil, or_false] at hD
      rcases hD with rfl | rfl | rfl <;> exact lf_of (by decide +kernel)
    rw [decide_eq_false (by omega)]
    refine iteF ?_
    dsimp only [tNext]
    refine' asg_lst (N := Off d l) (Ds := _) ?M1 ?M2 fun H5 vs1 p1 s1 e1 hp1 => ?_
    case M1 =>
      repeat' first
        | exact mka_nil
        | exact mk_non
        | exact mk_bl
        | exact mk_int
        | exact mk_st
        | exact mk_d0 nw1
        | exact mk_d01 nw1
        | refine' mka_cons ?_ ?_
        | refine' mk_tup nw1 ?_ ?_
        | refine' mk_lst nw1 ?_ ?_
        | refine' mk_neg ?_
        | refine' mk_pow ?_ ?_ ?_
      all_goals first | decide | exact ⟨by decide, by decide, by decide⟩
    case M2 => decide
    dsimp only [gName]
    have s2 := s1.trans (Same.upd_new (o := .lst vs1) hp1)
    have f1 := e1.same (Same.upd_new (o := .lst vs1) hp1)
    have g1 : (upd H5 p1 (.lst vs1)) p1 = some (.lst vs1) := upd_same
    generalize upd H5 p1 (.lst vs1) = H6 at s2 f1 g1
    have D2 := D1.same s2
    have nw2 : ∀ p, H6 p = none → Off d l p := fun p hp => D2.new hp
    refine' pick_cat (Ds := _) rfl g1 f1 ?M3 ?M4 (by decide) ?M5 rfl D2 fun H7 v7 DD D7 b7 dq7 h7 => ?_
    case M3 =>
      repeat' first
        | exact mka_nil
        | exact mk_int
        | exact mk_st
        | refine' mka_cons ?_ ?_
        | refine' mk_tup nw2 ?_ ?_
        | refine' mk_lst nw2 ?_ ?_
        | refine' mk_neg ?_
        | refine' mk_pow ?_ ?_ ?_
      all_goals first | decide | exact ⟨by decide, by decide, by decide⟩
    case M4 => decide
    case M5 => decide
    refine q H7 v7 DD D7 ((b1.trans (But.of s2)).trans b7) dq7 ?_
    exact lf_of (List.all_eq_true.mp (show List.all _ lfB = true by decide +kernel) DD h7)
theorem ok_bentP (D : Df K mg "_law_bent" s__law_bent ["_law_deck_here", "_law_thing", "_law_depth"]) (B : Bi mg) (c__law_draw : Cal P w K mg base 1 "_law_draw" sp_draw) (c__law_bent : Cal P w K mg base 4 "_law_bent" sp_bentL) (c__law_is_integer : Cal P w K mg base 1 "_law_is_integer" sp_isIntQ) (c__law_pick : Cal P w K mg base 2 "_law_pick" (sp_pick K)) : Cal P w K mg base 5 "_law_bent" sp_bentP := by
  obtain ⟨f, fd, F, m, b⟩ := D.ex
  have sc := sc__law_bent
  refine ⟨f, fd, _, F.ok sc (fun _ _ _ _ ⟨_, _, _, _, _, _, _, e, _⟩ => by rw [e]; rfl) (fun cdv A outer s H vs Q E hr h => ?_), m, F.kp, b⟩
  obtain ⟨d, l, v, k, x, y, t, rfl, D0, hv, ⟨kB, xB, yB, tB⟩, q⟩ := h
  have h64 : (A.deeper (PyProof.Rows.envOfC "_law_bent" (defScope s__law_bent) s.heap.objs.size f cdv)).units + 64 < cLine := by have := hr.un; omega
  refine ⟨_, (pss_cons (ps_if (PW.pt (pw_and (pt_val (pe_callB (id := "isinstance") (r := rIsi K) call_isi (by rfl) B.isinstance (by decide +kernel) (pa_cons (pv 1) (pa_cons (pe_ty (n := "tuple") (by rfl) B.tuple (by decide +kernel)) pa_nil)))) (pw_and (pt_cmpR (op_neD h64) (pv 1) (pe_tup pa_nil) (nomark _)) (pw_and (pt_cmpR op_gt (pv 2) pe_int (nomark _)) (pw_and1 (pt_cmpR op_gt (pe_c c__law_draw hr (by decide) (by rfl) (pa_cons (pv 0) (pa_cons pe_int pa_nil))) pe_int (nomark _)))))))
      (pss_cons (ps_set (i := 3) sc.nd rfl (Or.inl rfl) (pe_c c__law_draw hr (by decide) (by rfl) (pa_cons (pv 0) (pa_cons (pe_callB call_len_seq (by rfl) B.len_ (by decide +kernel) (pa_cons (pv 1) pa_nil)) pa_nil))))
        (pss_one (ps_ret (pe_op op_catA (pe_op op_catA (pe_slice sl_tupA (pv 1) po_none (po_some (pv 3))) (pe_tup (pa_cons (pe_c c__law_bent hr (by decide) (by rfl) (pa_cons (pv 0) (pa_cons (pe_ix (show IxR _ (rIx K) from ix_seq) (pv 1) (pv 3) (fun _ _ => rfl)) (pa_cons (pe_op op_sub (pv 2) pe_int) pa_nil)))) pa_nil))) (pe_slice sl_tupA (pv 1) (po_some (pe_op op_add (pv 3) pe_int)) po_none)))))
      pss_nil)
      (pss_cons (ps_par (i := 4) (j := 3) (by rfl) sc.nd rfl rfl (by decide) rfl rfl (pa_cons (pe_c c__law_draw hr (by decide) (by rfl) (pa_cons (pv 0) (pa_cons pe_int pa_nil))) (pa_cons pe_int pa_nil)) (by rfl))
      (pss_cons (ps_if (PW.pt (pw_and (pt_val (pe_callB (id := "isinstance") (r := rIsi K) call_isi (by rfl) B.isinstance (by decide +kernel) (pa_cons (pv 1) (pa_cons (pe_ty (n := "tuple") (by rfl) B.tuple (by decide +kernel)) pa_nil)))) (pw_and1 (pt_cmpR op_lt (pv 4) pe_int (nomark _)))))
      (pss_cons (ps_set (i := 3) sc.nd rfl (Or.inl rfl) (pe_c c__law_draw hr (by decide) (by rfl) (pa_cons (pv 0) (pa_cons (pe_op op_add (pe_callB call_len_seq (by rfl) B.len_ (by decide +kernel) (pa_cons (pv 1) pa_nil)) pe_int) pa_nil))))
        (pss_cons (ps_set (i := 5) sc.nd rfl (Or.inl rfl) (pe_lst (pa_cons (pe_callTy call_list_of (by rfl) B.list (by decide +kernel) (pa_cons (pv 1) pa_nil)) (pa_cons (pe_op op_catA (pe_slice sl_tupA (pv 1) po_none (po_some (pv 3))) (pe_slice sl_tupA (pv 1) (po_some (pe_op op_add (pv 3) pe_int)) po_none)) (pa_cons (pe_op op_catA (pe_op op_catA (pe_slice sl_tupA (pv 1) po_none (po_some (pv 3))) (pe_slice sl_tupA (pv 1) (po_some (pv 3)) (po_some (pe_op op_add (pv 3) pe_int)))) (pe_slice sl_tupA (pv 1) (po_some (pv 3)) po_none)) (pa_cons (pe_revT (pv 1)) pa_nil))))))
        (pss_one (ps_ret (pe_ix (show IxR _ (rIx K) from ix_seq) (pe_op op_cat (pv 5) (pe_lst (pa_cons (pe_op op_catA (pe_slice sl_tupA (pv 1) (po_some (pv 3)) po_none) (pe_slice sl_tupA (pv 1) po_none (po_some (pv 3)))) (pa_cons (pe_op op_catA (pv 1) (pe_tup (pa_cons pe_int pa_nil))) pa_nil)))) (pv 4) (fun _ _ => rfl))))))
      pss_nil)
      (pss_cons (ps_if (PW.pt (pw_and (pt_val (pe_c c__law_is_integer hr (by decide) (by rfl) (pa_cons (pv 1) pa_nil))) (pw_and1 (pt_cmpR op_lt (pv 4) pe_int (nomark _)))))
      (pss_one (ps_ret (pe_ix (show IxR _ (rIx K) from ix_seq) (pe_tup (pa_cons (pe_op op_add (pv 1) pe_int) (pa_cons (pe_op op_sub (pv 1) pe_int) (pa_cons (pe_un un_neg (pv 1)) (pa_cons (pe_cmpR op_eq (pv 1) pe_int (nomark _)) (pa_cons (pe_tup (pa_cons (pv 1) pa_nil)) (pa_cons (pe_callTy call_str_int (by rfl) B.str (by decide +kernel) (pa_cons (pv 1) pa_nil)) pa_nil))))))) (pv 4) (fun _ _ => rfl))))
      pss_nil)
      (pss_cons (ps_if (PW.pt (pw_and (pt_val (pe_callB (id := "isinstance") (r := rIsi K) call_isi (by rfl) B.isinstance (by decide +kernel) (pa_cons (pv 1) (pa_cons (pe_ty (n := "str") (by rfl) B.str (by decide +kernel)) pa_nil)))) (pw_and1 (pt_cmpR op_lt (pv 4) pe_int (nomark _)))))
      (pss_one (ps_ret (pe_ix (show IxR _ (rIx K) from ix_seq) (pe_tup (pa_cons (pe_op op_add_str (pv 1) pe_str) (pa_cons (pe_slice C8.sl_txt (pv 1) po_none (po_some (pe_un un_neg pe_int))) (pa_cons (pe_bm0 PySem.F.plainAttrs_str PySem.F.slot_str_upper PySem.F.type_str_upper mt_upper (pv 1)) pa_nil)))) (pv 4) (fun _ _ => rfl))))
      pss_nil)
      (pss_cons (ps_set (i := 6) sc.nd rfl (Or.inl rfl) (pe_lst (pa_cons pe_non (pa_cons pe_bl (pa_cons pe_bl (pa_cons (pe_tup pa_nil) (pa_cons pe_str (pa_cons pe_int (pa_cons pe_int (pa_cons (pe_un un_neg pe_int) (pa_cons pe_int (pa_cons (pe_tup (pa_cons pe_int pa_nil)) (pa_cons (pe_lst (pa_cons pe_int pa_nil)) (pa_cons (pe_dnewK) (pa_cons (pe_disp (pps_cons pe_int pe_int pps_nil) (by rfl) (by rfl) (fun z => by cases z) (by decide)) (pa_cons pe_str (pa_cons (pe_op op_pow pe_int pe_int) (pa_cons (pe_tup (pa_cons (pe_tup (pa_cons pe_int (pa_cons pe_int pa_nil))) (pa_cons (pe_tup (pa_cons pe_int (pa_cons pe_int pa_nil))) pa_nil))) (pa_cons (pe_lst pa_nil) (pa_cons pe_str pa_nil))))))))))))))))))))
      (pss_one (ps_ret (pe_c c__law_pick hr (by decide) (by rfl) (pa_cons (pv 0) (pa_cons (pe_op op_cat (pv 6) (pe_lst (pa_cons (pe_tup (pa_cons pe_str (pa_cons pe_int (pa_cons pe_int (pa_cons pe_int (pa_cons pe_int pa_nil)))))) (pa_cons (pe_un un_neg (pe_op op_pow pe_int pe_int)) (pa_cons (pe_tup (pa_cons pe_int (pa_cons pe_int pa_nil))) (pa_cons (pe_lst (pa_cons (pe_tup (pa_cons pe_int (pa_cons pe_int pa_nil))) pa_nil)) (pa_cons (pe_tup (pa_cons (pe_tup (pa_cons pe_int pa_nil)) pa_nil)) (pa_cons (pe_tup (pa_cons pe_int (pa_cons (pe_tup (pa_cons pe_int (pa_cons pe_int pa_nil))) pa_nil))) (pa_cons (pe_tup (pa_cons pe_int (pa_cons pe_int pa_nil))) pa_nil))))))))) pa_nil))))))))))), ?_⟩
  have s40 : ∀ n : Nat, n ≤ 100 → n ≤ sizeLine := fun n h => Nat.le_trans h (by decide)
  have sqd : SqA 5 60 [.str (Str.ofString "sum"), .int k, .int x, .int y, .int t] := by
    have si : ∀ z : Int, z.natAbs < 10 ^ 28 → Sq 5 1 (.int z) := fun z h => (rs_int (k := 5) (m := 0) (Nat.lt_trans h (by decide))).q
    have ss : Sq 5 40 (.str (Str.ofString "sum")) := ⟨by decide +kernel, by decide +kernel, by decide +kernel, by decide +kernel⟩
    have := SqA.cons ss (SqA.cons (si k kB) (SqA.cons (si x xB) (SqA.cons (si y yB) (SqA.cons (si t tB) SqA.nil))))
    exact ⟨this.show_, this.depth, this.short, Nat.le_trans this.bulk (by decide)⟩
  have mem : ∀ z, PyData.int z ∈ [.str (Str.ofString "sum"), .int k, .int x, .int y, .int t] → z.natAbs < 10 ^ 28 := fun z h => by
    simp only [List.mem_cons, List.not_mem_nil, or_false] at h
    rcases h with h | h | h | h | h <;> cases h <;> assumption
  have lds : [PyData.str (Str.ofString "sum"), .int k, .int x, .int y, .int t].length = 5 := rfl
  have nE : List.isEmpty [PyData.str (Str.ofString "sum"), .int k, .int x, .int y, .int t] = false := rfl
  have lay : (PyData.canLay0 (.tuple [PyData.str (Str.ofString "sum"), .int k, .int x, .int y, .int t]) && decide (PyData.depth (.tuple [PyData.str (Str.ofString "sum"), .int k, .int x, .int y, .int t]) ≤ 64)) = true := by
    have e1 : (PyData.str (Str.ofString "sum")).canLay0 = true := by decide +kernel
    rw [Bool.and_eq_true]
    refine ⟨?_, decide_eq_true (Nat.le_trans (Sq.tup sqd).depth (by decide))⟩
    show ((PyData.str (Str.ofString "sum")).canLay0 && true) = true
    rw [e1]
    rfl
  have dpd : ∀ {H : Hp} {N : Addr → Prop} {v : V}, Dq H N v (.tuple [PyData.str (Str.ofString "sum"), .int k, .int x, .int y, .int t]) → Dp K H v (.tuple [PyData.str (Str.ofString "sum"), .int k, .int x, .int y, .int t]) := fun h => by
    obtain ⟨a, xs, rfl, na, ra, hx⟩ := h.tup_inv
    refine .tup (.inl ra.rd) ?_
    cases hx with
    | cons h0 hx => cases hx with
      | cons h1 hx => cases hx with
        | cons h2 hx => cases hx with
          | cons h3 hx => cases hx with
            | cons h4 hx =>
              cases hx
              cases h0
              cases h1
              cases h2
              cases h3
              cases h4
              exact .cons (.str _) (.cons (.int _) (.cons (.int _) (.cons (.int _) (.cons (.int _) .nil))))
  have sub : ∀ i : Nat, i < 5 → ∀ D', ([PyData.str (Str.ofString "sum"), .int k, .int x, .int y, .int t])[i]? = some D' → (∃ z, D' = .int z ∧ z.natAbs < 10 ^ 28) ∨ D' = .str (Str.ofString "sum") := fun i hi D' e => by
    match i, hi with
    | 0, _ => cases e; exact .inr rfl
    | 1, _ => cases e; exact .inl ⟨_, rfl, kB⟩
    | 2, _ => cases e; exact .inl ⟨_, rfl, xB⟩
    | 3, _ => cases e; exact .inl ⟨_, rfl, yB⟩
    | 4, _ => cases e; exact .inl ⟨_, rfl, tB⟩
  generalize [PyData.str (Str.ofString "sum"), .int k, .int x, .int y, .int t] = ds at hv sqd mem lds nE lay dpd sub
  refine ⟨_, rfl, _, _, _, _, isTupD (.tuple ds), rfl, .ty _, hv.ty, kit_tupD (.tuple ds), _, rfl, iteT ?_⟩
  refine ⟨_, rfl, (by show (0 : Nat) ≤ sizeLine; decide), fun T hT => ?_⟩
  have s1 : Same H (upd H T (.tup [])) := Same.upd_new hT
  have g1 : (upd H T (.tup [])) T = some (.tup []) := upd_same
  generalize upd H T (.tup []) = H1 at s1 g1
  have D1 := D0.same s1
  have hv1 := hv.same s1
  refine ⟨.tuple ds, .tuple [], dpd hv1, .tup (SqT.of g1) .nil, lay, rfl, _, rfl, ?_⟩
  rw [eqv_nil']
  rw [nE]
  refine iteT ?_
  refine ⟨_, rfl, _, _, rfl, rfl, _, rfl, iteT ?_⟩
  refine ⟨_, rfl, d, l, 4, rfl, D1, by decide, by decide, fun H2 r D2 b2 r0 r1 => ⟨_, _, rfl, rfl, _, rfl, ?_⟩⟩
  have b02 : But d l H H2 := (But.of s1).trans b2
  have hv2 := hv1.but b2
  clear s1 g1 hT D1 hv1
  by_cases hr0 : 0 < r
  · rw [decide_eq_true hr0]
    refine iteT ?_
    obtain ⟨a, xs, rfl, na, ra, hx⟩ := id hv2.tup_inv
    have lx := hx.length
    refine ⟨_, rfl, _, rfl, a, xs, rfl, .inr (.inl ra.rd), ?_⟩
    rw [lx, lds]
    refine ⟨d, l, _, rfl, D2, by decide, by decide, fun H3 r D3 b3 r0 r1 => ?_⟩
    have hv3 := hv2.but b3
    have b03 := b02.trans b3
    obtain ⟨i, rfl⟩ : ∃ i : Nat, r = (i : Int) := ⟨r.toNat, by omega⟩
    have i5 : i < 5 := by omega
    dsimp only [gName]
    have nw3 : ∀ {H' : Hp}, DeckAt H' d l → ∀ p, H' p = none → Off d l p := fun D' p hp => D'.new hp
    refine mk_sl (nw3 D3) none (some (i : Int)) (mk_var rfl hv3) (fun _ _ q => q) (fun _ _ q => ⟨_, rfl, _, rfl, q⟩) H3 _ (Same.refl _) fun H4 u s4 hu => ?_
    have D4 := D3.same s4
    have hv4 := hv3.same s4
    obtain ⟨a', xs', ea, na4, ra4, hx4⟩ := hv4.tup_inv
    cases ea
    have lx4 := hx4.length
    obtain ⟨x1, hx5⟩ : ∃ x, xs'[i]? = some x := ⟨_, List.getElem?_eq_getElem (by omega)⟩
    obtain ⟨E1, hE1, dx⟩ := dq_of hx4 hx5
    have lf := sub i i5 E1 hE1
    refine ⟨_, rfl, _, rfl, _, rfl, .inr (.inl ⟨a, xs', _, x1, rfl, rfl, .inl ra4.rd, atI_nat hx5, ?_⟩)⟩
    refine ⟨_, rfl, _, _, rfl, rfl, d, l, x1, E1, rfl, D4, ?_, fun H5 y1 D' D5 b5 hy ly => ?_⟩
    · rcases lf with ⟨z, rfl, zB⟩ | rfl
      · cases dx
        exact .inl ⟨z, rfl, rfl, zB⟩
      · cases dx
        exact .inr ⟨rfl, rfl⟩
    refine ⟨(by show (1 : Nat) ≤ sizeLine; decide), fun T hT => ?_⟩
    have s6 : Same H5 (upd H5 T (.tup [y1])) := Same.upd_new hT
    have D6 := D5.same s6
    have hy6 : Dq (upd H5 T (.tup [y1])) (Off d l) (.ref T) (.tuple [D']) := .tup (D5.new hT) (.inl upd_same) (.cons (hy.same s6) .nil)
    have hu6 := (hu.but b5).same s6
    have hv6 := (hv4.but b5).same s6
    have b06 := (b03.trans (But.of s4)).trans (b5.trans (But.of s6))
    generalize upd H5 T (.tup [y1]) = H6 at s6 D6 hy6 hu6 hv6 b06
    have c1 := cutD_len ds none (some (i : Int))
    have c2 := cutD_len ds (some ((i : Int) + 1)) none
    refine cat_dq (nw3 D6) hu6 hy6 (s40 _ (show (cutD ds none (some (i : Int))).length + 1 ≤ 100 by omega)) fun H7 w1 s7 h7 => ?_
    have D7 := D6.same s7
    refine mk_sl (nw3 D7) (some ((i : Int) + 1)) none (mk_var rfl (hv6.same s7)) (fun _ _ q => ⟨_, rfl, _, _, rfl, rfl, _, rfl, q⟩) (fun _ _ q => q) H7 _ (Same.refl _) fun H8 w2 s8 h8 => ?_
    refine cat_dq (nw3 (D7.same s8)) (h7.same s8) h8 (s40 _ (show (cutD ds none (some (i : Int)) ++ [D']).length + (cutD ds (some ((i : Int) + 1)) none).length ≤ 100 by rw [List.length_append, List.length_singleton]; omega)) fun H9 w3 s9 h9 => ?_
    have one : SqA 5 (300 + 0 + 2) [D'] := SqA.cons (m := 300) (n := 0) ly.sq .nil
    have tot := ((sqd.cut none (some (i : Int))).app one).app (sqd.cut (some ((i : Int) + 1)) none)
    refine q H9 w3 _ ((D7.same s8).same s9) (b06.trans (But.of (s7.trans (s8.trans s9)))) h9 (th_tup (tot.up (by decide) (Nat.le_refl _)) (by decide) fun z hz => ?_)
    rcases List.mem_append.mp hz with hz | hz
    · rcases List.mem_append.mp hz with hz | hz
      · exact Nat.lt_trans (mem z (List.mem_of_mem_drop (List.mem_of_mem_take hz))) (by decide)
      · exact Nat.lt_trans (ly.int z (List.mem_singleton.mp hz).symm) (by decide)
    · exact Nat.lt_trans (mem z (List.mem_of_mem_drop (List.mem_of_mem_take hz))) (by decide)
  rw [decide_eq_false hr0]
  refine iteF ?_
  dsimp only [tNext]
  refine ⟨_, rfl, d, l, 8, rfl, D2, by decide, by decide, fun H3 way D3 b3 w0 w1 => ?_⟩
  refine ⟨_, _, rfl, ?_⟩
  dsimp only
  have b03 := b02.trans b3
  have hv3 := hv2.but b3
  obtain ⟨wn, rfl⟩ : ∃ i : Nat, way = (i : Int) := ⟨way.toNat, by omega⟩
  refine ⟨_, rfl, _, _, _, _, isTupD (.tuple ds), rfl, .ty _, hv3.ty, kit_tupD (.tuple ds), _, rfl, iteT ?_⟩
  refine ⟨_, rfl, _, _, rfl, rfl, _, rfl, ?_⟩
  by_cases h6 : wn < 6
  · rw [decide_eq_true (by omega)]
    refine iteT ?_
    obtain ⟨a, xs, rfl, na, ra, hx⟩ := id hv3.tup_inv
    have lx := hx.length
    refine ⟨_, rfl, _, rfl, a, xs, rfl, .inr (.inl ra.rd), _, _, rfl, rfl, ?_⟩
    rw [lx, lds]
    refine ⟨d, l, _, rfl, D3, by decide, by decide, fun H4 r D4 b4 r0 r1 => ?_⟩
    have hv4 := hv3.but b4
    have b04 := b03.trans b4
    obtain ⟨i, rfl⟩ : ∃ i : Nat, r = (i : Int) := ⟨r.toNat, by omega⟩
    dsimp only [gName]
    have nw4 : ∀ p, H4 p = none → Off d l p := fun p hp => D4.new hp
    have mv : ∀ {σ : L2.St}, σ[1]? = some (some (.ref a)) → Mk (Off d l) σ H4 (tVar 1) (.tuple ds) := fun hs => mk_var hs hv4
    have c1 := cutD_len ds none (some (i : Int))
    have c2 := cutD_len ds (some ((i : Int) + 1)) none
    have c3 := cutD_len ds (some (i : Int)) (some ((i : Int) + 1))
    have c4 := cutD_len ds (some (i : Int)) none
    have to : ∀ {σ : L2.St}, σ[1]? = some (some (.ref a)) → σ[3]? = some (some (.int (i : Int))) → Mk (Off d l) σ H4 (tSl (rSlA K) (tVar 1) tNoPart (tPart (tVar 3))) (.tuple (cutD ds none (some (i : Int)))) := fun h1 h3 => mk_sl nw4 none (some (i : Int)) (mv h1) (fun _ _ q => q) (fun _ _ q => ⟨_, h3, _, rfl, q⟩)
    have fr : ∀ {σ : L2.St}, σ[1]? = some (some (.ref a)) → σ[3]? = some (some (.int (i : Int))) → Mk (Off d l) σ H4 (tSl (rSlA K) (tVar 1) (tPart (tVar 3)) tNoPart) (.tuple (cutD ds (some (i : Int)) none)) := fun h1 h3 => mk_sl nw4 (some (i : Int)) none (mv h1) (fun _ _ q => ⟨_, h3, _, rfl, q⟩) (fun _ _ q => q)
    have f1 : ∀ {σ : L2.St}, σ[1]? = some (some (.ref a)) → σ[3]? = some (some (.int (i : Int))) → Mk (Off d l) σ H4 (tSl (rSlA K) (tVar 1) (tPart (tOp (rI0 fun i j => V.int (i + j)) (tVar 3) (tC (V.int 1)))) tNoPart) (.tuple (cutD ds (some ((i : Int) + 1)) none)) := fun h1 h3 => mk_sl nw4 (some ((i : Int) + 1)) none (mv h1) (fun _ _ q => ⟨_, h3, _, _, rfl, rfl, _, rfl, q⟩) (fun _ _ q => q)
    have on : ∀ {σ : L2.St}, σ[1]? = some (some (.ref a)) → σ[3]? = some (some (.int (i : Int))) → Mk (Off d l) σ H4 (tSl (rSlA K) (tVar 1) (tPart (tVar 3)) (tPart (tOp (rI0 fun i j => V.int (i + j)) (tVar 3) (tC (V.int 1))))) (.tuple (cutD ds (some (i : Int)) (some ((i : Int) + 1)))) := fun h1 h3 => mk_sl nw4 (some (i : Int)) (some ((i : Int) + 1)) (mv h1) (fun _ _ q => ⟨_, h3, _, rfl, q⟩) (fun _ _ q => ⟨_, h3, _, _, rfl, rfl, _, rfl, q⟩)
    refine asg_lst (N := Off d l) (Ds := [.list ds, .tuple (cutD ds none (some (i : Int)) ++ cutD ds (some ((i : Int) + 1)) none), .tuple (cutD ds none (some (i : Int)) ++ cutD ds (some (i : Int)) (some ((i : Int) + 1)) ++ cutD ds (some (i : Int)) none), .tuple ds.reverse]) (mka_cons (mk_listT nw4 (mv rfl)) (mka_cons (mk_catT nw4 (to rfl rfl) (f1 rfl rfl) (s40 _ (by omega))) (mka_cons (mk_catT nw4 (mk_catT nw4 (to rfl rfl) (on rfl rfl) (s40 _ (by omega))) (fr rfl rfl) (s40 _ (by rw [List.length_append]; omega))) (mka_cons (mk_revT nw4 (mv rfl)) mka_nil)))) (s40 _ (Nat.le_of_ble_eq_true rfl)) fun H5 vs1 p1 s5 e5 hp1 => ?_
    dsimp only [gName]
    have s6 := s5.trans (Same.upd_new (o := .lst vs1) hp1)
    have e6 := e5.same (Same.upd_new (o := .lst vs1) hp1)
    have g6 : (upd H5 p1 (.lst vs1)) p1 = some (.lst vs1) := upd_same
    generalize upd H5 p1 (.lst vs1) = H6 at s6 e6 g6
    have D6 := D4.same s6
    have nw6 : ∀ p, H6 p = none → Off d l p := fun p hp => D6.new hp
    have hv6 := hv4.same s6
    have to6 : ∀ {σ : L2.St}, σ[1]? = some (some (.ref a)) → σ[3]? = some (some (.int (i : Int))) → Mk (Off d l) σ H6 (tSl (rSlA K) (tVar 1) tNoPart (tPart (tVar 3))) (.tuple (cutD ds none (some (i : Int)))) := fun h1 h3 => mk_sl nw6 none (some (i : Int)) (mk_var h1 hv6) (fun _ _ q => q) (fun _ _ q => ⟨_, h3, _, rfl, q⟩)
    have fr6 : ∀ {σ : L2.St}, σ[1]? = some (some (.ref a)) → σ[3]? = some (some (.int (i : Int))) → Mk (Off d l) σ H6 (tSl (rSlA K) (tVar 1) (tPart (tVar 3)) tNoPart) (.tuple (cutD ds (some (i : Int)) none)) := fun h1 h3 => mk_sl nw6 (some (i : Int)) none (mk_var h1 hv6) (fun _ _ q => ⟨_, h3, _, rfl, q⟩) (fun _ _ q => q)
    refine ixC_mk (N := Off d l) (i := wn) (Ds := [.tuple (cutD ds (some (i : Int)) none ++ cutD ds none (some (i : Int))), .tuple (ds ++ [.int 0])]) rfl g6 e6 (mka_cons (mk_catT nw6 (fr6 rfl rfl) (to6 rfl rfl) (s40 _ (by omega))) (mka_cons (mk_catT nw6 (mk_var rfl hv6) (mk_tup nw6 (mka_cons mk_int mka_nil) (s40 _ (Nat.le_of_ble_eq_true rfl))) (s40 _ (by show ds.length + 1 ≤ 100; omega))) mka_nil)) (s40 _ (Nat.le_of_ble_eq_true rfl)) rfl (show wn < 6 from h6) fun H7 v7 E7 s7 dq7 h7 => ?_
    refine q H7 v7 E7 (D6.same s7) (b04.trans (But.of (s6.trans s7))) dq7 ?_
    have cm : ∀ {lo hi : Option Int} {z : Int}, PyData.int z ∈ cutD ds lo hi → z.natAbs < 2 ^ 1900 := fun hz => Nat.lt_trans (mem _ (List.mem_of_mem_drop (List.mem_of_mem_take hz))) (by decide)
    have tt : ∀ {es : List PyData} {m : Nat}, SqA 5 m es → m ≤ 300 → (∀ z, PyData.int z ∈ es → z.natAbs < 2 ^ 1900) → Th (.tuple es) := fun h hm hz => th_tup (h.up (k' := 7) (by decide) (Nat.le_refl _)) (by omega) hz
    simp only [List.cons_append, List.nil_append, List.mem_cons, List.not_mem_nil, or_false] at h7
    rcases h7 with rfl | rfl | rfl | rfl | rfl | rfl
    · exact ⟨(Sq.list sqd).mono (by decide) (by decide), fun es z e _ => by cases e⟩
    · exact tt ((sqd.cut _ _).app (sqd.cut _ _)) (by decide) fun z hz => (List.mem_append.mp hz).elim cm cm
    · exact tt (((sqd.cut _ _).app (sqd.cut _ _)).app (sqd.cut _ _)) (by decide) fun z hz => (List.mem_append.mp hz).elim (fun hz => (List.mem_append.mp hz).elim cm cm) cm
    · exact tt sqd.rev (by decide) fun z hz => Nat.lt_trans (mem z (List.mem_reverse.mp hz)) (by decide)
    · exact tt ((sqd.cut _ _).app (sqd.cut _ _)) (by decide) fun z hz => (List.mem_append.mp hz).elim cm cm
    · exact tt (sqd.app (SqA.cons (rs_int (k := 5) (m := 0) (v := 0) (by decide)).q SqA.nil)) (by decide) fun z hz => (List.mem_append.mp hz).elim (fun h => Nat.lt_trans (mem z h) (by decide)) fun h => by
        cases (List.mem_singleton.mp h)
        decide
  rw [decide_eq_false (by omega)]
  refine iteF ?_
  dsimp only [tNext]
  refine ⟨_, rfl, v, .tuple ds, Off d l, rfl, hv3, _, rfl, iteF (iteF ?_)⟩
  dsimp only [tNext]
  refine ⟨_, rfl, _, _, _, _, false, rfl, .ty _, hv3.ty, (kit_tab (a := "tuple") (b := "str") false), _, rfl, iteF (iteF ?_)⟩
  dsimp only [tNext]
  have nw3 : ∀ p, H3 p = none → Off d l p := fun p hp => D3.new hp
  refine' asg_lst (N := Off d l) (Ds := _) ?P1 ?P2 fun H5 vs1 p1 s1 e1 hp1 => ?_
  case P1 =>
    repeat' first
      | exact mka_nil
      | exact mk_non
      | exact mk_bl
      | exact mk_int
      | exact mk_st
      | exact mk_d0 nw3
      | exact mk_d01 nw3
      | refine' mka_cons ?_ ?_
      | refine' mk_tup nw3 ?_ ?_
      | refine' mk_lst nw3 ?_ ?_
      | refine' mk_neg ?_
      | refine' mk_pow ?_ ?_ ?_
    all_goals first | decide | exact ⟨by decide, by decide, by decide⟩
  case P2 => decide
  dsimp only [gName]
  have s2 := s1.trans (Same.upd_new (o := .lst vs1) hp1)
  have f1 := e1.same (Same.upd_new (o := .lst vs1) hp1)
  have g1 : (upd H5 p1 (.lst vs1)) p1 = some (.lst vs1) := upd_same
  generalize upd H5 p1 (.lst vs1) = H6 at s2 f1 g1
  have D2 := D3.same s2
  have nw2 : ∀ p, H6 p = none → Off d l p := fun p hp => D2.new hp
  refine' pick_cat (Ds := _) rfl g1 f1 ?P3 ?P4 (by decide) ?P5 rfl D2 fun H7 v7 DD D7 b7 dq7 h7 => ?_
  case P3 =>
    repeat' first
      | exact mka_nil
      | exact mk_int
      | exact mk_st
      | refine' mka_cons ?_ ?_
      | refine' mk_tup nw2 ?_ ?_
      | refine' mk_lst nw2 ?_ ?_
      | refine' mk_neg ?_
      | refine' mk_pow ?_ ?_ ?_
    all_goals first | decide | exact ⟨by decide, by decide, by decide⟩
  case P4 => decide
  case P5 => decide
  refine q H7 v7 DD D7 ((b03.trans (But.of s2)).trans b7) dq7 ?_
  exact th_of (List.all_eq_true.mp (show List.all _ thB = true by decide +kernel) DD h7)
end
end Ft

set_option exponentiation.threshold 9000
namespace Ft
open PySem L2
def sp_other : Sp := fun vs H Q _ => ∃ (d l : Addr) (v : V) (k : Nat) (x y : Int) (t : Nat), vs = [.ref d, v] ∧ DeckAt H d l ∧ PcAt H v k x y t ∧ PcOk k x y t ∧ t ≤ 400 ∧ ∀ H' v' D', DeckAt H' d l → But d l H H' → Dq H' (Off d l) v' D' → Th D' → Q v' H'
abbrev d5 (a b c e : Int) : PyData := .tuple [.str (Str.ofString "sum"), .int a, .int b, .int c, .int e]
theorem th5 {a b c e : Int} (ha : a.natAbs < 2 ^ 100) (hb : b.natAbs < 2 ^ 100) (hc : c.natAbs < 2 ^ 100) (he : e.natAbs < 2 ^ 100) : Th (d5 a b c e) := by
  have si : ∀ z : Int, z.natAbs < 2 ^ 100 → Sq 7 1 (.int z) := fun z h => (rs_int (k := 7) (m := 0) (Nat.lt_trans h (by decide))).q
  have ss : Sq 7 40 (.str (Str.ofString "sum")) := ⟨by decide +kernel, by decide +kernel, by decide +kernel, by decide +kernel⟩
  refine th_tup (SqA.cons ss (SqA.cons (si a ha) (SqA.cons (si b hb) (SqA.cons (si c hc) (SqA.cons (si e he) SqA.nil))))) (by decide) fun z h => ?_
  simp only [List.mem_cons, List.not_mem_nil, or_false] at h
  have up : ∀ {z : Int}, z.natAbs < 2 ^ 100 → z.natAbs < 2 ^ 1900 := fun h => Nat.lt_trans h (by decide)
  rcases h with h | h | h | h | h <;> cases h
  · exact up ha
  · exact up hb
  · exact up hc
  · exact up he
/-- an int that is picked -/
theorem int_of {Ds : List PyData} {D : PyData} {H : Hp} {N : Addr → Prop} {v : V} (h : D ∈ Ds) (dq : Dq H N v D) (all : ∀ D ∈ Ds, ∃ z, D = .int z ∧ z.natAbs < 2 ^ 100) : ∃ z, D = .int z ∧ v = .int z ∧ z.natAbs < 2 ^ 100 := by
  obtain ⟨z, rfl, b⟩ := all D h
  cases dq
  exact ⟨z, rfl, rfl, b⟩
section
variable {P : Program} {w : World} {K : PySem.W.Frag} {mg : Str → Option Value} {base : Heap}
theorem ok_other (D : Df K mg "_law_other" s__law_other ["_law_deck_here", "_law_piece"]) (B : Bi mg) (c__law_draw : Cal P w K mg base 1 "_law_draw" sp_draw) (c__law_pick : Cal P w K mg base 2 "_law_pick" (sp_pick K)) (c__law_bent : Cal P w K mg base 5 "_law_bent" sp_bentP) : Cal P w K mg base 6 "_law_other" sp_other := by
  obtain ⟨f, fd, F, m, b⟩ := D.ex
  have sc := sc__law_other
  refine ⟨f, fd, _, F.ok sc (fun _ _ _ _ ⟨_, _, _, _, _, _, _, e, _⟩ => by rw [e]; rfl) (fun cdv A outer s H vs Q E hr h => ?_), m, F.kp, b⟩
  obtain ⟨d, l, v, k, x, y, t, rfl, D0, ⟨p, rfl, hp⟩, ok, t4, q⟩ := h
  refine ⟨_, (pss_cons (ps_asg (pv 1) (pg_tup rfl (pgs_cons (pg_name (i := 2) sc.nd rfl (Or.inl rfl)) (pgs_cons (pg_name (i := 3) sc.nd rfl (Or.inl rfl)) (pgs_cons (pg_name (i := 4) sc.nd rfl (Or.inl rfl)) (pgs_cons (pg_name (i := 5) sc.nd rfl (Or.inl rfl)) (pgs_cons (pg_name (i := 6) sc.nd rfl (Or.inl rfl)) pgs_nil)))))))
      (pss_cons (ps_set (i := 7) sc.nd rfl (Or.inl rfl) (pe_c c__law_draw hr (by decide) (by rfl) (pa_cons (pv 0) (pa_cons pe_int pa_nil))))
      (pss_cons (ps_if (pt_cmpR op_eq (pv 7) pe_int (nomark _))
      (pss_one (ps_ret (pe_tup (pa_cons (pv 2) (pa_cons (pe_c c__law_pick hr (by decide) (by rfl) (pa_cons (pv 0) (pa_cons (pe_lst (pa_cons pe_int (pa_cons pe_int (pa_cons pe_int (pa_cons pe_int (pa_cons pe_int (pa_cons pe_int (pa_cons (pe_op op_add (pv 3) pe_int) (pa_cons (pe_op op_add (pv 3) pe_int) (pa_cons (pe_un un_neg (pv 3)) pa_nil)))))))))) pa_nil))) (pa_cons (pv 4) (pa_cons (pv 5) (pa_cons (pv 6) pa_nil))))))))
      pss_nil)
      (pss_cons (ps_if (pt_cmpR op_eq (pv 7) pe_int (nomark _))
      (pss_one (ps_ret (pe_tup (pa_cons (pv 2) (pa_cons (pv 3) (pa_cons (pv 5) (pa_cons (pv 4) (pa_cons (pe_c c__law_pick hr (by decide) (by rfl) (pa_cons (pv 0) (pa_cons (pe_lst (pa_cons pe_int (pa_cons pe_int (pa_cons pe_int (pa_cons (pv 6) (pa_cons (pe_un un_neg (pv 6)) (pa_cons pe_int (pa_cons pe_int pa_nil)))))))) pa_nil))) pa_nil))))))))
      pss_nil)
      (pss_cons (ps_if (pt_cmpR op_eq (pv 7) pe_int (nomark _))
      (pss_cons (ps_set (i := 8) sc.nd rfl (Or.inl rfl) (pe_op op_fdivW pe_int (pe_callB call_abs (by rfl) B.abs (by decide +kernel) (pa_cons (pe_op op_mulW (pv 4) (pv 5)) pa_nil))))
        (pss_one (ps_ret (pe_tup (pa_cons (pv 2) (pa_cons (pv 3) (pa_cons (pv 4) (pa_cons (pv 5) (pa_cons (pe_c c__law_pick hr (by decide) (by rfl) (pa_cons (pv 0) (pa_cons (pe_lst (pa_cons (pv 8) (pa_cons (pe_op op_add (pv 8) pe_int) (pa_cons pe_int (pa_cons pe_int (pa_cons (pe_op op_pow pe_int pe_int) pa_nil)))))) pa_nil))) pa_nil)))))))))
      pss_nil)
      (pss_cons (ps_if (pt_cmpR op_eq (pv 7) pe_int (nomark _))
      (pss_cons (ps_set (i := 9) sc.nd rfl (Or.inl rfl) (pe_c c__law_pick hr (by decide) (by rfl) (pa_cons (pv 0) (pa_cons (pe_lst (pa_cons pe_int (pa_cons (pe_un un_neg pe_int) (pa_cons pe_int (pa_cons pe_int (pa_cons pe_int (pa_cons pe_int (pa_cons (pe_un un_neg pe_int) (pa_cons pe_int (pa_cons pe_int (pa_cons (pe_un un_neg pe_int) (pa_cons pe_int (pa_cons pe_int (pa_cons pe_int (pa_cons (pe_un un_neg pe_int) (pa_cons (pe_un un_neg pe_int) (pa_cons pe_int (pa_cons pe_int (pa_cons pe_int (pa_cons pe_int (pa_cons pe_int (pa_cons (pe_un un_neg pe_int) (pa_cons (pe_un un_neg pe_int) pa_nil))))))))))))))))))))))) pa_nil))))
        (pss_one (ps_ret (pe_ifExp (pt_cmpR op_eq (pe_c c__law_draw hr (by decide) (by rfl) (pa_cons (pv 0) (pa_cons pe_int pa_nil))) pe_int (nomark _)) (pe_tup (pa_cons (pv 2) (pa_cons (pv 3) (pa_cons (pv 9) (pa_cons (pv 5) (pa_cons pe_int pa_nil)))))) (pe_tup (pa_cons (pv 2) (pa_cons (pv 3) (pa_cons (pv 4) (pa_cons (pv 9) (pa_cons pe_int pa_nil))))))))))
      pss_nil)
      (pss_cons (ps_if (pt_cmpR op_eq (pv 7) pe_int (nomark _))
      (pss_one (ps_ret (pe_tup (pa_cons (pv 2) (pa_cons (pe_op op_add pe_int (pe_c c__law_draw hr (by decide) (by rfl) (pa_cons (pv 0) (pa_cons pe_int pa_nil)))) (pa_cons (pe_c c__law_pick hr (by decide) (by rfl) (pa_cons (pv 0) (pa_cons (pe_lst (pa_cons pe_int (pa_cons (pe_un un_neg pe_int) (pa_cons pe_int (pa_cons (pe_un un_neg pe_int) pa_nil))))) pa_nil))) (pa_cons (pe_c c__law_pick hr (by decide) (by rfl) (pa_cons (pv 0) (pa_cons (pe_lst (pa_cons pe_int (pa_cons (pe_un un_neg pe_int) (pa_cons pe_int (pa_cons pe_int pa_nil))))) pa_nil))) (pa_cons (pv 6) pa_nil))))))))
      pss_nil)
      (pss_cons (ps_if (pt_cmpR op_eq (pv 7) pe_int (nomark _))
      (pss_one (ps_ret (pe_op op_catA (pe_tup (pa_cons (pe_c c__law_pick hr (by decide) (by rfl) (pa_cons (pv 0) (pa_cons (pe_lst (pa_cons pe_str (pa_cons pe_str (pa_cons pe_str (pa_cons pe_str (pa_cons pe_non (pa_cons pe_str (pa_cons (pe_tup (pa_cons pe_str pa_nil)) pa_nil)))))))) pa_nil))) pa_nil)) (pe_slice sl_tupA (pv 1) (po_some pe_int) po_none))))
      pss_nil)
      (pss_one (ps_ret (pe_ifExp (pt_cmpR op_eq (pv 7) pe_int (nomark _)) (pv 1) (pe_c c__law_bent hr (by decide) (by rfl) (pa_cons (pv 0) (pa_cons (pv 1) (pa_cons pe_int pa_nil))))))))))))))), ?_⟩
  have k24 := ok.k24
  obtain ⟨x4, x0, _⟩ := isSign_le ok.sx
  obtain ⟨y4, y0, _⟩ := isSign_le ok.sy
  have up : (400 : Nat) < 2 ^ 100 := by decide
  have kB : (k : Int).natAbs < 2 ^ 100 := by omega
  have xB : x.natAbs < 2 ^ 100 := by omega
  have yB : y.natAbs < 2 ^ 100 := by omega
  have tB : (t : Int).natAbs < 2 ^ 100 := by omega
  have s40 : ∀ n : Nat, n ≤ 100 → n ≤ sizeLine := fun n h => Nat.le_trans h (by decide)
  refine ⟨_, rfl, p, _, rfl, SqT.of hp, rfl, _, _, rfl, _, _, rfl, _, _, rfl, _, _, rfl, _, _, rfl, rfl, ?_⟩
  dsimp only [gName]
  refine ⟨_, rfl, d, l, 8, rfl, D0, by decide, by decide, fun H1 way D1 b1 w0 w1 => ?_⟩
  dsimp only [gName]
  have np : Off d l p := ⟨D0.offd hp, D0.offl hp⟩
  have hp1 := b1 _ _ hp np.1 np.2
  have nw1 : ∀ r, H1 r = none → Off d l r := fun r hr => D1.new hr
  have mk5 : ∀ {H2 : Hp} {a b c e : Int} {r : Addr}, DeckAt H2 d l → But d l H1 H2 → H2 r = none → a.natAbs < 2 ^ 100 → b.natAbs < 2 ^ 100 → c.natAbs < 2 ^ 100 → e.natAbs < 2 ^ 100 → Q (.ref r) (upd H2 r (.tup [.str (Str.ofString "sum"), .int a, .int b, .int c, .int e])) := fun {H2 a b c e r} D2 b2 hr ha hb hc he => by
    have s := Same.upd_new (o := .tup [.str (Str.ofString "sum"), .int a, .int b, .int c, .int e]) hr
    exact q _ _ (d5 a b c e) (D2.same s) ((b1.trans b2).trans (But.of s)) (.tup (D2.new hr) (.inl upd_same) (.cons (.str _) (.cons (.int _) (.cons (.int _) (.cons (.int _) (.cons (.int _) .nil)))))) (th5 ha hb hc he)
  have bi : ∀ {N : Addr → Prop} {σ : L2.St} {H : Hp} {j : Nat} {z : Int}, σ[j]? = some (some (.int z)) → Mk N σ H (tVar j) (.int z) := fun h => mk_var h (.int _)
  refine ⟨_, rfl, rfl, _, rfl, ifI (fun h0 => ?_) fun h0 => ?_⟩
  · refine ⟨_, rfl, ?_⟩
    refine pick_mk (Ds := [.int 0, .int 1, .int 2, .int 3, .int 24, .int 25, .int ((k : Int) + 1), .int ((k : Int) + 2), .int (-(k : Int))]) (mka_cons mk_int (mka_cons mk_int (mka_cons mk_int (mka_cons mk_int (mka_cons mk_int (mka_cons mk_int (mka_cons (mk_i0 (bi rfl) mk_int) (mka_cons (mk_i0 (bi rfl) mk_int) (mka_cons (mk_neg (bi rfl)) mka_nil))))))))) (s40 _ (Nat.le_of_ble_eq_true rfl)) (Nat.le_of_ble_eq_true rfl) (Nat.le_of_ble_eq_true rfl) rfl D1 fun H2 v2 E2 D2 b2 dq2 h2 => ?_
    obtain ⟨z, rfl, rfl, zB⟩ := int_of h2 dq2 fun D hD => by
      simp only [List.mem_cons, List.not_mem_nil, or_false] at hD
      rcases hD with rfl | rfl | rfl | rfl | rfl | rfl | rfl | rfl | rfl <;> exact ⟨_, rfl, by omega⟩
    exact ⟨_, rfl, _, rfl, _, rfl, (by show (5 : Nat) ≤ sizeLine; decide), fun r hr => mk5 D2 b2 hr zB xB yB tB⟩
  dsimp only [tNext]
  refine ⟨_, rfl, rfl, _, rfl, ifI (fun h1 => ?_) fun h1 => ?_⟩
  · refine ⟨_, rfl, _, rfl, _, rfl, _, rfl, ?_⟩
    refine pick_mk (Ds := [.int 0, .int 1, .int 2, .int (t : Int), .int (-(t : Int)), .int 400, .int 401]) (mka_cons mk_int (mka_cons mk_int (mka_cons mk_int (mka_cons (bi rfl) (mka_cons (mk_neg (bi rfl)) (mka_cons mk_int (mka_cons mk_int mka_nil))))))) (s40 _ (Nat.le_of_ble_eq_true rfl)) (Nat.le_of_ble_eq_true rfl) (Nat.le_of_ble_eq_true rfl) rfl D1 fun H2 v2 E2 D2 b2 dq2 h2 => ?_
    obtain ⟨z, rfl, rfl, zB⟩ := int_of h2 dq2 fun D hD => by
      simp only [List.mem_cons, List.not_mem_nil, or_false] at hD
      rcases hD with rfl | rfl | rfl | rfl | rfl | rfl | rfl <;> exact ⟨_, rfl, by omega⟩
    exact ⟨(by show (5 : Nat) ≤ sizeLine; decide), fun r hr => mk5 D2 b2 hr kB yB xB zB⟩
  dsimp only [tNext]
  refine ⟨_, rfl, rfl, _, rfl, ifI (fun h2 => ?_) fun h2 => ?_⟩
  · have mxy : CMulW x y := mul8 (Nat.lt_of_le_of_lt x4 (by decide)) (Nat.lt_of_le_of_lt y4 (by decide))
    have mx : ((if x * y < 0 then -(x * y) else x * y) : Int) = ((x * y).natAbs : Int) := by split <;> omega
    have xy1 : 1 ≤ (x * y).natAbs := by
      rw [Int.natAbs_mul]
      exact Nat.mul_pos (by omega) (by omega)
    have xy4 : (x * y).natAbs ≤ 160000 := by
      rw [Int.natAbs_mul]
      exact Nat.mul_le_mul x4 y4
    refine ⟨_, rfl, _, rfl, _, _, rfl, rfl, mxy, _, rfl, ?_⟩
    rw [mx]
    refine ⟨_, _, rfl, rfl, ⟨by omega, ?_⟩, ?_⟩
    · rw [Int.natAbs_natCast]
      have := PySem.Flt.log2_lt_of (n := (x * y).natAbs) (k := 100) (by decide) (Nat.lt_of_le_of_lt xy4 (by decide))
      omega
    dsimp only [gName]
    have room : ((400 : Int) / ((x * y).natAbs : Int)).natAbs ≤ 400 := by
      have : (400 : Int) / ((x * y).natAbs : Int) = ((400 / (x * y).natAbs : Nat) : Int) := by rw [Int.natCast_ediv]; rfl
      rw [this, Int.natAbs_natCast]
      exact Nat.div_le_self _ _
    generalize (400 : Int) / ((x * y).natAbs : Int) = rm at room
    refine ⟨_, rfl, _, rfl, _, rfl, _, rfl, ?_⟩
    refine pick_mk (Ds := [.int rm, .int (rm + 1), .int 0, .int 1, .int ((10 : Int) ^ (29 : Int).toNat)]) (mka_cons (bi rfl) (mka_cons (mk_i0 (bi rfl) mk_int) (mka_cons mk_int (mka_cons mk_int (mka_cons (mk_pow mk_int mk_int) mka_nil))))) (s40 _ (Nat.le_of_ble_eq_true rfl)) (Nat.le_of_ble_eq_true rfl) (Nat.le_of_ble_eq_true rfl) rfl D1 fun H2 v2 E2 D2 b2 dq2 h2 => ?_
    obtain ⟨z, rfl, rfl, zB⟩ := int_of h2 dq2 fun D hD => by
      simp only [List.mem_cons, List.not_mem_nil, or_false] at hD
      rcases hD with rfl | rfl | rfl | rfl | rfl
      · exact ⟨_, rfl, by omega⟩
      · exact ⟨_, rfl, by omega⟩
      · exact ⟨_, rfl, by decide⟩
      · exact ⟨_, rfl, by decide⟩
      · exact ⟨_, rfl, by decide⟩
    exact ⟨(by show (5 : Nat) ≤ sizeLine; decide), fun r hr => mk5 D2 b2 hr kB xB yB zB⟩
  dsimp only [tNext]
  refine ⟨_, rfl, rfl, _, rfl, ifI (fun h3 => ?_) fun h3 => ?_⟩
  · refine pick_mk (Ds := [1, -1, 0, 2, 3, 4, -4, 9, 16, -16, 20, 397, 400, -399, -400, 401, 60, 45, 12, 5, -3, -7].map PyData.int) (mka_cons mk_int (mka_cons (mk_neg mk_int) (mka_cons mk_int (mka_cons mk_int (mka_cons mk_int (mka_cons mk_int (mka_cons (mk_neg mk_int) (mka_cons mk_int (mka_cons mk_int (mka_cons (mk_neg mk_int) (mka_cons mk_int (mka_cons mk_int (mka_cons mk_int (mka_cons (mk_neg mk_int) (mka_cons (mk_neg mk_int) (mka_cons mk_int (mka_cons mk_int (mka_cons mk_int (mka_cons mk_int (mka_cons mk_int (mka_cons (mk_neg mk_int) (mka_cons (mk_neg mk_int) mka_nil)))))))))))))))))))))) (s40 _ (Nat.le_of_ble_eq_true rfl)) (Nat.le_of_ble_eq_true rfl) (Nat.le_of_ble_eq_true rfl) rfl D1 fun H2 v2 E2 D2 b2 dq2 h2 => ?_
    obtain ⟨z, rfl, rfl, zB⟩ := int_of h2 dq2 fun D hD => by
      obtain ⟨z, hz, rfl⟩ := List.mem_map.mp hD
      exact ⟨z, rfl, of_decide_eq_true (List.all_eq_true.mp (show ([1, -1, 0, 2, 3, 4, -4, 9, 16, -16, 20, 397, 400, -399, -400, 401, 60, 45, 12, 5, -3, -7] : List Int).all (fun z => decide (z.natAbs < 2 ^ 100)) = true by decide +kernel) z hz)⟩
    dsimp only [gName]
    refine ⟨_, rfl, d, l, 2, rfl, D2, by decide, by decide, fun H3 r2 D3 b3 _ _ => ⟨rfl, _, rfl, ifI (fun e => ?_) fun e => ?_⟩⟩
    · exact ⟨_, rfl, _, rfl, _, rfl, _, rfl, (by show (5 : Nat) ≤ sizeLine; decide), fun r hr => mk5 D3 (b2.trans b3) hr kB zB yB (by decide)⟩
    · exact ⟨_, rfl, _, rfl, _, rfl, _, rfl, (by show (5 : Nat) ≤ sizeLine; decide), fun r hr => mk5 D3 (b2.trans b3) hr kB xB zB (by decide)⟩
  dsimp only [tNext]
  refine ⟨_, rfl, rfl, _, rfl, ifI (fun h4 => ?_) fun h4 => ?_⟩
  · refine ⟨_, rfl, _, rfl, d, l, 2, rfl, D1, by decide, by decide, fun H2 r2 D2 b2 r20 r21 => ⟨_, _, rfl, rfl, ?_⟩⟩
    refine pick_mk (Ds := [1, -4, 1, -3].map PyData.int) (mka_cons mk_int (mka_cons (mk_neg mk_int) (mka_cons mk_int (mka_cons (mk_neg mk_int) mka_nil)))) (s40 _ (Nat.le_of_ble_eq_true rfl)) (Nat.le_of_ble_eq_true rfl) (Nat.le_of_ble_eq_true rfl) rfl D2 fun H3 v3 E3 D3 b3 dq3 h3 => ?_
    obtain ⟨z, rfl, rfl, zB⟩ := int_of h3 dq3 fun D hD => by
      obtain ⟨z, hz, rfl⟩ := List.mem_map.mp hD
      exact ⟨z, rfl, of_decide_eq_true (List.all_eq_true.mp (show ([1, -4, 1, -3] : List Int).all (fun z => decide (z.natAbs < 2 ^ 100)) = true by decide +kernel) z hz)⟩
    refine pick_mk (Ds := [1, -4, 1, 5].map PyData.int) (mka_cons mk_int (mka_cons (mk_neg mk_int) (mka_cons mk_int (mka_cons mk_int mka_nil)))) (s40 _ (Nat.le_of_ble_eq_true rfl)) (Nat.le_of_ble_eq_true rfl) (Nat.le_of_ble_eq_true rfl) rfl D3 fun H4 v4 E4 D4 b4 dq4 h4 => ?_
    obtain ⟨z', rfl, rfl, zB'⟩ := int_of h4 dq4 fun D hD => by
      obtain ⟨z, hz, rfl⟩ := List.mem_map.mp hD
      exact ⟨z, rfl, of_decide_eq_true (List.all_eq_true.mp (show ([1, -4, 1, 5] : List Int).all (fun z => decide (z.natAbs < 2 ^ 100)) = true by decide +kernel) z hz)⟩
    exact ⟨_, rfl, (by show (5 : Nat) ≤ sizeLine; decide), fun r hr => mk5 D4 ((b2.trans b3).trans b4) hr (by omega) zB zB' tB⟩
  dsimp only [tNext]
  have dq1 : Dq H1 (Off d l) (.ref p) (d5 (k : Int) x y (t : Int)) := .tup np (.inl hp1) (.cons (.str _) (.cons (.int _) (.cons (.int _) (.cons (.int _) (.cons (.int _) .nil)))))
  refine ⟨_, rfl, rfl, _, rfl, ifI (fun h5 => ?_) fun h5 => ?_⟩
  · refine pick_mk (Ds := [.str "sum", .str "sums", .str "Sum", .str "", .none, .str "form", .tuple [.str "sum"]]) (mka_cons mk_st (mka_cons mk_st (mka_cons mk_st (mka_cons mk_st (mka_cons mk_non (mka_cons mk_st (mka_cons (mk_tup nw1 (mka_cons mk_st mka_nil) (s40 _ (Nat.le_of_ble_eq_true rfl))) mka_nil))))))) (s40 _ (Nat.le_of_ble_eq_true rfl)) (Nat.le_of_ble_eq_true rfl) (Nat.le_of_ble_eq_true rfl) rfl D1 fun H2 v2 E2 D2 b2 dq2 h2 => ?_
    have sE : Sq 7 300 E2 ∧ ∀ z, E2 = .int z → False := by
      simp only [List.mem_cons, List.not_mem_nil, or_false] at h2
      rcases h2 with rfl | rfl | rfl | rfl | rfl | rfl | rfl <;> exact ⟨⟨by decide +kernel, by decide +kernel, by decide +kernel, by decide +kernel⟩, fun z e => by cases e⟩
    refine ⟨(by show (1 : Nat) ≤ sizeLine; decide), fun T hT => ?_⟩
    have s3 : Same H2 (upd H2 T (.tup [v2])) := Same.upd_new hT
    have D3 := D2.same s3
    have e3 : Dq (upd H2 T (.tup [v2])) (Off d l) (.ref T) (.tuple [E2]) := .tup (D2.new hT) (.inl upd_same) (.cons (dq2.same s3) .nil)
    have dq3 := (dq1.but b2).same s3
    generalize upd H2 T (.tup [v2]) = H3 at s3 D3 e3 dq3
    have nw3 : ∀ r, H3 r = none → Off d l r := fun r hr => D3.new hr
    refine mk_sl nw3 (some 1) none (mk_var rfl dq3) (fun _ _ h => ⟨1, rfl, h⟩) (fun _ _ h => h) H3 _ (Same.refl _) fun H4 v4 s4 e4 => ?_
    have D4 := D3.same s4
    refine cat_dq (fun r hr => D4.new hr) (e3.same s4) e4 (s40 _ (Nat.le_of_ble_eq_true rfl)) fun H5 v5 s5 e5 => ?_
    have ec : cutD [PyData.str (Str.ofString "sum"), .int (k : Int), .int x, .int y, .int (t : Int)] (some 1) none = [.int (k : Int), .int x, .int y, .int (t : Int)] := rfl
    rw [ec] at e5
    refine q H5 v5 _ (D4.same s5) ((b1.trans b2).trans (But.of (s3.trans (s4.trans s5)))) e5 ?_
    have si : ∀ z : Int, z.natAbs < 2 ^ 100 → Sq 7 1 (.int z) := fun z h => (rs_int (k := 7) (m := 0) (Nat.lt_trans h (by decide))).q
    refine th_tup (SqA.cons sE.1 (SqA.cons (si _ kB) (SqA.cons (si _ xB) (SqA.cons (si _ yB) (SqA.cons (si _ tB) SqA.nil))))) (by decide) fun z h => ?_
    have upp : ∀ {z : Int}, z.natAbs < 2 ^ 100 → z.natAbs < 2 ^ 1900 := fun h => Nat.lt_trans h (by decide)
    rcases List.mem_cons.mp h with h | h
    · exact (sE.2 z h.symm).elim
    replace h : PyData.int z ∈ [.int (k : Int), .int x, .int y, .int (t : Int)] := h
    simp only [List.mem_cons, List.not_mem_nil, or_false] at h
    rcases h with h | h | h | h <;> cases h
    · exact upp kB
    · exact upp xB
    · exact upp yB
    · exact upp tB
  dsimp only [tNext]
  refine ⟨_, rfl, rfl, _, rfl, ifI (fun h6 => ?_) fun h6 => ?_⟩
  · exact ⟨_, rfl, q _ _ _ D1 b1 dq1 (th5 kB xB yB tB)⟩
  · have dn : (400 : Nat) < 10 ^ 28 := by decide
    exact ⟨_, rfl, _, rfl, d, l, .ref p, (k : Int), x, y, (t : Int), rfl, D1, dq1, ⟨by omega, by omega, by omega, by omega⟩, fun H2 v2 E2 D2 b2 dq2 th => q _ _ _ D2 (b1.trans b2) dq2 th⟩
end
end Ft

set_option exponentiation.threshold 9000
namespace Ft
open PySem L2
def rowF (k : Nat) (x y : Int) (t n : Nat) : Int := if n = 0 then (fstV k x y t).1 else (fstV k x y t).2 * latV k x y t n
theorem rowT_map {k : Nat} {x y : Int} {t M : Nat} (h : 1 ≤ M) : rowT k x y t M = (List.range M).map (rowF k x y t) := by
  obtain ⟨m, rfl⟩ : ∃ m, M = m + 1 := ⟨M - 1, by omega⟩
  unfold rowT
  rw [List.range_succ_eq_map, List.map_cons, List.map_map]
  congr 1
theorem rowT_getD {k : Nat} {x y : Int} {t M n : Nat} (h : n < M) : (rowT k x y t M).getD n 0 = rowF k x y t n := by
  rw [rowT_map (by omega), List.getD_eq_getElem?_getD, List.getElem?_map, List.getElem?_range h]
  rfl
theorem rowT_lt {k : Nat} {x y : Int} {t M : Nat} (ok : PcOk k x y t) (ps : PcS x y) (M4 : M ≤ 400) : ∀ z ∈ rowT k x y t M, z.natAbs < 2 ^ 1900 := by
  obtain ⟨f1, f2, f3⟩ := fst_le ok ps
  intro z hz
  unfold rowT at hz
  rcases List.mem_cons.mp hz with rfl | hz
  · exact Nat.lt_trans f1 (Nat.pow_lt_pow_right (by decide) (by decide))
  · obtain ⟨i, hi, rfl⟩ := List.mem_map.mp hz
    have hi := List.mem_range.mp hi
    have l := latV_le (n := i + 1) ok (by omega)
    rw [Int.natAbs_mul]
    have := Nat.mul_lt_mul_of_lt_of_le f2 (Nat.le_of_lt l) (Nat.two_pow_pos 600)
    rwa [← Nat.pow_add] at this
theorem up19 {z : Int} (h : z.natAbs < 2 ^ 1900) : z.natAbs < 2 ^ 2000 := Nat.lt_trans h (Nat.pow_lt_pow_right (by decide) (by decide))
theorem up13 {z : Int} (h : z.natAbs < 2 ^ 1300) : z.natAbs < 2 ^ 1900 := Nat.lt_trans h (Nat.pow_lt_pow_right (by decide) (by decide))
theorem up8 {z : Int} (h : z.natAbs < 2 ^ 1900) : z.natAbs < 2 ^ 8000 := Nat.lt_trans h (Nat.pow_lt_pow_right (by decide) (by decide))
theorem rowT_ok {k : Nat} {x y : Int} {t M : Nat} (ok : PcOk k x y t) (ps : PcS x y) (M1 : 1 ≤ M) (M4 : M ≤ 400) : BgOk (fstV k x y t).2 (rowT k x y t M) := by
  obtain ⟨f1, f2, f3⟩ := fst_le ok ps
  exact ⟨by omega, by rw [rowT_len M1]; exact M1, by rw [rowT_len M1]; exact M4⟩
theorem rowT_take {k : Nat} {x y : Int} {t M L : Nat} (h1 : 1 ≤ L) (h2 : L ≤ M) : (rowT k x y t M).take L = rowT k x y t L := by
  rw [rowT_map (by omega), rowT_map h1, ← List.map_take, List.take_range, Nat.min_eq_left h2]
def idV : List V → List V → List V := fun us zs => match us with
  | [] => zs
  | _ => []
def idU : List Value → List Value → List Value := fun us zs => match us with
  | [] => zs
  | _ => []
theorem id_rel : ∀ {vs : List V} {us : List Value} {zs : List V} {ws : List Value}, Vals vs us → Vals zs ws → Vals (idV vs zs) (idU us ws)
  | _, _, _, _, .nil, h => h
  | _, _, _, _, .cons _ _, _ => .nil
theorem cut_take (xs : List V) (k : Nat) : cutV xs none (some (k : Int)) = xs.take k := by
  unfold cutV
  rw [HT.sIx_none, HT.sIx_nat, List.drop_zero, Nat.sub_zero]
  rcases Nat.le_total k xs.length with h | h
  · rw [Nat.min_eq_left h]
  · rw [Nat.min_eq_right h, List.take_of_length_le (Nat.le_refl _), List.take_of_length_le h]
theorem slA_all {K : PySem.W.Frag} {H : Hp} {r : Addr} {ts : List Int} {M : Nat} {W : VK} (h : H r = some (.tup (ts.map V.int))) (m : ∀ H1 q, Same H H1 → H1 q = some (.tup ((ts.take M).map V.int)) → W (.ref q) H1) : rSlA K (.ref r) none (some (M : Int)) H W := by
  refine ⟨r, _, rfl, SqT.of h, fun e => m H r (Same.refl H) ?_, fun _ p hp => m _ p (Same.upd_new hp) ?_⟩
  · have e2 := e.2
    rw [HT.sIx_nat, List.length_map] at e2
    rw [h, List.take_of_length_le (by omega)]
  · rw [upd_same, cut_take, ← List.map_take]
def frD (x : Fq) : PyData := .tuple [.int x.1, .int x.2]
theorem dp_fr {K : PySem.W.Frag} {H : Hp} {v : V} {x : Fq} (h : Fr H v x) : Dp K H v (frD x) := by
  obtain ⟨t, rfl, ht⟩ := h
  exact .tup (SqT.of ht) (.cons (.int _) (.cons (.int _) .nil))
theorem rs_fr {x : Fq} {k : Nat} (h1 : x.1.natAbs < 2 ^ 1900) (h2 : x.2.natAbs < 2 ^ 1900) : Rs (k + 1) 9 (frD x) := (Rs.tup (RsL.cons (rs_int (m := 0) h1) (RsL.cons (rs_int (m := 0) h2) .nil))).mono (Nat.le_refl _) (by omega)
def rAbs : List V → Hp → VK → Prop := fun xs H Q => ∃ i, xs = [.int i] ∧ Q (.int (if i < 0 then -i else i)) H
end Ft

set_option exponentiation.threshold 9000
namespace Ft
open PySem L2
theorem DeckAt.ext {H H' : Hp} {d l : Addr} (D : DeckAt H d l) (e : LamX.ExtN H H') : DeckAt H' d l := by
  obtain ⟨mx, dr, cs, h1, h2, h3⟩ := D
  exact ⟨mx, dr, cs, e _ _ h1 (by intro ps z; cases z), e _ _ h2 (by intro ps z; cases z), h3⟩
theorem tabs_but {T : List (Addr × Str)} {H H' : Hp} {d l : Addr} (t : LamX.Tabs T H) (D : DeckAt H d l) (b : But d l H H') : LamX.Tabs T H' := fun p hp => by
  obtain ⟨mx, dr, cs, d1, d2, _⟩ := D
  obtain ⟨ps, h1, h2, h3⟩ := t p hp
  refine ⟨ps, b _ _ h1 (ne_of h1 d1 (by intro z; cases z)) (ne_of h1 d2 (by intro z; cases z)), h2, fun pos cv hc => ?_⟩
  obtain ⟨c, e1, e2⟩ := h3 pos cv hc
  exact ⟨c, e1, b _ _ e2 (ne_of e2 d1 (by intro z; unfold LamX.CodeO at z; cases z)) (ne_of e2 d2 (by intro z; unfold LamX.CodeO at z; cases z))⟩
theorem tabs_put {T : List (Addr × Str)} {H : Hp} {l : Addr} {xs : List V} {o : HO} (t : LamX.Tabs T H) (e : H l = some (.lst xs)) : LamX.Tabs T (upd H l o) := fun p hp => by
  obtain ⟨ps, h1, h2, h3⟩ := t p hp
  refine ⟨ps, by rw [upd_ne (ne_of h1 e (by intro z; cases z))]; exact h1, h2, fun pos cv hc => ?_⟩
  obtain ⟨c, e1, e2⟩ := h3 pos cv hc
  exact ⟨c, e1, by rw [upd_ne (ne_of e2 e (by intro z; unfold LamX.CodeO at z; cases z))]; exact e2⟩
theorem pieceD_of {k t : Nat} {x y : Int} (ok : PcOk k x y t) : pieceD (pcD k x y t) = true := by
  show (decide (Str.ofString "sum" = Str.ofString "sum") && pieceN (k : Int) x y (t : Int)) = true
  rw [decide_eq_true (rfl : Str.ofString "sum" = Str.ofString "sum"), Bool.true_and]
  unfold pieceN
  have k1 := ok.k1
  have k24 := ok.k24
  have t1 := ok.t1
  have par : decide (0 < x * y) = decide ((k : Int) % 2 = 0) := by
    rw [ok.par]
    exact decide_eq_decide.mpr ⟨fun z => by omega, fun z => by omega⟩
  rw [decide_eq_true (show (1 : Int) ≤ (k : Int) by omega), decide_eq_true (show (k : Int) ≤ 24 by omega), ok.sx, ok.sy, decide_eq_true (show (1 : Int) ≤ (t : Int) by omega), decide_eq_true par, Int.toNat_natCast, Int.toNat_natCast, decide_eq_true ok.lev, Bool.true_and, Bool.true_and, Bool.true_and, Bool.true_and, Bool.true_and, Bool.true_and]
  by_cases h : (k : Int) = 1
  · rw [if_pos h]
    exact decide_eq_true (ok.one (by omega))
  · rw [if_neg h, Bool.true_and, Bool.or_eq_true]
    rcases ok.pl (by omega) with h2 | h2
    · exact .inl (decide_eq_true (by omega))
    · exact .inr (by rw [h2]; rfl)
theorem pcD_inj {k t k' t' : Nat} {x y x' y' : Int} (h : pcD k x y t = pcD k' x' y' t') : k' = k ∧ x' = x ∧ y' = y ∧ t' = t := by
  have h := PyData.tuple.inj h
  simp only [List.cons.injEq, PyData.int.injEq, true_and, and_true] at h
  omega
/-- te tells a word and a text -/
def ToldS (T : List (Addr × Str)) (te : TE) (S : L2.St → Prop) (H0 : Hp) (wd tx : Str) : Prop := ∀ σ H Q, S σ → LamX.ExtN H0 H → LamX.Tabs T H → (∀ H' p, LamX.ExtN H H' → LamX.Tabs T H' → H' p = some (.tup [.str wd, .str tx, .bl true]) → Q (.ref p) H') → te σ H Q
theorem toldS_err {cl : List Kd} {T : List (Addr × Str)} {t : XK → TE} {S : L2.St → Prop} {H0 : Hp} {k : Kd} {N : Addr → Prop} {v : V} {D : PyData} (hk : k ∈ cl) (hv : Dq H0 N v D) (rep : RepQ D) (ht : ∀ σ E1 H1 Q1, S σ → LamX.ExtN H0 H1 → Rz E1 k.C k.f v H1 → t E1 σ H1 Q1) : ToldS T (LamX.tLam T (TTref cl) t) S H0 k.wd D.shown := by
  intro σ H Q hS x0 hT q
  refine ⟨hT, fun H1 x1 t1 E1 Q1 hE hQ => ht σ E1 H1 Q1 hS (x0.trans x1) fun H2 d s hd => ?_⟩
  have sa := s.trans (Same.upd_new (o := .xd [(k.f, v)]) hd)
  refine hE k hk d v D _ upd_same ((hv.ext (x0.trans (x1.trans (.of sa)))).move (fun _ _ _ e _ => e) fun _ _ _ _ _ => trivial) rep fun p hp => ?_
  have sb := sa.trans (Same.upd_new (o := .tup [.str k.wd, .str D.shown, .bl true]) hp)
  exact q _ p (x1.trans (.of sb)) (t1.ext sb) upd_same
theorem toldS_val {cl : List Kd} {T : List (Addr × Str)} {t : XK → TE} {S : L2.St → Prop} {H0 : Hp} {D : PyData} (rep : RepQ D) (ht : ∀ σ E1 H1 Q1, S σ → LamX.ExtN H0 H1 → (∀ r H', Same H1 H' → Dq H' All r D → Q1 r H') → t E1 σ H1 Q1) : ToldS T (LamX.tLam T (TTref cl) t) S H0 "told" D.shown := by
  intro σ H Q hS x0 hT q
  refine ⟨hT, fun H1 x1 t1 E1 Q1 hE hQ => ht σ E1 H1 Q1 hS (x0.trans x1) fun r H2 s hr => hQ r D H2 hr rep fun p hp => ?_⟩
  have sb := s.trans (Same.upd_new (o := .tup [.str "told", .str D.shown, .bl true]) hp)
  exact q _ p (x1.trans (.of sb)) (t1.ext sb) upd_same
theorem tell3 {C0 C1 : Addr} {T : List (Addr × Str)} {S : L2.St → Prop} {H0 : Hp} {v : V} {D : PyData} {A : Nat → Int → Int → Nat → Hp → V → Prop} {g : Nat → Int → Int → Nat → PyData} {te : XK → TE} (hA : ∀ k x y t H r, A k x y t H r → Dq H All r (g k x y t)) (rep : ∀ k x y t, PcOk k x y t → RepQ (g k x y t)) (hte : ∀ σ E1 H1 Q1, S σ → sp_tellQ C0 A [v] H1 Q1 E1 → te E1 σ H1 Q1) (hd : Dq H0 All v D) (th : Th D) :
    (pieceD D = false → ToldS T (LamX.tLam T (TTref (kds C0 C1)) te) S H0 "BadSum" D.shown) ∧ (∀ k x y t, D = pcD k x y t → PcOk k x y t → ToldS T (LamX.tLam T (TTref (kds C0 C1)) te) S H0 "told" (g k x y t).shown) := by
  refine ⟨fun h => toldS_err (k := ⟨C0, "thing", "BadSum"⟩) List.mem_cons_self hd th.rep fun σ E1 H1 Q1 hS x hz => hte σ E1 H1 Q1 hS ⟨v, D, All, rfl, hd.ext x, th.sm, fun _ => hz, fun k x y t e ok => ?_⟩, fun k x y t e ok => toldS_val (rep k x y t ok) fun σ E1 H1 Q1 hS x1 hq => hte σ E1 H1 Q1 hS ⟨v, D, All, rfl, hd.ext x1, th.sm, fun z => ?_, fun k' x' y' t' e' ok' H' r s hr => ?_⟩⟩
  · rw [e, pieceD_of ok] at h
    cases h
  · rw [e, pieceD_of ok] at z
    cases z
  · obtain ⟨rfl, rfl, rfl, rfl⟩ := pcD_inj (e.symm.trans e')
    exact hq r H' s (hA _ _ _ _ _ _ hr)
/-- what is told of a value: of a piece its level, its sign, its first term -/
def Exp3 (D : PyData) (wd s1 s2 s3 : Str) : Prop := (pieceD D = false ∧ wd = "BadSum" ∧ s1 = D.shown ∧ s2 = D.shown ∧ s3 = D.shown) ∨ ∃ k x y t, D = pcD k x y t ∧ PcOk k x y t ∧ wd = "told" ∧ s1 = (PyData.int (((x * y).natAbs * t : Nat) : Int)).shown ∧ s2 = (PyData.int (anySign (x * y))).shown ∧ s3 = (frD (fstV k x y t)).shown
def TT (H : Hp) (a : Addr) (wd tx : Str) : Prop := H a = some (.tup [.str wd, .str tx, .bl true])
def sp_allTold (T : List (Addr × Str)) : Sp := fun vs H Q _ => ∃ v D wd s1 s2 s3, vs = [v] ∧ Dq H All v D ∧ Th D ∧ LamX.Tabs T H ∧ Exp3 D wd s1 s2 s3 ∧ ∀ H' l a b c, LamX.ExtN H H' → LamX.Tabs T H' → H' l = some (.lst [.ref a, .ref b, .ref c]) → TT H' a wd s1 → TT H' b wd s2 → TT H' c wd s3 → Q (.ref l) H'
theorem rep_int {z : Int} (h : z.natAbs < 2 ^ 1900) : RepQ (.int z) := ((rs_int (k := 2) (m := 0) h).q).rep (by decide) (by decide)
theorem dq_fr {H : Hp} {r : V} {x : Fq} (h : Fr H r x) : Dq H All r (frD x) := by
  obtain ⟨t, rfl, ht⟩ := h
  exact .tup trivial (.inl ht) (.cons (.int _) (.cons (.int _) .nil))
theorem rep_fst {k t : Nat} {x y : Int} (ok : PcOk k x y t) : RepQ (frD (fstV k x y t)) := by
  obtain ⟨_, _, ps⟩ := ok.le
  obtain ⟨f1, f2, _⟩ := fst_le ok ps
  exact (rs_fr (k := 3) (Nat.lt_trans f1 (Nat.pow_lt_pow_right (by decide) (by decide))) (up13 f2)).q.rep (by decide) (by decide)
theorem rep_lvl {k t : Nat} {x y : Int} (ok : PcOk k x y t) : RepQ (.int (((x * y).natAbs * t : Nat) : Int)) := rep_int (by rw [Int.natAbs_natCast]; exact Nat.lt_of_le_of_lt ok.lev (by decide))
theorem xy_le {k t : Nat} {x y : Int} (ok : PcOk k x y t) : (x * y).natAbs ≤ 400 ∧ x * y ≠ 0 := by
  obtain ⟨_, x0, _⟩ := isSign_le ok.sx
  obtain ⟨_, y0, _⟩ := isSign_le ok.sy
  refine ⟨Nat.le_trans ?_ ok.lev, Int.mul_ne_zero x0 y0⟩
  exact Nat.le_mul_of_pos_right _ ok.t1
theorem rep_sgn {k t : Nat} {x y : Int} (ok : PcOk k x y t) : RepQ (.int (anySign (x * y))) := rep_int (Nat.lt_of_le_of_lt (anySgn_le (xy_le ok).2 (xy_le ok).1) (by decide))
section
variable {P : Program} {w : World} {K : PySem.W.Frag} {mg : Str → Option Value} {base : Heap}
set_option maxHeartbeats 0 in
theorem fn_allTold {f : Addr} {fd : FuncData} {C0 C1 CT c Pt : Addr} {T : List (Addr × Str)} (F : Fun K "_law_all_told" "_law_all_told" s__law_all_told f fd) (hc : fd.code = .ref c) (B : Bi mg) (U : ErsU K C0 C1 CT) (L : LamE K mg base C0 C1 CT c Pt T "_law_all_told")
    (x_sum_level : CalL P w K mg base 6 "sum_level" ["divisor_piece"] ["divisor_piece"] idU idV (sp_tellQ C0 lvA)) (x_sum_sign : CalL P w K mg base 6 "sum_sign" ["divisor_piece"] ["divisor_piece"] idU idV (sp_tellQ C0 sgA)) (x_sum_first : CalX P w K mg base 6 "sum_first" (sp_tellQ C0 fsA)) : FnG P w K mg base 10 f fd ["_law_thing"] (sp_allTold T) := by
  have sc := sc__law_all_told
  obtain ⟨fL, fdL, FL, hmL, kpL, bL, kL⟩ := x_sum_level.ex
  obtain ⟨fS, fdS, FS, hmS, kpS, bS, kS⟩ := x_sum_sign.ex
  obtain ⟨fF, fdF, psF, FF, hmF, kpF, bF⟩ := x_sum_first.ex
  refine fun_gC F sc (fun _ _ _ _ ⟨_, _, _, _, _, _, e, _⟩ => by rw [e]; rfl) (fun cdv ec A outer s H vs Q E hgd hr h => ?_)
  obtain rfl : cdv = .ref c := ec.symm.trans hc
  obtain ⟨v, D, wd, s1, s2, s3, rfl, hd, th, hT, ex, q⟩ := h
  refine ⟨_, (pss_cons (ps_set (i := 1) sc.nd rfl (Or.inl rfl) (pe_lst (pa_cons (pe_lamR (k := 6) (T := T) (t := fun E => tCallK (sp_tellQ C0 lvA) idV E tNil (tCons (tVar 0) tNil)) (by rfl) L.r L.e U B hgd L.t rfl L.m L.u hr (by decide) (LamX.lamS_by (sc := defScope s__law_all_told) (by decide +kernel)) rfl (fun _ _ _ _ _ => rfl) (fun A outer s H E f' c' hr2 => pe_kx FL hr2 (by rfl) hmL kpL kL passL (pk_cons (pv 0) pk_nil))) pa_nil)))
      (pss_cons (ps_expr (pe_bm PySem.F.plainAttrs_list PySem.F.slot_list_append PySem.F.type_list_append mt_append (pv 1) (pa_cons (pe_lamR (k := 6) (T := T) (t := fun E => tCallK (sp_tellQ C0 sgA) idV E tNil (tCons (tVar 0) tNil)) (by rfl) L.r L.e U B hgd L.t rfl L.m L.u hr (by decide) (LamX.lamS_by (sc := defScope s__law_all_told) (by decide +kernel)) rfl (fun _ _ _ _ _ => rfl) (fun A outer s H E f' c' hr2 => pe_kx FS hr2 (by rfl) hmS kpS kS passL (pk_cons (pv 0) pk_nil))) pa_nil)))
      (pss_cons (ps_expr (pe_bm PySem.F.plainAttrs_list PySem.F.slot_list_append PySem.F.type_list_append mt_append (pv 1) (pa_cons (pe_lamR (k := 6) (T := T) (t := fun E => tCall (sp_tellQ C0 fsA) [] E (tCons (tVar 0) tNil)) (by rfl) L.r L.e U B hgd L.t rfl L.m L.u hr (by decide) (LamX.lamS_by (sc := defScope s__law_all_told) (by decide +kernel)) rfl (fun _ _ _ _ _ => rfl) (fun A outer s H E f' c' hr2 => pe_call FF hr2 (by rfl) hmF kpF bF .nil passL (pa_cons (pv 0) pa_nil))) pa_nil)))
      (pss_one (ps_ret (pv 1)))))), ?_⟩
  have told : ∀ {A : Nat → Int → Int → Nat → Hp → V → Prop} {g : Nat → Int → Int → Nat → PyData} {te : XK → TE} {tx : Str}, (∀ k x y t H r, A k x y t H r → Dq H All r (g k x y t)) → (∀ k x y t, PcOk k x y t → RepQ (g k x y t)) → (∀ σ E1 H1 Q1, σ[0]? = some (some v) → sp_tellQ C0 A [v] H1 Q1 E1 → te E1 σ H1 Q1) → (pieceD D = false → tx = D.shown) → (∀ k x y t, D = pcD k x y t → PcOk k x y t → tx = (g k x y t).shown) → ToldS T (LamX.tLam T (TTref (kds C0 C1)) te) (fun σ => σ[0]? = some (some v)) H wd tx := fun {A g te tx} hA rep hte h1 h2 => by
    obtain ⟨b1, b2⟩ := tell3 (C1 := C1) (T := T) (S := fun σ => σ[0]? = some (some v)) hA rep hte hd th
    rcases ex with ⟨pf, rfl, _⟩ | ⟨k, x, y, t, e, ok, rfl, _⟩
    · rw [h1 pf]
      exact b1 pf
    · rw [h2 k x y t e ok]
      exact b2 k x y t e ok
  have no : ∀ {k x y t}, pieceD D = false → D = pcD k x y t → PcOk k x y t → False := fun h e ok => by
    rw [e, pieceD_of ok] at h
    cases h
  have ex1 : (pieceD D = false → s1 = D.shown ∧ s2 = D.shown ∧ s3 = D.shown) ∧ ∀ k x y t, D = pcD k x y t → PcOk k x y t → s1 = (PyData.int (((x * y).natAbs * t : Nat) : Int)).shown ∧ s2 = (PyData.int (anySign (x * y))).shown ∧ s3 = (frD (fstV k x y t)).shown := by
    rcases ex with ⟨pf, _, a, b, c⟩ | ⟨k, x, y, t, e, ok, _, a, b, c⟩
    · exact ⟨fun _ => ⟨a, b, c⟩, fun k x y t e ok => (no pf e ok).elim⟩
    · refine ⟨fun h => (no h e ok).elim, fun k' x' y' t' e' ok' => ?_⟩
      obtain ⟨rfl, rfl, rfl, rfl⟩ := pcD_inj (e.symm.trans e')
      exact ⟨a, b, c⟩
  refine told (A := lvA) (g := fun k x y t => .int (((x * y).natAbs * t : Nat) : Int)) (fun k x y t H r e => by rw [show r = _ from e]; exact .int _) (fun k x y t ok => rep_lvl ok) (fun σ E1 H1 Q1 hS h => ⟨_, hS, h⟩) (fun h => (ex1.1 h).1) (fun k x y t e ok => (ex1.2 k x y t e ok).1) _ H _ rfl (LamX.ExtN.refl _) hT fun H1 p1 x1 t1 e1 => ?_
  refine ⟨(by show (1 : Nat) ≤ sizeLine; decide), fun l hl => ?_⟩
  have n2 := Same.upd_new (o := .lst [V.ref p1]) hl
  have l2 : (upd H1 l (.lst [V.ref p1])) l = some (.lst [V.ref p1]) := upd_same
  have yg : ∀ b o, H b = some o → (∀ ps, o ≠ .tbl ps) → b ≠ l := fun b o e n => ne_of_none (x1 _ _ e n) hl
  generalize upd H1 l (.lst [V.ref p1]) = H2 at n2 l2
  have e12 := n2 _ _ e1
  have x2 : LamX.ExtN H H2 := x1.trans (.of n2)
  have t2 := t1.ext n2
  dsimp only [gName]
  refine ⟨_, rfl, .inl ⟨rfl, _, .inl (.inl l2)⟩, ?_⟩
  refine told (A := sgA) (g := fun k x y t => .int (anySign (x * y))) (fun k x y t H r e => by rw [show r = _ from e]; exact .int _) (fun k x y t ok => rep_sgn ok) (fun σ E1 H1 Q1 hS h => ⟨_, hS, h⟩) (fun h => (ex1.1 h).2.1) (fun k x y t e ok => (ex1.2 k x y t e ok).2.1) _ H2 _ rfl x2 t2 fun H3 p3 x3 t3 e3 => ?_
  have l3 := x3 _ _ l2 (by intro ps z; cases z)
  have e13 := x3 _ _ e12 (by intro ps z; cases z)
  refine ⟨l, _, _, rfl, rfl, l3, (by show (1 : Nat) < sizeLine; decide), ?_⟩
  have x4 : LamX.ExtN H (upd H3 l (.lst ([V.ref p1] ++ [V.ref p3]))) := fun b o h n => by
    rw [upd_ne (yg b o h n)]
    exact (x2.trans x3) b o h n
  have t4 := tabs_put (o := .lst ([V.ref p1] ++ [V.ref p3])) t3 l3
  have l4 : (upd H3 l (.lst ([V.ref p1] ++ [V.ref p3]))) l = some (.lst ([V.ref p1] ++ [V.ref p3])) := upd_same
  have e14 : (upd H3 l (.lst ([V.ref p1] ++ [V.ref p3]))) p1 = some (.tup [.str wd, .str s1, .bl true]) := by rw [upd_ne (ne_of e13 l3 (by intro z; cases z))]; exact e13
  have e34 : (upd H3 l (.lst ([V.ref p1] ++ [V.ref p3]))) p3 = some (.tup [.str wd, .str s2, .bl true]) := by rw [upd_ne (ne_of e3 l3 (by intro z; cases z))]; exact e3
  generalize upd H3 l (.lst ([V.ref p1] ++ [V.ref p3])) = H4 at x4 t4 l4 e14 e34
  refine ⟨_, rfl, .inl ⟨rfl, _, .inl (.inl l4)⟩, ?_⟩
  refine told (A := fsA) (g := fun k x y t => frD (fstV k x y t)) (fun k x y t H r e => dq_fr e) (fun k x y t ok => rep_fst ok) (fun σ E1 H1 Q1 hS h => ⟨_, hS, h⟩) (fun h => (ex1.1 h).2.2) (fun k x y t e ok => (ex1.2 k x y t e ok).2.2) _ H4 _ rfl x4 t4 fun H5 p5 x5 t5 e5 => ?_
  have l5 := x5 _ _ l4 (by intro ps z; cases z)
  have e15 := x5 _ _ e14 (by intro ps z; cases z)
  have e35 := x5 _ _ e34 (by intro ps z; cases z)
  refine ⟨l, _, _, rfl, rfl, l5, (by show (2 : Nat) < sizeLine; decide), ?_⟩
  have x6 : LamX.ExtN H (upd H5 l (.lst ([V.ref p1] ++ [V.ref p3] ++ [V.ref p5]))) := fun b o h n => by
    rw [upd_ne (yg b o h n)]
    exact (x4.trans x5) b o h n
  exact ⟨_, rfl, q _ l p1 p3 p5 x6 (tabs_put t5 l5) upd_same (by unfold TT; rw [upd_ne (ne_of e15 l5 (by intro z; cases z))]; exact e15) (by unfold TT; rw [upd_ne (ne_of e35 l5 (by intro z; cases z))]; exact e35) (by unfold TT; rw [upd_ne (ne_of e5 l5 (by intro z; cases z))]; exact e5)⟩
end
end Ft

namespace Ft
open PySem L2
/-- a != b, the same plain data -/
def rNeP (K : PySem.W.Frag) : R2 := fun x y H Q => ∃ d, Dp K H x d ∧ Dp K H y d ∧ d.plain = true ∧ d.depth ≤ 60 ∧ Q (.bl false) H
theorem op_neP {X : Cx} (hu : X.A.units + 64 < cLine) : OpR X (compareOp .NotEq) (rNeP X.K) := by
  intro pins s σ H x y v u Q I rx ry h
  obtain ⟨d, hd, he, pl, dp, q⟩ := h
  obtain ⟨as, r1⟩ := Dp.reads I d x v hd rx
  obtain ⟨bs, r2⟩ := Dp.reads I d y u he ry
  refine SeqAt.ne_plain r1 r2 pl pl (by have := Nat.min_le_left d.depth d.depth; omega) ?_
  rw [SeqAt.eqv_refl_plain d pl]
  exact ⟨.bl false, H, I, rfl, q⟩
end Ft

set_option exponentiation.threshold 9000
namespace Ft
open PySem L2
def sp_lawT (K : PySem.W.Frag) (T : List (Addr × Str)) : Sp := fun vs H Q _ => ∃ (a : Addr) (ns : List Int), vs = [.ref a] ∧ SqL K H a (ns.map V.int) ∧ ns.length ≤ 63 ∧ (∀ p ∈ T, H p.1 = some (.tbl #[])) ∧ ∀ H', Q (.bl true) H'
theorem at_state {t : TS} {D : Ends} {σ : L2.St} {H : Hp} (σ' : L2.St) (e : σ = σ') (h : t D σ' H) : t D σ H := by rw [e]; exact h
theorem dq_is {H : Hp} {N : Addr → Prop} : ∀ ts : List Int, DqAll H N (ts.map V.int) (ts.map PyData.int)
  | [] => .nil
  | _ :: l => .cons (.int _) (dq_is l)
theorem dq_bg {H : Hp} {r : V} {b : Int} {ts : List Int} (h : Bg H r b ts) : Dq H All r (bgD b ts) := by
  obtain ⟨p, q, rfl, h1, h2⟩ := h
  exact .tup trivial (.inl h1) (.cons (.int _) (.cons (.tup trivial (.inl h2) (dq_is ts)) .nil))
theorem rep_row {k t m : Nat} {x y : Int} (ok : PcOk k x y t) (m1 : 1 ≤ m) (m4 : m ≤ 400) : RepQ (bgD (fstV k x y t).2 (rowT k x y t m)) := by
  obtain ⟨_, _, ps⟩ := ok.le
  obtain ⟨_, f2, _⟩ := fst_le ok ps
  exact (rs_bg (up13 f2) (rowT_lt ok ps m4) (by rw [rowT_len m1]; exact m4)).q.rep (by decide) (by decide)
/-- a number of terms, or any value in its place -/
structure Mny (D : PyData) : Prop where
  rep : RepQ D
  int : ∀ z, D = .int z → 1 ≤ z → z ≤ 400 → z ≤ 12
def mnyB (D : PyData) : Bool := sqB D && (match D with | .int z => !decide (1 ≤ z) || (!decide (z ≤ 400) || decide (z ≤ 12)) | _ => true)
theorem mny_of {D : PyData} (h : mnyB D = true) : Mny D := by
  unfold mnyB at h
  obtain ⟨h1, h2⟩ := Bool.and_eq_true_iff.mp h
  refine ⟨(sq_of h1).rep (by decide) (by decide), fun z e a b => ?_⟩
  subst e
  dsimp only at h2
  rw [decide_eq_true a, decide_eq_true b, Bool.not_true, Bool.false_or, Bool.false_or] at h2
  exact of_decide_eq_true h2
/-- what is due of sum_terms -/
def ExpT (D M : PyData) (wd tx : Str) : Prop := (pieceD D = false ∧ wd = "BadSum" ∧ tx = D.shown) ∨ (pieceD D = true ∧ btwD 1 400 M = false ∧ wd = "BadCount" ∧ tx = M.shown) ∨ ∃ (k : Nat) (x y : Int) (t m : Nat), D = pcD k x y t ∧ PcOk k x y t ∧ M = .int (m : Int) ∧ 1 ≤ m ∧ m ≤ 400 ∧ wd = "told" ∧ tx = (bgD (fstV k x y t).2 (rowT k x y t m)).shown
theorem terms_told {C0 C1 : Addr} {T : List (Addr × Str)} {S : L2.St → Prop} {H0 : Hp} {v u : V} {D M : PyData} {wd tx : Str} {te : XK → TE} (hd : Dq H0 All v D) (hm : Dq H0 All u M) (th : Th D) (mn : Mny M) (ex : ExpT D M wd tx) (hte : ∀ σ E1 H1 Q1, S σ → sp_termsQ C0 C1 [v, u] H1 Q1 E1 → te E1 σ H1 Q1) : ToldS T (LamX.tLam T (TTref (kds C0 C1)) te) S H0 wd tx := by
  rcases ex with ⟨pf, rfl, rfl⟩ | ⟨pt, bf, rfl, rfl⟩ | ⟨k, x, y, t, m, rfl, ok, rfl, m1, m4, rfl, rfl⟩
  · exact toldS_err (k := ⟨C0, "thing", "BadSum"⟩) List.mem_cons_self hd th.rep fun σ E1 H1 Q1 hS x1 hz => hte σ E1 H1 Q1 hS ⟨v, u, D, M, All, All, rfl, hd.ext x1, th.sm, hm.ext x1, fun _ => hz, (fun z => by rw [pf] at z; cases z), fun k x y t m e ok _ _ _ _ _ _ _ => by rw [e, pieceD_of ok] at pf; cases pf⟩
  · exact toldS_err (k := ⟨C1, "thing", "BadCount"⟩) (List.mem_cons_of_mem _ List.mem_cons_self) hm mn.rep fun σ E1 H1 Q1 hS x1 hz => hte σ E1 H1 Q1 hS ⟨v, u, D, M, All, All, rfl, hd.ext x1, th.sm, hm.ext x1, (fun z => by rw [pt] at z; cases z), fun _ _ => hz, fun k x y t m _ _ e m1 m4 _ _ _ _ => by
      subst e
      rw [show btwD 1 400 (.int (m : Int)) = (decide ((1 : Int) ≤ (m : Int)) && decide ((m : Int) ≤ 400)) from rfl, decide_eq_true (by omega), decide_eq_true (by omega)] at bf
      cases bf⟩
  · refine toldS_val (rep_row ok m1 m4) fun σ E1 H1 Q1 hS x1 hq => hte σ E1 H1 Q1 hS ⟨v, u, _, _, All, All, rfl, hd.ext x1, th.sm, hm.ext x1, (fun z => by rw [pieceD_of ok] at z; cases z), fun _ bf => ?_, fun k' x' y' t' m' e ok' e2 _ _ H' r s hr => ?_⟩
    · rw [show btwD 1 400 (.int (m : Int)) = (decide ((1 : Int) ≤ (m : Int)) && decide ((m : Int) ≤ 400)) from rfl, decide_eq_true (by omega), decide_eq_true (by omega)] at bf
      cases bf
    · obtain ⟨rfl, rfl, rfl, rfl⟩ := pcD_inj e
      obtain rfl : m' = m := by
        have := PyData.int.inj e2
        omega
      exact hq r H' s (dq_bg hr)
theorem tt_dp {K : PySem.W.Frag} {H : Hp} {a : Addr} {wd tx : Str} (h : TT H a wd tx) : Dp K H (.ref a) (.tuple [.str wd, .str tx, .bool true]) := .tup (SqT.of h) (.cons (.str _) (.cons (.str _) (.cons (.bl _) .nil)))
/-- the list that is due -/
def First (H : Hp) (l : Addr) (wd s1 s2 s3 : Str) : Prop := ∃ a b c, H l = some (.lst [.ref a, .ref b, .ref c]) ∧ TT H a wd s1 ∧ TT H b wd s2 ∧ TT H c wd s3
theorem First.dp {K : PySem.W.Frag} {H : Hp} {l : Addr} {wd s1 s2 s3 : Str} (h : First H l wd s1 s2 s3) : Dp K H (.ref l) (.list [.tuple [.str wd, .str s1, .bool true], .tuple [.str wd, .str s2, .bool true], .tuple [.str wd, .str s3, .bool true]]) := by
  obtain ⟨a, b, c, h, h1, h2, h3⟩ := h
  exact .lst (SqL.of h) (.cons (tt_dp h1) (.cons (tt_dp h2) (.cons (tt_dp h3) .nil)))
theorem First.ext {H H' : Hp} {l : Addr} {wd s1 s2 s3 : Str} (h : First H l wd s1 s2 s3) (x : LamX.ExtN H H') : First H' l wd s1 s2 s3 := by
  obtain ⟨a, b, c, h, h1, h2, h3⟩ := h
  exact ⟨a, b, c, x _ _ h (by intro ps z; cases z), x _ _ h1 (by intro ps z; cases z), x _ _ h2 (by intro ps z; cases z), x _ _ h3 (by intro ps z; cases z)⟩
theorem TT.off {H : Hp} {a d l : Addr} {wd tx : Str} (h : TT H a wd tx) (D : DeckAt H d l) : Off d l a := ⟨D.offd h, D.offl h⟩
theorem TT.but {H H' : Hp} {a d l : Addr} {wd tx : Str} (h : TT H a wd tx) (D : DeckAt H d l) (b : But d l H H') : TT H' a wd tx := b _ _ h (h.off D).1 (h.off D).2
theorem TT.ext {H H' : Hp} {a : Addr} {wd tx : Str} (h : TT H a wd tx) (x : LamX.ExtN H H') : TT H' a wd tx := x _ _ h (by intro ps z; cases z)
theorem First.but {H H' : Hp} {l d l' : Addr} {wd s1 s2 s3 : Str} (h : First H l wd s1 s2 s3) (D : DeckAt H d l') (n : Off d l' l) (b : But d l' H H') : First H' l wd s1 s2 s3 := by
  obtain ⟨a, b', c, h, h1, h2, h3⟩ := h
  exact ⟨a, b', c, b _ _ h n.1 n.2, h1.but D b, h2.but D b, h3.but D b⟩
section
variable {P : Program} {w : World} {K : PySem.W.Frag} {mg : Str → Option Value} {base : Heap}
set_option maxHeartbeats 0 in
theorem fn_law {f : Addr} {fd : FuncData} {C0 C1 CT c Pt : Addr} {T : List (Addr × Str)} (F : Fun K "law" "law" s_law f fd) (hc : fd.code = .ref c) (B : Bi mg) (U : ErsU K C0 C1 CT) (L : LamE K mg base C0 C1 CT c Pt T "law")
    (c__law_deck : Cal P w K mg base 1 "_law_deck" (sp_deck K)) (c__law_draw : Cal P w K mg base 1 "_law_draw" sp_draw) (c__law_pick : Cal P w K mg base 2 "_law_pick" (sp_pick K)) (c__law_other : Cal P w K mg base 6 "_law_other" sp_other) (c__law_sum_piece : Cal P w K mg base 3 "_law_sum_piece" sp_sumPiece) (c__law_is_sum : Cal P w K mg base 3 "_law_is_sum" sp_pieceQ) (c_is_divisor_piece : Cal P w K mg base 4 "is_divisor_piece" sp_pieceQ) (k_is_divisor_piece : CalK P w K mg base 4 "is_divisor_piece" ["thing"] idV sp_pieceQ) (c__law_sign_of : Cal P w K mg base 1 "_law_sign_of" sp_sgnOf) (c__law_sum_first : Cal P w K mg base 6 "_law_sum_first" sp_sumFirst) (c__law_is_integer : Cal P w K mg base 1 "_law_is_integer" sp_isIntQ) (c__law_sum_terms : Cal P w K mg base 7 "_law_sum_terms" sp_lsumTerms)
    (x_sum_terms : CalL P w K mg base 8 "sum_terms" ["divisor_piece", "many"] ["many", "divisor_piece"] swapU swapV (sp_termsQ C0 C1)) (g_all : CalG P w K mg base 10 "_law_all_told" (sp_allTold T)) : FnG P w K mg base 11 f fd ["_law_script"] (sp_lawT K T) := by
  have sc := sc_law
  obtain ⟨fT, fdT, FT, hmT, kpT, bT, kT⟩ := x_sum_terms.ex
  refine fun_gC F sc (fun _ _ _ _ ⟨_, _, e, _⟩ => by rw [e]; rfl) (fun cdv ec A outer s H vs Q E hgd hr h => ?_)
  obtain rfl : cdv = .ref c := ec.symm.trans hc
  obtain ⟨a, ns, rfl, hS, hlen, hT, q⟩ := h
  have h64 : (A.deeper (PyProof.Rows.envOfC "law" (defScope s_law) s.heap.objs.size f (.ref c))).units + 64 < cLine := by have := hr.un; omega
  refine ⟨_, (pss_cons (ps_set (i := 1) sc.nd rfl (Or.inl rfl) (pe_c c__law_deck hr (by decide) (by rfl) (pa_cons (pv 0) pa_nil)))
      (pss_cons (ps_for PassesOwn.never rfl (pi_range1 rfl B.range (pa_cons pe_int pa_nil)) (pg_name (i := 2) sc.nd rfl (Or.inl rfl))
      (pss_cons (ps_set (i := 3) sc.nd rfl (Or.inr rfl) (pe_c c__law_other hr (by decide) (by rfl) (pa_cons (pv 1) (pa_cons (pe_c c__law_sum_piece hr (by decide) (by rfl) (pa_cons (pv 1) (pa_cons pe_int pa_nil))) pa_nil))))
        (pss_cons (ps_set (i := 4) sc.nd rfl (Or.inr rfl) (pe_op op_add pe_int (pe_c c__law_draw hr (by decide) (by rfl) (pa_cons (pv 1) (pa_cons pe_int pa_nil)))))
        (pss_cons (ps_if (pt_cmpR op_eq (pe_c c__law_draw hr (by decide) (by rfl) (pa_cons (pv 1) (pa_cons pe_int pa_nil))) pe_int (nomark _))
        (pss_one (ps_set (i := 4) sc.nd rfl (Or.inr rfl) (pe_c c__law_pick hr (by decide) (by rfl) (pa_cons (pv 1) (pa_cons (pe_lst (pa_cons pe_int (pa_cons (pe_un un_neg pe_int) (pa_cons pe_int (pa_cons pe_bl (pa_cons pe_non (pa_cons pe_str (pa_cons (pe_tup (pa_cons pe_int pa_nil)) (pa_cons (pe_lst (pa_cons pe_int pa_nil)) (pa_cons (pe_op op_pow pe_int pe_int) (pa_cons pe_bl (pa_cons (pe_dnewK) pa_nil)))))))))))) pa_nil)))))
        pss_nil)
        (pss_cons (ps_set (i := 5) sc.nd rfl (Or.inl rfl) (pe_c c__law_is_sum hr (by decide) (by rfl) (pa_cons (pv 3) pa_nil)))
        (pss_cons (ps_if (PW.pt (pw_or (pt_cmpR op_ne (pe_callB (call_reprQ hgd hr) (by rfl) B.repr (by decide +kernel) (pa_cons (pe_c c_is_divisor_piece hr (by decide) (by rfl) (pa_cons (pv 3) pa_nil)) pa_nil)) (pe_callB (call_reprQ hgd hr) (by rfl) B.repr (by decide +kernel) (pa_cons (pv 5) pa_nil)) (nomark _)) (pw_or1 (pt_cmpR op_ne (pe_callB (call_reprQ hgd hr) (by rfl) B.repr (by decide +kernel) (pa_cons (pe_k0 k_is_divisor_piece hr (by decide) (by rfl) (pk_cons (pv 3) pk_nil)) pa_nil)) (pe_callB (call_reprQ hgd hr) (by rfl) B.repr (by decide +kernel) (pa_cons (pv 5) pa_nil)) (nomark _)))))
        (pss_one (ps_ret pe_bl))
        pss_nil)
        (pss_cons (ps_par (i := 6) (j := 7) (by rfl) sc.nd rfl rfl (by decide) rfl rfl (pa_cons (pe_tup (pa_cons pe_str (pa_cons (pe_callB (call_reprQ hgd hr) (by rfl) B.repr (by decide +kernel) (pa_cons (pv 3) pa_nil)) (pa_cons pe_bl pa_nil)))) (pa_cons (pe_op op_rep (pe_lst (pa_cons (pe_tup (pa_cons pe_str (pa_cons (pe_callB (call_reprQ hgd hr) (by rfl) B.repr (by decide +kernel) (pa_cons (pv 3) pa_nil)) (pa_cons pe_bl pa_nil)))) pa_nil)) pe_int) pa_nil)) (by rfl))
        (pss_cons (ps_if (pt_val (pv 5))
        (pss_cons (ps_set (i := 8) sc.nd rfl (Or.inl rfl) (pe_op op_mulW (pe_ix (show IxR _ (rIx K) from ix_seq) (pv 3) pe_int (fun _ _ => rfl)) (pe_ix (show IxR _ (rIx K) from ix_seq) (pv 3) pe_int (fun _ _ => rfl))))
          (pss_cons (ps_set (i := 7) sc.nd rfl (Or.inl rfl) (pe_lst (pa_cons (pe_tup (pa_cons pe_str (pa_cons (pe_callB (call_reprQ hgd hr) (by rfl) B.repr (by decide +kernel) (pa_cons (pe_op op_mulW (pe_callB call_abs (by rfl) B.abs (by decide +kernel) (pa_cons (pv 8) pa_nil)) (pe_ix (show IxR _ (rIx K) from ix_seq) (pv 3) pe_int (fun _ _ => rfl))) pa_nil)) (pa_cons pe_bl pa_nil)))) (pa_cons (pe_tup (pa_cons pe_str (pa_cons (pe_callB (call_reprQ hgd hr) (by rfl) B.repr (by decide +kernel) (pa_cons (pe_c c__law_sign_of hr (by decide) (by rfl) (pa_cons (pv 8) pa_nil)) pa_nil)) (pa_cons pe_bl pa_nil)))) pa_nil))))
          (pss_cons (ps_expr (pe_bm PySem.F.plainAttrs_list PySem.F.slot_list_append PySem.F.type_list_append mt_append (pv 7) (pa_cons (pe_tup (pa_cons pe_str (pa_cons (pe_callB (call_reprQ hgd hr) (by rfl) B.repr (by decide +kernel) (pa_cons (pe_c c__law_sum_first hr (by decide) (by rfl) (pa_cons (pv 3) pa_nil)) pa_nil)) (pa_cons pe_bl pa_nil)))) pa_nil)))
          (pss_cons (ps_set (i := 6) sc.nd rfl (Or.inl rfl) (pe_tup (pa_cons pe_str (pa_cons (pe_callB (call_reprQ hgd hr) (by rfl) B.repr (by decide +kernel) (pa_cons (pv 4) pa_nil)) (pa_cons pe_bl pa_nil)))))
          (pss_one (ps_if (PW.pt (pw_and (pt_val (pe_c c__law_is_integer hr (by decide) (by rfl) (pa_cons (pv 4) pa_nil))) (pw_and1 (pt_chain op_le op_le pe_int (pv 4) pe_int))))
          (pss_one (ps_set (i := 6) sc.nd rfl (Or.inl rfl) (pe_tup (pa_cons pe_str (pa_cons (pe_callB (call_reprQ hgd hr) (by rfl) B.repr (by decide +kernel) (pa_cons (pe_c c__law_sum_terms hr (by decide) (by rfl) (pa_cons (pv 3) (pa_cons (pv 4) pa_nil))) pa_nil)) (pa_cons pe_bl pa_nil))))))
          pss_nil))))))
        pss_nil)
        (pss_cons (ps_set (i := 9) sc.nd rfl (Or.inl rfl) (pe_lamR (k := 8) (T := T) (t := fun E => tCall (sp_termsQ C0 C1) [] E (tCons (tVar 3) (tCons (tVar 4) tNil))) (by rfl) L.r L.e U B hgd L.t rfl L.m L.u hr (by decide) (LamX.lamS_by (sc := defScope s_law) (by decide +kernel)) rfl (fun _ _ _ _ _ => rfl) (fun A outer s H E f' c' hr2 => pe_call FT hr2 (by rfl) hmT kpT bT .nil passL (pa_cons (pv 3) (pa_cons (pv 4) pa_nil)))))
        (pss_cons (ps_if (pt_cmpR op_eq (pe_c c__law_draw hr (by decide) (by rfl) (pa_cons (pv 1) (pa_cons pe_int pa_nil))) pe_int (nomark _))
        (pss_one (ps_set (i := 9) sc.nd rfl (Or.inl rfl) (pe_lamR (k := 8) (T := T) (t := fun E => tCallK (sp_termsQ C0 C1) swapV E tNil (tCons (tVar 4) (tCons (tVar 3) tNil))) (by rfl) L.r L.e U B hgd L.t rfl L.m L.u hr (by decide) (LamX.lamS_by (sc := defScope s_law) (by decide +kernel)) rfl (fun _ _ _ _ _ => rfl) (fun A outer s H E f' c' hr2 => pe_kx FT hr2 (by rfl) hmT kpT kT passL (pk_cons (pv 4) (pk_cons (pv 3) pk_nil))))))
        pss_nil)
        (pss_one (ps_if (PW.pt (pw_or (pt_cmpR (op_neP h64) (pv 9) (pv 6) (nomark _)) (pw_or1 (pt_cmpR (op_neP h64) (pe_g g_all hgd hr (by decide) (by rfl) (pa_cons (pv 3) pa_nil)) (pv 7) (nomark _)))))
        (pss_one (ps_ret pe_bl))
        pss_nil))))))))))))
      (pss_one (ps_ret pe_bl)))), ?_⟩
  refine ⟨_, rfl, a, ns, rfl, hS, hlen, ?_⟩
  intro H1 d l D1 s1 _ _
  have t1 : LamX.Tabs T H1 := fun p hp => LamX.TabS.nil (s1 _ _ (hT p hp))
  clear s1 hT hS
  dsimp only [gName]
  refine ⟨6, rfl, by decide, by decide, for_range (lo := 0) (n := Int.toNat 6) (fun i σ H' => DeckAt H' d l ∧ LamX.Tabs T H' ∧ ∃ o2 o3 o4 o5 o6 o7 o8 o9 : Option V, σ = [some (.ref a), some (.ref d), o2, o3, o4, o5, o6, o7, o8, o9]) ⟨D1, t1, none, none, none, none, none, none, none, none, rfl⟩ ?_ ?_⟩
  case refine_2 =>
    rintro σ H2 ⟨D2, t2, o2, o3, o4, o5, o6, o7, o8, o9, rfl⟩
    exact q _
  rintro i σ H2 hi ⟨D2, t2, o2, o3, o4, o5, o6, o7, o8, o9, rfl⟩
  clear D1 t1
  dsimp only [gName]
  have s40 : ∀ n : Nat, n ≤ 100 → n ≤ sizeLine := fun n h => Nat.le_trans h (by decide)
  refine ⟨_, rfl, _, rfl, d, l, 60, rfl, D2, by decide, by decide, fun H3 pv k x y t D3 b3 hP ok _ _ lv => ?_⟩
  have t4 : t ≤ 400 := ok.t4
  refine ⟨d, l, pv, k, x, y, t, rfl, D3, hP, ok, t4, fun H4 tv TD D4 b4 dq th => ?_⟩
  have T4 := tabs_but (tabs_but t2 D2 b3) D3 b4
  clear hP lv t2 D2 b3 D3 b4 ok
  dsimp only [gName]
  refine ⟨_, rfl, d, l, 12, rfl, D4, by decide, by decide, fun H5 r D5 b5 r0 r1 => ⟨_, _, rfl, rfl, ?_⟩⟩
  dsimp only [gName]
  have T5 := tabs_but T4 D4 b5
  have dq5 := dq.but b5
  clear T4 D4 b5 dq
  refine tSeq_join (fun σ H' => ∃ mv MD, DeckAt H' d l ∧ LamX.Tabs T H' ∧ Dq H' (Off d l) tv TD ∧ Dq H' (Off d l) mv MD ∧ Mny MD ∧ σ = [some (.ref a), some (.ref d), some (.int (0 + (i : Int))), some tv, some mv, o5, o6, o7, o8, o9]) (fun Nx hN => ?_) ?_
  · refine ⟨_, rfl, d, l, 3, rfl, D5, by decide, by decide, fun H6 r6 D6 b6 _ _ => ⟨rfl, _, rfl, ifI (fun e => ?_) fun e => ?_⟩⟩
    · have nw6 : ∀ p, H6 p = none → Off d l p := fun p hp => D6.new hp
      refine pick_mk (Ds := [.int 0, .int (-1), .int 401, .bool true, .none, .str "3", .tuple [.int 3], .list [.int 3], .int ((10 : Int) ^ (29 : Int).toNat), .bool false, .dict []]) (mka_cons mk_int (mka_cons (mk_neg mk_int) (mka_cons mk_int (mka_cons mk_bl (mka_cons mk_non (mka_cons mk_st (mka_cons (mk_tup nw6 (mka_cons mk_int mka_nil) (s40 _ (Nat.le_of_ble_eq_true rfl))) (mka_cons (mk_lst nw6 (mka_cons mk_int mka_nil) (s40 _ (Nat.le_of_ble_eq_true rfl))) (mka_cons (mk_pow mk_int mk_int) (mka_cons mk_bl (mka_cons (mk_d0 nw6) mka_nil))))))))))) (s40 _ (Nat.le_of_ble_eq_true rfl)) (Nat.le_of_ble_eq_true rfl) (Nat.le_of_ble_eq_true rfl) rfl D6 fun H7 v7 E7 D7 b7 dq7 h7 => ?_
      exact hN _ _ ⟨v7, E7, D7, tabs_but (tabs_but T5 D5 b6) D6 b7, (dq5.but b6).but b7, dq7, mny_of (List.all_eq_true.mp (show List.all _ mnyB = true by decide +kernel) E7 h7), rfl⟩
    · exact hN _ _ ⟨_, .int (1 + r), D6, tabs_but T5 D5 b6, dq5.but b6, .int _, ⟨rep_int (Nat.lt_of_le_of_lt (by omega : (1 + r).natAbs ≤ 12) (by decide)), fun z e _ _ => by cases e; omega⟩, rfl⟩
  rintro σ H6 ⟨mv, MD, D6, T6, dq6, dm6, mn, rfl⟩
  clear D5 T5 dq5 r0 r1
  refine ⟨_, rfl, tv, TD, Off d l, rfl, dq6, th.sm, fun H7 s7 => ?_⟩
  have D7 := D6.same s7
  have T7 := T6.ext s7
  have dq7 := dq6.same s7
  have dm7 := dm6.same s7
  clear D6 T6 dq6 dm6 s7
  dsimp only [gName]
  have R0 : RepQ (.bool (pieceD TD)) := by cases pieceD TD <;> exact (sq_of (by decide +kernel)).rep (by decide) (by decide)
  have sw : ∀ {a : Str}, decide (V.str a = V.str a) = true := decide_eq_true rfl
  refine ⟨_, rfl, tv, TD, Off d l, rfl, dq7, th.sm, fun H8 s8 => ?_⟩
  refine ⟨_, .bool (pieceD TD), All, rfl, .bl _, R0, _, rfl, _, .bool (pieceD TD), All, rfl, .bl _, R0, rfl, _, rfl, ?_⟩
  rw [sw]
  refine iteF ?_
  refine ⟨_, rfl, tv, TD, Off d l, rfl, dq7.same s8, th.sm, fun H9 s9 => ?_⟩
  refine ⟨_, .bool (pieceD TD), All, rfl, .bl _, R0, _, rfl, _, .bool (pieceD TD), All, rfl, .bl _, R0, rfl, _, rfl, ?_⟩
  rw [sw]
  refine iteF ?_
  dsimp only [tNext]
  have D9 := (D7.same s8).same s9
  have T9 := (T7.ext s8).ext s9
  have dq9 := (dq7.same s8).same s9
  have dm9 := (dm7.same s8).same s9
  clear D7 T7 dq7 dm7 s8 s9
  refine ⟨_, rfl, tv, TD, Off d l, rfl, dq9, th.rep, (by show (3 : Nat) ≤ sizeLine; decide), fun pd hpd => ?_⟩
  have s10 : Same H9 (upd H9 pd (.tup [.str "BadSum", .str TD.shown, .bl true])) := Same.upd_new hpd
  have g10 : TT (upd H9 pd (.tup [.str "BadSum", .str TD.shown, .bl true])) pd "BadSum" TD.shown := upd_same
  generalize upd H9 pd (.tup [.str "BadSum", .str TD.shown, .bl true]) = H10 at s10 g10
  refine ⟨_, rfl, tv, TD, Off d l, rfl, dq9.same s10, th.rep, (by show (3 : Nat) ≤ sizeLine; decide), fun pt hpt => ?_⟩
  have s11 : Same H10 (upd H10 pt (.tup [.str "BadSum", .str TD.shown, .bl true])) := Same.upd_new hpt
  have g11 : TT (upd H10 pt (.tup [.str "BadSum", .str TD.shown, .bl true])) pt "BadSum" TD.shown := upd_same
  generalize upd H10 pt (.tup [.str "BadSum", .str TD.shown, .bl true]) = H11 at s11 g11
  refine ⟨(by show (1 : Nat) ≤ sizeLine; decide), fun pl1 hpl1 => ⟨pl1, 3, [V.ref pt], rfl, rfl, upd_same, by decide, by decide, (by show (3 : Nat) ≤ sizeLine; decide), fun pl hpl => ?_⟩⟩
  have s12 : Same H11 (upd H11 pl1 (.lst [V.ref pt])) := Same.upd_new hpl1
  have e3 : (List.replicate (3 : Int).toNat [V.ref pt]).flatten = [V.ref pt, V.ref pt, V.ref pt] := rfl
  rw [e3]
  have s13 := Same.upd_new (o := .lst [V.ref pt, V.ref pt, V.ref pt]) hpl
  have g13 : (upd (upd H11 pl1 (.lst [V.ref pt])) pl (.lst [V.ref pt, V.ref pt, V.ref pt])) pl = some (.lst [V.ref pt, V.ref pt, V.ref pt]) := upd_same
  have sAll := s10.trans (s11.trans (s12.trans s13))
  have D13 := D9.same sAll
  have T13 := T9.ext sAll
  have dq13 := dq9.same sAll
  have dm13 := dm9.same sAll
  have n13 : Off d l pl := (D9.same (s10.trans (s11.trans s12))).new hpl
  have gd13 : TT _ pd "BadSum" TD.shown := (s11.trans (s12.trans s13)) _ _ g10
  have gt13 : TT _ pt "BadSum" TD.shown := (s12.trans s13) _ _ g11
  have F13 : First _ pl "BadSum" TD.shown TD.shown TD.shown := ⟨pt, pt, pt, g13, gt13, gt13, gt13⟩
  generalize upd (upd H11 pl1 (.lst [V.ref pt])) pl (.lst [V.ref pt, V.ref pt, V.ref pt]) = H13 at s13 g13 sAll D13 T13 dq13 dm13 gd13 gt13 F13
  refine ⟨_, _, rfl, ?_⟩
  clear s10 g10 hpt s11 g11 hpl1 hpl s12 s13 g13 sAll D9 T9 dq9 dm9 gt13 hpd e3
  dsimp only [gName]
  refine at_state [some (.ref a), some (.ref d), some (.int (0 + (i : Int))), some tv, some mv, some (.bl (pieceD TD)), some (.ref pd), some (.ref pl), o8, o9] rfl ?_
  refine tSeq_join (fun σ H' => ∃ pd' pl' wd tx fw z1 z2 z3 o8', DeckAt H' d l ∧ LamX.Tabs T H' ∧ Dq H' (Off d l) tv TD ∧ Dq H' (Off d l) mv MD ∧ TT H' pd' wd tx ∧ ExpT TD MD wd tx ∧ First H' pl' fw z1 z2 z3 ∧ Exp3 TD fw z1 z2 z3 ∧ Off d l pl' ∧ σ = [some (.ref a), some (.ref d), some (.int (0 + (i : Int))), some tv, some mv, some (.bl (pieceD TD)), some (.ref pd'), some (.ref pl'), o8', o9]) (fun Nx hN => ?_) ?_
  · refine ⟨_, rfl, _, rfl, ?_⟩
    cases hpc : pieceD TD with
    | false => exact iteF (hN _ _ ⟨pd, pl, _, _, _, _, _, _, o8, D13, T13, dq13, dm13, gd13, .inl ⟨hpc, rfl, rfl⟩, F13, .inl ⟨hpc, rfl, rfl, rfl, rfl⟩, n13, by rw [hpc]⟩)
    | true =>
    refine iteT ?_
    obtain ⟨k, t, x, y, rfl, ok⟩ := pieceD_ok hpc
    obtain ⟨x4, y4, ps⟩ := ok.le
    obtain ⟨p, rfl, hp⟩ := dq_piece dq13
    have np : Off d l p := ⟨D13.offd hp, D13.offl hp⟩
    obtain ⟨xy4, xy0⟩ := xy_le ok
    have mxy : CMulW x y := mul8 (Nat.lt_of_le_of_lt x4 (by decide)) (Nat.lt_of_le_of_lt y4 (by decide))
    refine ⟨_, rfl, .inr (.inl ⟨p, _, 2, _, rfl, rfl, SqT.of hp, atI_nat (j := 2) rfl, ?_⟩)⟩
    refine ⟨_, rfl, .inr (.inl ⟨p, _, 3, _, rfl, rfl, SqT.of hp, atI_nat (j := 3) rfl, ?_⟩)⟩
    refine ⟨_, _, rfl, rfl, mxy, ?_⟩
    dsimp only [gName]
    refine ⟨_, rfl, _, rfl, ?_⟩
    rw [abs_ifN]
    refine ⟨_, rfl, .inr (.inl ⟨p, _, 4, _, rfl, rfl, SqT.of hp, atI_nat (j := 4) rfl, _, _, rfl, rfl, mul8 (by rw [Int.natAbs_natCast]; exact Nat.lt_of_le_of_lt xy4 (by decide)) (by rw [Int.natAbs_natCast]; exact Nat.lt_of_le_of_lt ok.t4 (by decide)), ?_⟩)⟩
    have em : ((x * y).natAbs : Int) * (t : Int) = (((x * y).natAbs * t : Nat) : Int) := by rw [Int.natCast_mul]
    refine ⟨_, .int (((x * y).natAbs : Int) * (t : Int)), All, rfl, .int _, by rw [em]; exact rep_lvl ok, (by show (3 : Nat) ≤ sizeLine; decide), fun a1 ha1 => ?_⟩
    have s14 : Same H13 (upd H13 a1 (.tup [.str "told", .str (PyData.int (((x * y).natAbs : Int) * (t : Int))).shown, .bl true])) := Same.upd_new ha1
    have g14 : TT (upd H13 a1 (.tup [.str "told", .str (PyData.int (((x * y).natAbs : Int) * (t : Int))).shown, .bl true])) a1 "told" (PyData.int (((x * y).natAbs : Int) * (t : Int))).shown := upd_same
    generalize upd H13 a1 (.tup [.str "told", .str (PyData.int (((x * y).natAbs : Int) * (t : Int))).shown, .bl true]) = H14 at s14 g14
    rw [em] at g14
    refine ⟨_, rfl, x * y, rfl, xy0, Nat.lt_of_le_of_lt xy4 (by decide), ?_⟩
    rw [lawSgn_eq xy0 xy4]
    refine ⟨_, .int (anySign (x * y)), All, rfl, .int _, rep_sgn ok, (by show (3 : Nat) ≤ sizeLine; decide), fun a2 ha2 => ?_⟩
    have s15 : Same H14 (upd H14 a2 (.tup [.str "told", .str (PyData.int (anySign (x * y))).shown, .bl true])) := Same.upd_new ha2
    have g15 : TT (upd H14 a2 (.tup [.str "told", .str (PyData.int (anySign (x * y))).shown, .bl true])) a2 "told" (PyData.int (anySign (x * y))).shown := upd_same
    generalize upd H14 a2 (.tup [.str "told", .str (PyData.int (anySign (x * y))).shown, .bl true]) = H15 at s15 g15
    refine ⟨(by show (2 : Nat) ≤ sizeLine; decide), fun pf hpf => ?_⟩
    have s16 : Same H15 (upd H15 pf (.lst [.ref a1, .ref a2])) := Same.upd_new hpf
    have g16 : (upd H15 pf (.lst [.ref a1, .ref a2])) pf = some (.lst [.ref a1, .ref a2]) := upd_same
    have sA := s14.trans (s15.trans s16)
    have npf : Off d l pf := (D13.same (s14.trans s15)).new hpf
    have fpf : H13 pf = none := (s14.trans s15).free hpf
    have ga := (s15.trans s16) _ _ g14
    have gb := s16 _ _ g15
    generalize upd H15 pf (.lst [.ref a1, .ref a2]) = H16 at s16 g16 sA ga gb
    dsimp only [gName]
    refine ⟨_, rfl, .inl ⟨rfl, _, .inl (.inl g16)⟩, ?_⟩
    refine ⟨_, rfl, .ref p, k, x, y, t, rfl, ⟨p, rfl, sA _ _ hp⟩, ok, ps, fun H17 r s17 fr => ?_⟩
    refine ⟨r, frD (fstV k x y t), All, rfl, dq_fr fr, rep_fst ok, (by show (3 : Nat) ≤ sizeLine; decide), fun a3 ha3 => ?_⟩
    have s18 : Same H17 (upd H17 a3 (.tup [.str "told", .str (frD (fstV k x y t)).shown, .bl true])) := Same.upd_new ha3
    have gc : TT (upd H17 a3 (.tup [.str "told", .str (frD (fstV k x y t)).shown, .bl true])) a3 "told" (frD (fstV k x y t)).shown := upd_same
    generalize upd H17 a3 (.tup [.str "told", .str (frD (fstV k x y t)).shown, .bl true]) = H18 at s18 gc
    have g18 := s18 _ _ (s17 _ _ g16)
    have s1318 := sA.trans (s17.trans s18)
    have ga18 := s18 _ _ (s17 _ _ ga)
    have gb18 := s18 _ _ (s17 _ _ gb)
    refine ⟨pf, _, _, rfl, rfl, g18, (by show (2 : Nat) < sizeLine; decide), ?_⟩
    have sB : Same H13 (upd H18 pf (.lst ([V.ref a1, V.ref a2] ++ [V.ref a3]))) := fun b o e => by
      rw [upd_ne (ne_of_none e fpf)]
      exact s1318 _ _ e
    have F19 : First (upd H18 pf (.lst ([V.ref a1, V.ref a2] ++ [V.ref a3]))) pf "told" (PyData.int (((x * y).natAbs * t : Nat) : Int)).shown (PyData.int (anySign (x * y))).shown (frD (fstV k x y t)).shown := ⟨a1, a2, a3, upd_same, by unfold TT; rw [upd_ne (ne_of ga18 g18 (by intro z; cases z))]; exact ga18, by unfold TT; rw [upd_ne (ne_of gb18 g18 (by intro z; cases z))]; exact gb18, by unfold TT; rw [upd_ne (ne_of gc g18 (by intro z; cases z))]; exact gc⟩
    generalize upd H18 pf (.lst ([V.ref a1, V.ref a2] ++ [V.ref a3])) = H19 at sB F19
    have D19 := D13.same sB
    have T19 := T13.ext sB
    have dq19 := dq13.same sB
    have dm19 := dm13.same sB
    have hp19 := sB _ _ hp
    clear s14 g14 s15 g15 s16 g16 sA ga gb s17 fr s18 gc g18 s1318 ga18 gb18 sB D13 T13 dq13 dm13 F13 gd13 hp fpf ha1 ha2 ha3 hpf
    dsimp only [gName]
    refine ⟨_, rfl, mv, MD, Off d l, rfl, dm19, mn.rep, (by show (3 : Nat) ≤ sizeLine; decide), fun pe hpe => ?_⟩
    have s20 : Same H19 (upd H19 pe (.tup [.str "BadCount", .str MD.shown, .bl true])) := Same.upd_new hpe
    have g20 : TT (upd H19 pe (.tup [.str "BadCount", .str MD.shown, .bl true])) pe "BadCount" MD.shown := upd_same
    generalize upd H19 pe (.tup [.str "BadCount", .str MD.shown, .bl true]) = H20 at s20 g20
    have D20 := D19.same s20
    have T20 := T19.ext s20
    have dq20 := dq19.same s20
    have dm20 := dm19.same s20
    have hp20 := s20 _ _ hp19
    have F20 := F19.ext (.of s20)
    clear D19 T19 dq19 dm19 hp19 F19 s20 hpe
    dsimp only [gName]
    have ex3 : Exp3 (pcD k x y t) "told" (PyData.int (((x * y).natAbs * t : Nat) : Int)).shown (PyData.int (anySign (x * y))).shown (frD (fstV k x y t)).shown := .inr ⟨k, x, y, t, rfl, ok, rfl, rfl, rfl, rfl⟩
    have bad : btwD 1 400 MD = false → Nx [some (.ref a), some (.ref d), some (.int (0 + (i : Int))), some (.ref p), some mv, some (.bl true), some (.ref pe), some (.ref pf), some (.int (x * y)), o9] H20 := fun bf => hN _ _ ⟨pe, pf, _, _, _, _, _, _, _, D20, T20, dq20, dm20, g20, .inr (.inl ⟨hpc, bf, rfl, rfl⟩), F20, ex3, npf, by rw [hpc]⟩
    refine ⟨_, rfl, mv, MD, Off d l, rfl, dm20, _, rfl, ?_⟩
    cases hI : isIntD MD with
    | false =>
      refine iteF (iteF (bad ?_))
      cases MD <;> first | rfl | cases hI
    | true =>
    obtain ⟨z, rfl⟩ := isIntD_int hI
    cases dm20
    refine iteT ⟨_, rfl, _, _, rfl, rfl, _, rfl, ?_⟩
    have be : btwD 1 400 (.int z) = (decide (1 ≤ z) && decide (z ≤ 400)) := rfl
    by_cases z1 : 1 ≤ z
    case neg =>
      rw [decide_eq_false z1]
      exact iteF ⟨_, rfl, iteF (bad (by rw [be, decide_eq_false z1, Bool.false_and]))⟩
    rw [decide_eq_true z1]
    refine iteT ⟨_, _, rfl, rfl, _, rfl, ?_⟩
    by_cases z4 : z ≤ 400
    case neg =>
      rw [decide_eq_false z4]
      exact iteF (bad (by rw [be, decide_eq_false z4, Bool.and_false]))
    rw [decide_eq_true z4]
    refine iteT ?_
    obtain ⟨m, rfl⟩ : ∃ m : Nat, z = (m : Int) := ⟨z.toNat, by omega⟩
    have m12 : m ≤ 12 := by
      have := mn.int _ rfl z1 z4
      omega
    refine ⟨_, rfl, _, rfl, .ref p, k, x, y, t, m, rfl, ⟨p, rfl, hp20⟩, ok, x4, y4, by omega, m12, fun H21 r2 s21 bg => ?_⟩
    refine ⟨r2, bgD (fstV k x y t).2 (rowT k x y t m), All, rfl, dq_bg bg, rep_row ok (by omega) (by omega), (by show (3 : Nat) ≤ sizeLine; decide), fun pg hpg => ?_⟩
    have s22 := s21.trans (Same.upd_new (o := .tup [.str "told", .str (bgD (fstV k x y t).2 (rowT k x y t m)).shown, .bl true]) hpg)
    exact hN _ _ ⟨pg, pf, _, _, _, _, _, _, _, D20.same s22, T20.ext s22, dq20.same s22, .int _, upd_same, .inr (.inr ⟨k, x, y, t, m, rfl, ok, rfl, by omega, by omega, rfl, rfl⟩), F20.ext (.of s22), ex3, npf, by rw [hpc]; rfl⟩
  rintro σ H7 ⟨pd', pl', wd, tx, fw, z1, z2, z3, o8', D7, T7, dq7, dm7, gd7, ext, F7, ex3, npl, rfl⟩
  clear D13 T13 dq13 dm13 gd13 F13 n13
  have dqA : Dq H7 All tv TD := dq7.move (fun _ _ _ e _ => e) fun _ _ _ _ _ => trivial
  have dmA : Dq H7 All mv MD := dm7.move (fun _ _ _ e _ => e) fun _ _ _ _ _ => trivial
  refine terms_told (C0 := C0) (C1 := C1) (T := T) (S := fun σ => σ[3]? = some (some tv) ∧ σ[4]? = some (some mv)) dqA dmA th mn ext (fun σ E1 H1 Q1 hS h => ⟨_, hS.1, _, hS.2, h⟩) _ H7 _ ⟨rfl, rfl⟩ (LamX.ExtN.refl _) T7 fun H8 p9 x8 T8 g8 => ?_
  have D8 := D7.ext x8
  have dq8 := dq7.ext x8
  have dm8 := dm7.ext x8
  have gd8 := gd7.ext x8
  have F8 := F7.ext x8
  clear D7 T7 dq7 dm7 gd7 F7 x8 dqA dmA
  dsimp only [gName]
  refine tSeq_join (fun σ H' => ∃ p9', DeckAt H' d l ∧ LamX.Tabs T H' ∧ Dq H' (Off d l) tv TD ∧ TT H' p9' wd tx ∧ TT H' pd' wd tx ∧ First H' pl' fw z1 z2 z3 ∧ σ = [some (.ref a), some (.ref d), some (.int (0 + (i : Int))), some tv, some mv, some (.bl (pieceD TD)), some (.ref pd'), some (.ref pl'), o8', some (.ref p9')]) (fun Nx hN => ?_) ?_
  · refine ⟨_, rfl, d, l, 2, rfl, D8, by decide, by decide, fun H9 r9 D9 b9 _ _ => ⟨rfl, _, rfl, ifI (fun e => ?_) fun e => ?_⟩⟩
    · have T9 := tabs_but T8 D8 b9
      have dq9 := dq8.but b9
      have dm9 := dm8.but b9
      have gd9 := gd8.but D8 b9
      have F9 := F8.but D8 npl b9
      refine terms_told (C0 := C0) (C1 := C1) (T := T) (S := fun σ => σ[3]? = some (some tv) ∧ σ[4]? = some (some mv)) (H0 := H9) (dq9.move (fun _ _ _ e _ => e) fun _ _ _ _ _ => trivial) (dm9.move (fun _ _ _ e _ => e) fun _ _ _ _ _ => trivial) th mn ext (fun σ E1 H1 Q1 hS h => ⟨_, hS.2, _, hS.1, h⟩) _ H9 _ ⟨rfl, rfl⟩ (LamX.ExtN.refl _) T9 fun H10 p10 x10 T10 g10 => ?_
      exact hN _ _ ⟨p10, D9.ext x10, T10, dq9.ext x10, g10, gd9.ext x10, F9.ext x10, rfl⟩
    · exact hN _ _ ⟨p9, D9, tabs_but T8 D8 b9, dq8.but b9, TT.but g8 D8 b9, gd8.but D8 b9, F8.but D8 npl b9, rfl⟩
  rintro σ H9 ⟨p9', D9, T9, dq9, g9, gd9, F9, rfl⟩
  clear D8 T8 dq8 dm8 gd8 F8 g8
  refine ⟨_, rfl, _, rfl, _, tt_dp g9, tt_dp gd9, rfl, (by show (1 : Nat) ≤ 60; decide), _, rfl, iteF ?_⟩
  refine ⟨_, rfl, tv, TD, fw, z1, z2, z3, rfl, dq9.move (fun _ _ _ e _ => e) fun _ _ _ _ _ => trivial, th, T9, ex3, fun H10 l' b1 b2 b3 x10 T10 e10 h1 h2 h3 => ?_⟩
  refine ⟨_, rfl, _, First.dp ⟨b1, b2, b3, e10, h1, h2, h3⟩, (F9.ext x10).dp, rfl, (by show (2 : Nat) ≤ 60; decide), _, rfl, iteF ?_⟩
  exact ⟨D9.ext x10, T10, _, _, _, _, _, _, _, _, rfl⟩
end
end Ft

namespace Ft
open PySem L2
theorem kb_is_divisor_piece {K : PySem.W.Frag} {f : Addr} {fd : FuncData} (F : Fun K "is_divisor_piece" "is_divisor_piece" s_is_divisor_piece f fd) : KBinds K fd ["thing"] ["thing"] idU idV := by
  obtain ⟨oc, od, kV, doc, pm, an, cdv, ct, osl, rfl, lk, hcd⟩ := F.ex
  refine ⟨fun s us ws _ hl => ?_, id_rel⟩
  match us, ws, hl with
  | [], [a], _ => exact .of_eq rfl
theorem kb_sum_level {K : PySem.W.Frag} {f : Addr} {fd : FuncData} (F : Fun K "sum_level" "sum_level" s_sum_level f fd) : KBinds K fd ["divisor_piece"] ["divisor_piece"] idU idV := by
  obtain ⟨oc, od, kV, doc, pm, an, cdv, ct, osl, rfl, lk, hcd⟩ := F.ex
  refine ⟨fun s us ws _ hl => ?_, id_rel⟩
  match us, ws, hl with
  | [], [a], _ => exact .of_eq rfl
theorem kb_sum_sign {K : PySem.W.Frag} {f : Addr} {fd : FuncData} (F : Fun K "sum_sign" "sum_sign" s_sum_sign f fd) : KBinds K fd ["divisor_piece"] ["divisor_piece"] idU idV := by
  obtain ⟨oc, od, kV, doc, pm, an, cdv, ct, osl, rfl, lk, hcd⟩ := F.ex
  refine ⟨fun s us ws _ hl => ?_, id_rel⟩
  match us, ws, hl with
  | [], [a], _ => exact .of_eq rfl
theorem kb_sum_terms {K : PySem.W.Frag} {f : Addr} {fd : FuncData} (F : Fun K "sum_terms" "sum_terms" s_sum_terms f fd) : KBinds K fd ["divisor_piece", "many"] ["many", "divisor_piece"] swapU swapV := by
  obtain ⟨oc, od, kV, doc, pm, an, cdv, ct, osl, rfl, lk, hcd⟩ := F.ex
  refine ⟨fun s us ws _ hl => ?_, swap_rel⟩
  match us, ws, hl with
  | [], [a, b], _ => exact .of_eq rfl
end Ft

set_option exponentiation.threshold 9000
namespace Ft
open PySem L2
theorem df_mk {K : PySem.W.Frag} {h : Heap} {mg : Str → Option Value} {x : Str} {st : Stmt} {ps : List Str} {f : Addr} {oc kV doc pm cdv ct : Value} {od an : Option Addr} {osl : Array (Option Value)} (X : K.In h) (G : h.Ns mainGlobals mg)
    (a : PySem.W.nsIn K mainGlobals x = some (some (.ref f))) (l : K.lookup f = some ⟨oc, od, .func (PySem.W.fnOf x x (defArgs st) (defBody st) (defScope st) .none kV doc pm an cdv ct), osl⟩) (c : PySem.W.codeIn K cdv x = true) (k : PySem.W.keepIn K (.ref f) = true)
    (hb : ∀ (kV doc pm : Value) (an : Option Addr) (cdv ct : Value) (us : List Value), us.length = ps.length → bindArgs (PySem.W.fnOf x x (defArgs st) (defBody st) (defScope st) .none kV doc pm an cdv ct) ⟨us, []⟩ = pure (ps.zip us)) : Df K mg x st ps :=
  have F := fun_mk (st := st) l c k
  ⟨f, _, F, PySem.W.mg_of X G a, F.binds hb⟩
theorem b1 {x : Str} {st : Stmt} {p0 : Str} (h : ∀ (kV doc pm : Value) (an : Option Addr) (cdv ct u0 : Value), bindArgs (PySem.W.fnOf x x (defArgs st) (defBody st) (defScope st) .none kV doc pm an cdv ct) ⟨[u0], []⟩ = pure [(p0, u0)]) :
    ∀ (kV doc pm : Value) (an : Option Addr) (cdv ct : Value) (us : List Value), us.length = [p0].length → bindArgs (PySem.W.fnOf x x (defArgs st) (defBody st) (defScope st) .none kV doc pm an cdv ct) ⟨us, []⟩ = pure ([p0].zip us) :=
  fun kV doc pm an cdv ct us hl => match us, hl with | [u0], _ => h kV doc pm an cdv ct u0
theorem b2 {x : Str} {st : Stmt} {p0 p1 : Str} (h : ∀ (kV doc pm : Value) (an : Option Addr) (cdv ct u0 u1 : Value), bindArgs (PySem.W.fnOf x x (defArgs st) (defBody st) (defScope st) .none kV doc pm an cdv ct) ⟨[u0, u1], []⟩ = pure [(p0, u0), (p1, u1)]) :
    ∀ (kV doc pm : Value) (an : Option Addr) (cdv ct : Value) (us : List Value), us.length = [p0, p1].length → bindArgs (PySem.W.fnOf x x (defArgs st) (defBody st) (defScope st) .none kV doc pm an cdv ct) ⟨us, []⟩ = pure ([p0, p1].zip us) :=
  fun kV doc pm an cdv ct us hl => match us, hl with | [u0, u1], _ => h kV doc pm an cdv ct u0 u1
theorem b3 {x : Str} {st : Stmt} {p0 p1 p2 : Str} (h : ∀ (kV doc pm : Value) (an : Option Addr) (cdv ct u0 u1 u2 : Value), bindArgs (PySem.W.fnOf x x (defArgs st) (defBody st) (defScope st) .none kV doc pm an cdv ct) ⟨[u0, u1, u2], []⟩ = pure [(p0, u0), (p1, u1), (p2, u2)]) :
    ∀ (kV doc pm : Value) (an : Option Addr) (cdv ct : Value) (us : List Value), us.length = [p0, p1, p2].length → bindArgs (PySem.W.fnOf x x (defArgs st) (defBody st) (defScope st) .none kV doc pm an cdv ct) ⟨us, []⟩ = pure ([p0, p1, p2].zip us) :=
  fun kV doc pm an cdv ct us hl => match us, hl with | [u0, u1, u2], _ => h kV doc pm an cdv ct u0 u1 u2
theorem b4 {x : Str} {st : Stmt} {p0 p1 p2 p3 : Str} (h : ∀ (kV doc pm : Value) (an : Option Addr) (cdv ct u0 u1 u2 u3 : Value), bindArgs (PySem.W.fnOf x x (defArgs st) (defBody st) (defScope st) .none kV doc pm an cdv ct) ⟨[u0, u1, u2, u3], []⟩ = pure [(p0, u0), (p1, u1), (p2, u2), (p3, u3)]) :
    ∀ (kV doc pm : Value) (an : Option Addr) (cdv ct : Value) (us : List Value), us.length = [p0, p1, p2, p3].length → bindArgs (PySem.W.fnOf x x (defArgs st) (defBody st) (defScope st) .none kV doc pm an cdv ct) ⟨us, []⟩ = pure ([p0, p1, p2, p3].zip us) :=
  fun kV doc pm an cdv ct us hl => match us, hl with | [u0, u1, u2, u3], _ => h kV doc pm an cdv ct u0 u1 u2 u3
section
variable {P : Program} {w : World} {K : PySem.W.Frag} {mg : Str → Option Value} {base : Heap} {k : Nat} {x : Str} {st : Stmt} {ps ks : List Str} {sp : Sp} {gU : List Value → List Value → List Value} {gV : List V → List V → List V} {c : Addr}
theorem cal_of (D : Df K mg x st ps) (h : ∀ {f : Addr} {fd : FuncData}, Fun K x x st f fd → FnOk P w K mg base CX0 k f fd ps sp) : Cal P w K mg base k x sp := by
  obtain ⟨f, fd, F, m, b⟩ := D.ex
  exact ⟨f, fd, _, h F, m, F.kp, b⟩
theorem calG_of (D : Df K mg x st ps) (h : ∀ {f : Addr} {fd : FuncData}, Fun K x x st f fd → FnG P w K mg base k f fd ps sp) : CalG P w K mg base k x sp := by
  obtain ⟨f, fd, F, m, b⟩ := D.ex
  exact ⟨f, fd, _, h F, m, F.kp, b⟩
theorem calG_ofC (D : DfC K mg x st ps c) (h : ∀ {f : Addr} {fd : FuncData}, Fun K x x st f fd → fd.code = .ref c → FnG P w K mg base k f fd ps sp) : CalG P w K mg base k x sp := by
  obtain ⟨f, fd, F, m, b, hc⟩ := D.ex
  exact ⟨f, fd, _, h F hc, m, F.kp, b⟩
theorem calK_of (D : Df K mg x st ps) (h : ∀ {f : Addr} {fd : FuncData}, Fun K x x st f fd → FnOk P w K mg base CX0 k f fd ps sp) (kb : ∀ {f : Addr} {fd : FuncData}, Fun K x x st f fd → KBinds K fd ps ks gU gV) : CalK P w K mg base k x ks gV sp := by
  obtain ⟨f, fd, F, m, b⟩ := D.ex
  exact ⟨f, fd, _, _, h F, m, F.kp, kb F⟩
theorem calX_of (D : Df K mg x st ps) (h : ∀ {f : Addr} {fd : FuncData}, Fun K x x st f fd → FnOk P w K mg base (L2.CX P w) k f fd ps sp) : CalX P w K mg base k x sp := by
  obtain ⟨f, fd, F, m, b⟩ := D.ex
  exact ⟨f, fd, _, h F, m, F.kp, b⟩
theorem calL_of (D : Df K mg x st ps) (h : ∀ {f : Addr} {fd : FuncData}, Fun K x x st f fd → FnOk P w K mg base (L2.CX P w) k f fd ps sp) (kb : ∀ {f : Addr} {fd : FuncData}, Fun K x x st f fd → KBinds K fd ps ks gU gV) : CalL P w K mg base k x ps ks gU gV sp := by
  obtain ⟨f, fd, F, m, b⟩ := D.ex
  exact ⟨f, fd, h F, m, F.kp, b, kb F⟩
end
/-- the tables of the lambdas -/
abbrev tabT (P0 P1 : Addr) : List (Addr × Str) := [(P0, ("_law_all_told" : Str) ++ (".<locals>." : Str) ++ ("<lambda>" : Str)), (P1, ("law" : Str) ++ (".<locals>." : Str) ++ ("<lambda>" : Str))]
/-- the defs of the text, as the top has left them -/
structure Dfs (K : PySem.W.Frag) (mg : Str → Option Value) : Prop where
  is_integer : Df K mg "is_integer" s_is_integer ["thing"]
  is_from : Df K mg "is_from" s_is_from ["thing", "least"]
  is_between : Df K mg "is_between" s_is_between ["thing", "least", "most"]
  check_between : Df K mg "check_between" s_check_between ["thing", "least", "most"]
  check_count : Df K mg "check_count" s_check_count ["many"]
  lowest_terms : Df K mg "lowest_terms" s_lowest_terms ["top", "bottom"]
  number_sum : Df K mg "number_sum" s_number_sum ["one", "other"]
  number_product : Df K mg "number_product" s_number_product ["one", "other"]
  raised : Df K mg "raised" s_raised ["base", "exponent"]
  is_sign : Df K mg "is_sign" s_is_sign ["thing"]
  check_sign : Df K mg "check_sign" s_check_sign ["sign"]
  value_at : Df K mg "value_at" s_value_at ["sign", "n"]
  value_at_two : Df K mg "value_at_two" s_value_at_two ["sign"]
  value_at_odd : Df K mg "value_at_odd" s_value_at_odd ["top", "bottom"]
  any_sign_of : Df K mg "any_sign_of" s_any_sign_of ["m"]
  without_squares : Df K mg "without_squares" s_without_squares ["m"]
  joined_sign : Df K mg "joined_sign" s_joined_sign ["one", "other"]
  lowered : Df K mg "lowered" s_lowered ["bottom", "tops"]
  bernoulli : Df K mg "bernoulli" s_bernoulli ["k", "sign"]
  plain_numbers : Df K mg "plain_numbers" s_plain_numbers ["k"]
  power_sum : Df K mg "power_sum" s_power_sum ["sign", "e"]
  is_told : Df K mg "is_told" s_is_told ["thing", "word", "many"]
  is_divisor_piece : Df K mg "is_divisor_piece" s_is_divisor_piece ["thing"]
  is_plain : Df K mg "is_plain" s_is_plain ["divisor_piece"]
  check_divisor_piece : Df K mg "check_divisor_piece" s_check_divisor_piece ["divisor_piece"]
  sum_level : Df K mg "sum_level" s_sum_level ["divisor_piece"]
  sum_sign : Df K mg "sum_sign" s_sum_sign ["divisor_piece"]
  sum_first : Df K mg "sum_first" s_sum_first ["divisor_piece"]
  sum_terms : Df K mg "sum_terms" s_sum_terms ["divisor_piece", "many"]
  sum_row : Df K mg "sum_row" s_sum_row ["divisor_piece", "many"]
  divisor_sums : Df K mg "divisor_sums" s_divisor_sums ["k", "one", "other", "many"]
  ldeck : Df K mg "_law_deck" s__law_deck ["_law_script"]
  ldraw : Df K mg "_law_draw" s__law_draw ["_law_deck_here", "_law_below"]
  lpick : Df K mg "_law_pick" s__law_pick ["_law_deck_here", "_law_some"]
  lis_integer : Df K mg "_law_is_integer" s__law_is_integer ["_law_thing"]
  lare_integers : Df K mg "_law_are_integers" s__law_are_integers ["_law_thing", "_law_many"]
  lgcd : Df K mg "_law_gcd" s__law_gcd ["_law_one", "_law_other_here"]
  llowest : Df K mg "_law_lowest" s__law_lowest ["_law_top", "_law_bottom"]
  lplus : Df K mg "_law_plus" s__law_plus ["_law_one", "_law_other_here"]
  lby : Df K mg "_law_by" s__law_by ["_law_one", "_law_other_here"]
  lis_sign : Df K mg "_law_is_sign" s__law_is_sign ["_law_thing"]
  lprime_value : Df K mg "_law_prime_value" s__law_prime_value ["_law_sign", "_law_p"]
  lvalues : Df K mg "_law_values" s__law_values ["_law_sign", "_law_many"]
  lsign_of : Df K mg "_law_sign_of" s__law_sign_of ["_law_m"]
  lpower : Df K mg "_law_power" s__law_power ["_law_base", "_law_often"]
  lchoose : Df K mg "_law_choose" s__law_choose ["_law_n", "_law_k"]
  lsmall_bernoulli : Df K mg "_law_small_bernoulli" s__law_small_bernoulli ["_law_k"]
  lbernoulli : Df K mg "_law_bernoulli" s__law_bernoulli ["_law_k", "_law_sign"]
  lis_sum : Df K mg "_law_is_sum" s__law_is_sum ["_law_thing"]
  lsum_first : Df K mg "_law_sum_first" s__law_sum_first ["_law_piece"]
  ldivisor_sums : Df K mg "_law_divisor_sums" s__law_divisor_sums ["_law_k", "_law_one", "_law_other_here", "_law_many"]
  lsum_terms : Df K mg "_law_sum_terms" s__law_sum_terms ["_law_piece", "_law_many"]
  lsum_piece : Df K mg "_law_sum_piece" s__law_sum_piece ["_law_deck_here", "_law_most"]
  lbent : Df K mg "_law_bent" s__law_bent ["_law_deck_here", "_law_thing", "_law_depth"]
  lother : Df K mg "_law_other" s__law_other ["_law_deck_here", "_law_piece"]
  ltold : Df K mg "_law_told" s__law_told ["_law_call"]
  lall_told : Df K mg "_law_all_told" s__law_all_told ["_law_thing"]
  law : Df K mg "law" s_law ["_law_script"]
theorem law_all {P : Program} {w : World} {K : PySem.W.Frag} {mg : Str → Option Value} {base : Heap} {f : Addr} {fd : FuncData} {C0 C1 CT c0 c1 P0 P1 : Addr} (T0 : ErrT K mg "BadSum" "thing" "BadSum.__init__" i_BadSum C0) (T1 : ErrT K mg "BadCount" "thing" "BadCount.__init__" i_BadCount C1) (E : Ers K mg C0 C1 CT) (DC0 : DfC K mg "_law_all_told" s__law_all_told ["_law_thing"] c0) (TB0 : LamX.TabB base mg c0 P0) (DC1 : DfC K mg "law" s_law ["_law_script"] c1) (TB1 : LamX.TabB base mg c1 P1) (n0_1 : P0 ≠ P1) (D : Dfs K mg) (B : Bi mg) (U : ErsU K C0 C1 CT) (F : Fun K "law" "law" s_law f fd) (hc : fd.code = .ref c1) : FnG P w K mg base 11 f fd ["_law_script"] (sp_lawT K (tabT P0 P1)) := by
  have L0 : LamE K mg base C0 C1 CT c0 P0 (tabT P0 P1) "_law_all_told" := by
    refine ⟨E, D.ltold, TB0, List.mem_cons_self, fun p hp e => ?_⟩
    rcases List.mem_cons.mp hp with rfl | hp
    · exact rfl
    rw [List.mem_singleton.mp hp] at e ⊢
    exact absurd e.symm n0_1
  have L1 : LamE K mg base C0 C1 CT c1 P1 (tabT P0 P1) "law" := by
    refine ⟨E, D.ltold, TB1, List.mem_cons_of_mem _ List.mem_cons_self, fun p hp e => ?_⟩
    rcases List.mem_cons.mp hp with rfl | hp
    · exact absurd e n0_1
    rw [List.mem_singleton.mp hp] at e ⊢
  have c0__law_deck := ok_deck (P := P) (w := w) (base := base) D.ldeck B
  have c1__law_draw := ok_draw (P := P) (w := w) (base := base) D.ldraw B
  have c2__law_pick := ok_pick (P := P) (w := w) (base := base) D.lpick B c1__law_draw
  have c3__law_bent := ok_bent0 (P := P) (w := w) (base := base) D.lbent
  have c4__law_is_integer := ok_lisint (P := P) (w := w) (base := base) D.lis_integer B
  have c3__law_bent := ok_bentL (P := P) (w := w) (base := base) D.lbent B c1__law_draw c3__law_bent c4__law_is_integer c2__law_pick
  have c3__law_bent := ok_bentP (P := P) (w := w) (base := base) D.lbent B c1__law_draw c3__law_bent c4__law_is_integer c2__law_pick
  have c3__law_other := ok_other (P := P) (w := w) (base := base) D.lother B c1__law_draw c2__law_pick c3__law_bent
  have c8__law_sum_piece := ok_sumPiece (P := P) (w := w) (base := base) D.lsum_piece B c2__law_pick c1__law_draw
  have c9__law_are_integers := ok_lints (P := P) (w := w) (base := base) D.lare_integers B c4__law_is_integer
  have c10__law_is_sign := ok_lisS (P := P) (w := w) (base := base) D.lis_sign B c4__law_is_integer
  have c9__law_is_sum := ok_lisSum (P := P) (w := w) (base := base) D.lis_sum B c9__law_are_integers c10__law_is_sign
  have c12_is_told := ok_toldQ (P := P) (w := w) (base := base) D.is_told B
  have c13_is_integer := ok_isIntQ (P := P) (w := w) (base := base) D.is_integer B
  have c13_is_from := ok_fromQ (P := P) (w := w) (base := base) D.is_from c13_is_integer
  have c15_without_squares := ok_without_squares (P := P) (w := w) (base := base) D.without_squares B
  have c15_any_sign_of := ok_any_sign_of (P := P) (w := w) (base := base) D.any_sign_of c15_without_squares
  have c17_is_between := ok_betweenQ (P := P) (w := w) (base := base) D.is_between c13_is_integer
  have c15_is_sign := cal_of (P := P) (w := w) (base := base) D.is_sign (fun F => fn_isSignQ F c15_any_sign_of c17_is_between)
  have c19_is_plain := ok_isPlain (P := P) (w := w) (base := base) D.is_plain
  have c12_is_divisor_piece := cal_of (P := P) (w := w) (base := base) D.is_divisor_piece (fun F => fn_pieceQ F B c12_is_told c13_is_from c15_is_sign c17_is_between c19_is_plain)
  have k21_is_divisor_piece := calK_of (P := P) (w := w) (base := base) D.is_divisor_piece (fun F => fn_pieceQ F B c12_is_told c13_is_from c15_is_sign c17_is_between c19_is_plain) (fun F => kb_is_divisor_piece F)
  have c22__law_sign_of := ok_sgnOf (P := P) (w := w) (base := base) D.lsign_of B
  have c23__law_gcd := ok_gcd (P := P) (w := w) (base := base) D.lgcd B
  have c23__law_lowest := ok_lowest (P := P) (w := w) (base := base) D.llowest B c23__law_gcd
  have c25__law_by := ok_by (P := P) (w := w) (base := base) D.lby c23__law_lowest
  have c26__law_prime_value := ok_pval (P := P) (w := w) (base := base) D.lprime_value B
  have c26__law_values := ok_lvals (P := P) (w := w) (base := base) D.lvalues B c26__law_prime_value
  have c28__law_plus := ok_plus (P := P) (w := w) (base := base) D.lplus c23__law_lowest
  have c29__law_choose := ok_choose (P := P) (w := w) (base := base) D.lchoose B
  have c28__law_small_bernoulli := ok_lsmall (P := P) (w := w) (base := base) D.lsmall_bernoulli B c28__law_plus c29__law_choose c23__law_lowest
  have c31__law_power := ok_pow (P := P) (w := w) (base := base) D.lpower B
  have c26__law_bernoulli := ok_lbern (P := P) (w := w) (base := base) D.lbernoulli B c26__law_values c28__law_small_bernoulli c31__law_power c28__law_plus c29__law_choose
  have c23__law_sum_first := ok_lsumFirst (P := P) (w := w) (base := base) D.lsum_first B c23__law_lowest c25__law_by c26__law_bernoulli
  have c34__law_divisor_sums := ok_ldsums (P := P) (w := w) (base := base) D.ldivisor_sums B c26__law_values c31__law_power
  have c34__law_sum_terms := ok_lsumTerms (P := P) (w := w) (base := base) D.lsum_terms B c34__law_divisor_sums c23__law_sum_first
  have c36_is_told := ok_isTold (P := P) (w := w) (base := base) D.is_told B
  have c37_is_integer := ok_is_integer (P := P) (w := w) (base := base) D.is_integer B
  have c37_is_from := ok_is_from (P := P) (w := w) (base := base) D.is_from c37_is_integer
  have c39_is_between := ok_is_between (P := P) (w := w) (base := base) D.is_between c37_is_integer
  have c39_is_sign := ok_is_sign (P := P) (w := w) (base := base) D.is_sign c15_any_sign_of c39_is_between
  have c36_is_divisor_piece := cal_of (P := P) (w := w) (base := base) D.is_divisor_piece (fun F => fn_isPiece F B c36_is_told c37_is_from c39_is_sign c39_is_between c19_is_plain)
  have c36_check_divisor_piece := ok_checkPiece (P := P) (w := w) (base := base) D.check_divisor_piece c36_is_divisor_piece
  have c43_check_count := ok_check_count (P := P) (w := w) (base := base) D.check_count c39_is_between
  have c44_lowest_terms := ok_lowest_terms (P := P) (w := w) (base := base) D.lowest_terms B
  have c45_number_product := ok_number_product (P := P) (w := w) (base := base) D.number_product c44_lowest_terms
  have c46_check_between := ok_check_between (P := P) (w := w) (base := base) D.check_between c39_is_between
  have c47_check_sign := ok_check_sign (P := P) (w := w) (base := base) D.check_sign c39_is_sign
  have c48_number_sum := ok_number_sum (P := P) (w := w) (base := base) D.number_sum c44_lowest_terms
  have c48_plain_numbers := ok_plain_numbers (P := P) (w := w) (base := base) D.plain_numbers B c48_number_sum c45_number_product
  have c50_raised := ok_raised (P := P) (w := w) (base := base) D.raised
  have c51_value_at_two := ok_value_at_two (P := P) (w := w) (base := base) D.value_at_two
  have c52_value_at_odd := ok_value_at_odd (P := P) (w := w) (base := base) D.value_at_odd
  have c51_value_at := ok_value_at (P := P) (w := w) (base := base) D.value_at B c51_value_at_two c52_value_at_odd
  have c51_power_sum := ok_power_sum (P := P) (w := w) (base := base) D.power_sum B c51_value_at c50_raised
  have c46_bernoulli := cal_of (P := P) (w := w) (base := base) D.bernoulli (fun F => fn_bernoulli F B c46_check_between c47_check_sign c48_plain_numbers c50_raised c51_power_sum c48_number_sum c45_number_product)
  have c44_sum_first := cal_of (P := P) (w := w) (base := base) D.sum_first (fun F => fn_sumFirst F B c36_check_divisor_piece c19_is_plain c44_lowest_terms c45_number_product c46_bernoulli)
  have c57_divisor_sums := ok_dsums (P := P) (w := w) (base := base) D.divisor_sums B c51_value_at c50_raised
  have c44_sum_row := ok_sumRow (P := P) (w := w) (base := base) D.sum_row B c44_sum_first c57_divisor_sums c19_is_plain
  have c59_lowered := ok_lowered (P := P) (w := w) (base := base) D.lowered B
  have x60_check_divisor_piece := cx_checkPieceQ (P := P) (w := w) (base := base) D.check_divisor_piece (err_BadSum T0) c12_is_divisor_piece
  have x61_check_count := cx_checkCountQ (P := P) (w := w) (base := base) D.check_count (err_BadCount T1) c17_is_between
  have l36_sum_terms := calL_of (P := P) (w := w) (base := base) D.sum_terms (fun F => fx_terms F B c36_check_divisor_piece c43_check_count c44_sum_row c59_lowered x60_check_divisor_piece x61_check_count) (fun F => kb_sum_terms F)
  have l63_sum_level := calL_of (P := P) (w := w) (base := base) D.sum_level (fun F => fx_level F B c36_check_divisor_piece x60_check_divisor_piece) (fun F => kb_sum_level F)
  have c64_joined_sign := ok_joined_sign (P := P) (w := w) (base := base) D.joined_sign c47_check_sign c15_any_sign_of
  have l64_sum_sign := calL_of (P := P) (w := w) (base := base) D.sum_sign (fun F => fx_sign F c36_check_divisor_piece c64_joined_sign x60_check_divisor_piece) (fun F => kb_sum_sign F)
  have x66_sum_first := calX_of (P := P) (w := w) (base := base) D.sum_first (fun F => fx_first F B c36_check_divisor_piece c19_is_plain c44_lowest_terms c45_number_product c46_bernoulli x60_check_divisor_piece)
  have g63__law_all_told := calG_ofC (P := P) (w := w) (base := base) DC0 (fun F hc => fn_allTold F hc B U L0 l63_sum_level l64_sum_sign x66_sum_first)
  exact fn_law F hc B U L1 c0__law_deck c1__law_draw c2__law_pick c3__law_other c8__law_sum_piece c9__law_is_sum c12_is_divisor_piece k21_is_divisor_piece c22__law_sign_of c23__law_sum_first c4__law_is_integer c34__law_sum_terms l36_sum_terms g63__law_all_told
theorem law_at {q : Program} {loose : List Str} {XP : (Str → Option Value) → Heap → Prop} {s0 : Shared} {mb : Str → Option Value} {l : PySem.W.OpenLaw} {w : World} {K : PySem.W.Frag} {mg : Str → Option Value} {h : Heap} {fa f f0 f1 C0 C1 CT c0 c1 P0 P1 : Addr} {oc kV doc pm cdv ct oc0 kV0 doc0 pm0 ct0 cls0 oc1 kV1 doc1 pm1 ct1 cls1 : Value} {od an od0 an0 odc0 od1 an1 odc1 : Option Addr} {osl osl0 slc0 osl1 slc1 : Array (Option Value)} {vs0 vs1 : Array Value}
    (X : K.In h) (G : PySem.W.Ground q loose [] XP w s0 mg mb h) (hfa : mg "law" = some (.ref fa))
    (a : PySem.W.nsIn K mainGlobals "law" = some (some (.ref f))) (lk : K.lookup f = some ⟨oc, od, .func (PySem.W.fnOf "law" "law" (defArgs s_law) (defBody s_law) (defScope s_law) .none kV doc pm an cdv ct), osl⟩) (cl : PySem.W.codeIn K cdv "law" = true) (k : PySem.W.keepIn K (.ref f) = true)
    (a0 : PySem.W.nsIn K mainGlobals "_law_all_told" = some (some (.ref f0))) (l0 : K.lookup f0 = some ⟨oc0, od0, .func (PySem.W.fnOf "_law_all_told" "_law_all_told" (defArgs s__law_all_told) (defBody s__law_all_told) (defScope s__law_all_told) .none kV0 doc0 pm0 an0 (.ref c0) ct0), osl0⟩)
    (d0 : PySem.W.codeIn K (.ref c0) "_law_all_told" = true) (k0 : PySem.W.keepIn K (.ref f0) = true) (e0 : K.lookup c0 = some ⟨cls0, odc0, .fields vs0, slc0⟩) (v0 : vs0[11]? = some (.ref P0)) (o0 : K.lookup P0 = none) (h0 : PySem.W.CodeHd h c0 P0 ∧ h.get? P0 = some (PySem.W.tabObj #[]))
    (a1 : PySem.W.nsIn K mainGlobals "law" = some (some (.ref f1))) (l1 : K.lookup f1 = some ⟨oc1, od1, .func (PySem.W.fnOf "law" "law" (defArgs s_law) (defBody s_law) (defScope s_law) .none kV1 doc1 pm1 an1 (.ref c1) ct1), osl1⟩)
    (d1 : PySem.W.codeIn K (.ref c1) "law" = true) (k1 : PySem.W.keepIn K (.ref f1) = true) (e1 : K.lookup c1 = some ⟨cls1, odc1, .fields vs1, slc1⟩) (v1 : vs1[11]? = some (.ref P1)) (o1 : K.lookup P1 = none) (h1 : PySem.W.CodeHd h c1 P1 ∧ h.get? P1 = some (PySem.W.tabObj #[]))
    (n0_1 : P0 ≠ P1)
    (T0 : ErrT K mg "BadSum" "thing" "BadSum.__init__" i_BadSum C0) (ic0 : PySem.W.isClsIn K C0 = true) (s0_0 : PySem.W.subIn K (.ref C0) (.ref C0) = some true)
    (T1 : ErrT K mg "BadCount" "thing" "BadCount.__init__" i_BadCount C1) (ic1 : PySem.W.isClsIn K C1 = true) (s1_0 : PySem.W.subIn K (.ref C1) (.ref C0) = some false) (s1_1 : PySem.W.subIn K (.ref C1) (.ref C1) = some true)
    (gT : PySem.W.nsIn K mainGlobals "TermError" = some (some (.ref CT))) (D : Dfs K mg) (B : Bi mg) (U : ErsU K C0 C1 CT) : LawT l.prog w K 11 63 "_law_script" mg fa h := by
  have e := hfa.symm.trans (PySem.W.mg_of X G.T.g a)
  cases e
  have F0 := fun_mk (st := s__law_all_told) l0 d0 k0
  have DC0 : DfC K mg "_law_all_told" s__law_all_told ["_law_thing"] c0 := ⟨_, _, F0, PySem.W.mg_of X G.T.g a0, F0.binds (b1 fun _ _ _ _ _ _ _ => rfl), rfl⟩
  have ea := a.symm.trans a1
  cases ea
  have F1 := fun_mk (st := s_law) l1 d1 k1
  have DC1 : DfC K mg "law" s_law ["_law_script"] c1 := ⟨_, _, F1, PySem.W.mg_of X G.T.g a1, F1.binds (b1 fun _ _ _ _ _ _ _ => rfl), rfl⟩
  have E : Ers K mg C0 C1 CT := ⟨T0.c, T1.c, T0.g, T1.g, PySem.W.mg_of X G.T.g gT, exm_own T0.c.xf.exC ic0 T0.c.ty s0_0, exm_own T0.c.xf.exC ic0 T0.c.ty s1_0, exm_own T1.c.xf.exC ic1 T1.c.ty s1_1⟩
  refine ⟨_, [(c0, P0), (c1, P1)], sp_lawT K (tabT P0 P1), fun p hp => ?_, fun p hp => ?_, fun s u => .of_eq rfl, fun H a ns hl hH hS => ⟨a, ns, rfl, hS, hl, fun p hp => ?_, fun _ => rfl⟩,
    fun base _ _ tb => law_all T0 T1 E DC0 (tb (c0, P0) (List.mem_cons_self)) DC1 (tb (c1, P1) (List.mem_cons_of_mem _ (List.mem_cons_self))) n0_1 D B U F1 rfl⟩
  · rcases List.mem_cons.mp hp with rfl | hp
    · exact h0
    rw [List.mem_singleton.mp hp]
    exact h1
  · rcases List.mem_cons.mp hp with rfl | hp
    · exact o0
    rw [List.mem_singleton.mp hp]
    exact o1
  · rcases List.mem_cons.mp hp with rfl | hp
    · exact hH (c0, P0) (List.mem_cons_self)
    rw [List.mem_singleton.mp hp]
    exact hH (c1, P1) (List.mem_cons_of_mem _ (List.mem_cons_self))
end Ft

open PySem PySem.W PyProof.Rows in
set_option maxRecDepth 100000 in
set_option maxHeartbeats 0 in
theorem PySem.Challenge.cw_firstterms_k35_any_value_as_a_divisor_pi_holds : PySem.Challenge.rw_firstterms_k35_any_value_as_a_divisor_pi.Holds := by
  w_on; o_law; k_head; (case hw => w_witness2)
  k_fill
  refine Ft.walk_gT (l := PySem.Challenge.rw_firstterms_k35_any_value_as_a_divisor_pi) (n := 63) (k := 11) (x := "_law_script") rfl (by decide) rfl ⟨rfl, by decide, by decide⟩ (fun w h Y => PySem.W.km_in_of Y) ?F
  case F =>
    intro w s0 mg mb fa h Y KX GG hmg
    have G := GG.T.g
    refine' Ft.law_at KX GG hmg ?a ?lk ?cl ?k ?a0 ?l0 ?d0 ?k0 ?e0 ?v0 ?o0 ?h0 ?a1 ?l1 ?d1 ?k1 ?e1 ?v1 ?o1 ?h1 ?n0_1 ?T0 ?ic0 ?s0_0 ?T1 ?ic1 ?s1_0 ?s1_1 ?gT ?D ?B ?U
    (case a => k_is); (case lk => k_is); (case cl => k_is); (case k => k_is)
    (case a0 => k_is); (case l0 => k_is); (case d0 => k_is); (case k0 => k_is); (case e0 => k_is)
    (case v0 => rfl)
    (case o0 => first | k_is | rfl | kernel_rfl)
    case h0 =>
      refine' ⟨PySem.W.codeHd_of_K KX ?ch, PySem.W.km_tabs_of Y _ ?cm⟩
      (case ch => first | k_is | kx_is | kernel_rfl)
      (case cm => first | exact List.mem_cons_self | decide)
    (case a1 => k_is); (case l1 => k_is); (case d1 => k_is); (case k1 => k_is); (case e1 => k_is)
    (case v1 => rfl)
    (case o1 => first | k_is | rfl | kernel_rfl)
    case h1 =>
      refine' ⟨PySem.W.codeHd_of_K KX ?ch, PySem.W.km_tabs_of Y _ ?cm⟩
      (case ch => first | k_is | kx_is | kernel_rfl)
      (case cm => first | exact List.mem_cons_self | decide)
    (case n0_1 => first | decide | simp | (intro z; cases z))
    case T0 =>
      refine' Ft.err_mk KX G ?ea ?em ?eov ?esa ?ega ?egg ?eex ?ehd ?ety ?ekp ?eno ?ei ?etI ?el ?ec ?ek (fun _ _ _ _ _ _ us hl => match us, hl with | [_, _], _ => rfl)
      (case ea => k_is)
      (case em => kx_is)
      (case eov => kx_is)
      (case esa => k_is)
      (case ega => k_is)
      (case egg => k_is)
      (case eex => k_is)
      (case ehd => k_is)
      (case ety => k_is)
      (case ekp => k_is)
      (case eno => k_is)
      (case ei => k_is)
      (case etI => k_is)
      (case el => k_is)
      (case ec => k_is)
      (case ek => k_is)
    (case ic0 => k_is)
    (case s0_0 => first | rfl | k_is)
    case T1 =>
      refine' Ft.err_mk KX G ?ea ?em ?eov ?esa ?ega ?egg ?eex ?ehd ?ety ?ekp ?eno ?ei ?etI ?el ?ec ?ek (fun _ _ _ _ _ _ us hl => match us, hl with | [_, _], _ => rfl)
      (case ea => k_is)
      (case em => kx_is)
      (case eov => kx_is)
      (case esa => k_is)
      (case ega => k_is)
      (case egg => k_is)
      (case eex => k_is)
      (case ehd => k_is)
      (case ety => k_is)
      (case ekp => k_is)
      (case eno => k_is)
      (case ei => k_is)
      (case etI => k_is)
      (case el => k_is)
      (case ec => k_is)
      (case ek => k_is)
    (case ic1 => k_is)
    (case s1_0 => first | rfl | k_is)
    (case s1_1 => first | rfl | k_is)
    (case gT => k_is)
    case D =>
      refine ⟨?d0, ?d1, ?d2, ?d3, ?d4, ?d5, ?d6, ?d7, ?d8, ?d9, ?d10, ?d11, ?d12, ?d13, ?d14, ?d15, ?d16, ?d17, ?d18, ?d19, ?d20, ?d21, ?d22, ?d23, ?d24, ?d25, ?d26, ?d27, ?d28, ?d29, ?d30, ?d31, ?d32, ?d33, ?d34, ?d35, ?d36, ?d37, ?d38, ?d39, ?d40, ?d41, ?d42, ?d43, ?d44, ?d45, ?d46, ?d47, ?d48, ?d49, ?d50, ?d51, ?d52, ?d53, ?d54, ?d55, ?d56, ?d57⟩
      (case d0 => refine' Ft.df_mk KX G ?a0 ?l0 ?c0 ?k0 (Ft.b1 fun _ _ _ _ _ _ _ => rfl); (case a0 => k_is); (case l0 => k_is); (case c0 => k_is); (case k0 => k_is))
      (case d1 => refine' Ft.df_mk KX G ?a1 ?l1 ?c1 ?k1 (Ft.b2 fun _ _ _ _ _ _ _ _ => rfl); (case a1 => k_is); (case l1 => k_is); (case c1 => k_is); (case k1 => k_is))
      (case d2 => refine' Ft.df_mk KX G ?a2 ?l2 ?c2 ?k2 (Ft.b3 fun _ _ _ _ _ _ _ _ _ => rfl); (case a2 => k_is); (case l2 => k_is); (case c2 => k_is); (case k2 => k_is))
      (case d3 => refine' Ft.df_mk KX G ?a3 ?l3 ?c3 ?k3 (Ft.b3 fun _ _ _ _ _ _ _ _ _ => rfl); (case a3 => k_is); (case l3 => k_is); (case c3 => k_is); (case k3 => k_is))
      (case d4 => refine' Ft.df_mk KX G ?a4 ?l4 ?c4 ?k4 (Ft.b1 fun _ _ _ _ _ _ _ => rfl); (case a4 => k_is); (case l4 => k_is); (case c4 => k_is); (case k4 => k_is))
      (case d5 => refine' Ft.df_mk KX G ?a5 ?l5 ?c5 ?k5 (Ft.b2 fun _ _ _ _ _ _ _ _ => rfl); (case a5 => k_is); (case l5 => k_is); (case c5 => k_is); (case k5 => k_is))
      (case d6 => refine' Ft.df_mk KX G ?a6 ?l6 ?c6 ?k6 (Ft.b2 fun _ _ _ _ _ _ _ _ => rfl); (case a6 => k_is); (case l6 => k_is); (case c6 => k_is); (case k6 => k_is))
      (case d7 => refine' Ft.df_mk KX G ?a7 ?l7 ?c7 ?k7 (Ft.b2 fun _ _ _ _ _ _ _ _ => rfl); (case a7 => k_is); (case l7 => k_is); (case c7 => k_is); (case k7 => k_is))
      (case d8 => refine' Ft.df_mk KX G ?a8 ?l8 ?c8 ?k8 (Ft.b2 fun _ _ _ _ _ _ _ _ => rfl); (case a8 => k_is); (case l8 => k_is); (case c8 => k_is); (case k8 => k_is))
      (case d9 => refine' Ft.df_mk KX G ?a9 ?l9 ?c9 ?k9 (Ft.b1 fun _ _ _ _ _ _ _ => rfl); (case a9 => k_is); (case l9 => k_is); (case c9 => k_is); (case k9 => k_is))
      (case d10 => refine' Ft.df_mk KX G ?a10 ?l10 ?c10 ?k10 (Ft.b1 fun _ _ _ _ _ _ _ => rfl); (case a10 => k_is); (case l10 => k_is); (case c10 => k_is); (case k10 => k_is))
      (case d11 => refine' Ft.df_mk KX G ?a11 ?l11 ?c11 ?k11 (Ft.b2 fun _ _ _ _ _ _ _ _ => rfl); (case a11 => k_is); (case l11 => k_is); (case c11 => k_is); (case k11 => k_is))
      (case d12 => refine' Ft.df_mk KX G ?a12 ?l12 ?c12 ?k12 (Ft.b1 fun _ _ _ _ _ _ _ => rfl); (case a12 => k_is); (case l12 => k_is); (case c12 => k_is); (case k12 => k_is))
      (case d13 => refine' Ft.df_mk KX G ?a13 ?l13 ?c13 ?k13 (Ft.b2 fun _ _ _ _ _ _ _ _ => rfl); (case a13 => k_is); (case l13 => k_is); (case c13 => k_is); (case k13 => k_is))
      (case d14 => refine' Ft.df_mk KX G ?a14 ?l14 ?c14 ?k14 (Ft.b1 fun _ _ _ _ _ _ _ => rfl); (case a14 => k_is); (case l14 => k_is); (case c14 => k_is); (case k14 => k_is))
      (case d15 => refine' Ft.df_mk KX G ?a15 ?l15 ?c15 ?k15 (Ft.b1 fun _ _ _ _ _ _ _ => rfl); (case a15 => k_is); (case l15 => k_is); (case c15 => k_is); (case k15 => k_is))
      (case d16 => refine' Ft.df_mk KX G ?a16 ?l16 ?c16 ?k16 (Ft.b2 fun _ _ _ _ _ _ _ _ => rfl); (case a16 => k_is); (case l16 => k_is); (case c16 => k_is); (case k16 => k_is))
      (case d17 => refine' Ft.df_mk KX G ?a17 ?l17 ?c17 ?k17 (Ft.b2 fun _ _ _ _ _ _ _ _ => rfl); (case a17 => k_is); (case l17 => k_is); (case c17 => k_is); (case k17 => k_is))
      (case d18 => refine' Ft.df_mk KX G ?a18 ?l18 ?c18 ?k18 (Ft.b2 fun _ _ _ _ _ _ _ _ => rfl); (case a18 => k_is); (case l18 => k_is); (case c18 => k_is); (case k18 => k_is))
      (case d19 => refine' Ft.df_mk KX G ?a19 ?l19 ?c19 ?k19 (Ft.b1 fun _ _ _ _ _ _ _ => rfl); (case a19 => k_is); (case l19 => k_is); (case c19 => k_is); (case k19 => k_is))
      (case d20 => refine' Ft.df_mk KX G ?a20 ?l20 ?c20 ?k20 (Ft.b2 fun _ _ _ _ _ _ _ _ => rfl); (case a20 => k_is); (case l20 => k_is); (case c20 => k_is); (case k20 => k_is))
      (case d21 => refine' Ft.df_mk KX G ?a21 ?l21 ?c21 ?k21 (Ft.b3 fun _ _ _ _ _ _ _ _ _ => rfl); (case a21 => k_is); (case l21 => k_is); (case c21 => k_is); (case k21 => k_is))
      (case d22 => refine' Ft.df_mk KX G ?a22 ?l22 ?c22 ?k22 (Ft.b1 fun _ _ _ _ _ _ _ => rfl); (case a22 => k_is); (case l22 => k_is); (case c22 => k_is); (case k22 => k_is))
      (case d23 => refine' Ft.df_mk KX G ?a23 ?l23 ?c23 ?k23 (Ft.b1 fun _ _ _ _ _ _ _ => rfl); (case a23 => k_is); (case l23 => k_is); (case c23 => k_is); (case k23 => k_is))
      (case d24 => refine' Ft.df_mk KX G ?a24 ?l24 ?c24 ?k24 (Ft.b1 fun _ _ _ _ _ _ _ => rfl); (case a24 => k_is); (case l24 => k_is); (case c24 => k_is); (case k24 => k_is))
      (case d25 => refine' Ft.df_mk KX G ?a25 ?l25 ?c25 ?k25 (Ft.b1 fun _ _ _ _ _ _ _ => rfl); (case a25 => k_is); (case l25 => k_is); (case c25 => k_is); (case k25 => k_is))
      (case d26 => refine' Ft.df_mk KX G ?a26 ?l26 ?c26 ?k26 (Ft.b1 fun _ _ _ _ _ _ _ => rfl); (case a26 => k_is); (case l26 => k_is); (case c26 => k_is); (case k26 => k_is))
      (case d27 => refine' Ft.df_mk KX G ?a27 ?l27 ?c27 ?k27 (Ft.b1 fun _ _ _ _ _ _ _ => rfl); (case a27 => k_is); (case l27 => k_is); (case c27 => k_is); (case k27 => k_is))
      (case d28 => refine' Ft.df_mk KX G ?a28 ?l28 ?c28 ?k28 (Ft.b2 fun _ _ _ _ _ _ _ _ => rfl); (case a28 => k_is); (case l28 => k_is); (case c28 => k_is); (case k28 => k_is))
      (case d29 => refine' Ft.df_mk KX G ?a29 ?l29 ?c29 ?k29 (Ft.b2 fun _ _ _ _ _ _ _ _ => rfl); (case a29 => k_is); (case l29 => k_is); (case c29 => k_is); (case k29 => k_is))
      (case d30 => refine' Ft.df_mk KX G ?a30 ?l30 ?c30 ?k30 (Ft.b4 fun _ _ _ _ _ _ _ _ _ _ => rfl); (case a30 => k_is); (case l30 => k_is); (case c30 => k_is); (case k30 => k_is))
      (case d31 => refine' Ft.df_mk KX G ?a31 ?l31 ?c31 ?k31 (Ft.b1 fun _ _ _ _ _ _ _ => rfl); (case a31 => k_is); (case l31 => k_is); (case c31 => k_is); (case k31 => k_is))
      (case d32 => refine' Ft.df_mk KX G ?a32 ?l32 ?c32 ?k32 (Ft.b2 fun _ _ _ _ _ _ _ _ => rfl); (case a32 => k_is); (case l32 => k_is); (case c32 => k_is); (case k32 => k_is))
      (case d33 => refine' Ft.df_mk KX G ?a33 ?l33 ?c33 ?k33 (Ft.b2 fun _ _ _ _ _ _ _ _ => rfl); (case a33 => k_is); (case l33 => k_is); (case c33 => k_is); (case k33 => k_is))
      (case d34 => refine' Ft.df_mk KX G ?a34 ?l34 ?c34 ?k34 (Ft.b1 fun _ _ _ _ _ _ _ => rfl); (case a34 => k_is); (case l34 => k_is); (case c34 => k_is); (case k34 => k_is))
      (case d35 => refine' Ft.df_mk KX G ?a35 ?l35 ?c35 ?k35 (Ft.b2 fun _ _ _ _ _ _ _ _ => rfl); (case a35 => k_is); (case l35 => k_is); (case c35 => k_is); (case k35 => k_is))
      (case d36 => refine' Ft.df_mk KX G ?a36 ?l36 ?c36 ?k36 (Ft.b2 fun _ _ _ _ _ _ _ _ => rfl); (case a36 => k_is); (case l36 => k_is); (case c36 => k_is); (case k36 => k_is))
      (case d37 => refine' Ft.df_mk KX G ?a37 ?l37 ?c37 ?k37 (Ft.b2 fun _ _ _ _ _ _ _ _ => rfl); (case a37 => k_is); (case l37 => k_is); (case c37 => k_is); (case k37 => k_is))
      (case d38 => refine' Ft.df_mk KX G ?a38 ?l38 ?c38 ?k38 (Ft.b2 fun _ _ _ _ _ _ _ _ => rfl); (case a38 => k_is); (case l38 => k_is); (case c38 => k_is); (case k38 => k_is))
      (case d39 => refine' Ft.df_mk KX G ?a39 ?l39 ?c39 ?k39 (Ft.b2 fun _ _ _ _ _ _ _ _ => rfl); (case a39 => k_is); (case l39 => k_is); (case c39 => k_is); (case k39 => k_is))
      (case d40 => refine' Ft.df_mk KX G ?a40 ?l40 ?c40 ?k40 (Ft.b1 fun _ _ _ _ _ _ _ => rfl); (case a40 => k_is); (case l40 => k_is); (case c40 => k_is); (case k40 => k_is))
      (case d41 => refine' Ft.df_mk KX G ?a41 ?l41 ?c41 ?k41 (Ft.b2 fun _ _ _ _ _ _ _ _ => rfl); (case a41 => k_is); (case l41 => k_is); (case c41 => k_is); (case k41 => k_is))
      (case d42 => refine' Ft.df_mk KX G ?a42 ?l42 ?c42 ?k42 (Ft.b2 fun _ _ _ _ _ _ _ _ => rfl); (case a42 => k_is); (case l42 => k_is); (case c42 => k_is); (case k42 => k_is))
      (case d43 => refine' Ft.df_mk KX G ?a43 ?l43 ?c43 ?k43 (Ft.b1 fun _ _ _ _ _ _ _ => rfl); (case a43 => k_is); (case l43 => k_is); (case c43 => k_is); (case k43 => k_is))
      (case d44 => refine' Ft.df_mk KX G ?a44 ?l44 ?c44 ?k44 (Ft.b2 fun _ _ _ _ _ _ _ _ => rfl); (case a44 => k_is); (case l44 => k_is); (case c44 => k_is); (case k44 => k_is))
      (case d45 => refine' Ft.df_mk KX G ?a45 ?l45 ?c45 ?k45 (Ft.b2 fun _ _ _ _ _ _ _ _ => rfl); (case a45 => k_is); (case l45 => k_is); (case c45 => k_is); (case k45 => k_is))
      (case d46 => refine' Ft.df_mk KX G ?a46 ?l46 ?c46 ?k46 (Ft.b1 fun _ _ _ _ _ _ _ => rfl); (case a46 => k_is); (case l46 => k_is); (case c46 => k_is); (case k46 => k_is))
      (case d47 => refine' Ft.df_mk KX G ?a47 ?l47 ?c47 ?k47 (Ft.b2 fun _ _ _ _ _ _ _ _ => rfl); (case a47 => k_is); (case l47 => k_is); (case c47 => k_is); (case k47 => k_is))
      (case d48 => refine' Ft.df_mk KX G ?a48 ?l48 ?c48 ?k48 (Ft.b1 fun _ _ _ _ _ _ _ => rfl); (case a48 => k_is); (case l48 => k_is); (case c48 => k_is); (case k48 => k_is))
      (case d49 => refine' Ft.df_mk KX G ?a49 ?l49 ?c49 ?k49 (Ft.b1 fun _ _ _ _ _ _ _ => rfl); (case a49 => k_is); (case l49 => k_is); (case c49 => k_is); (case k49 => k_is))
      (case d50 => refine' Ft.df_mk KX G ?a50 ?l50 ?c50 ?k50 (Ft.b4 fun _ _ _ _ _ _ _ _ _ _ => rfl); (case a50 => k_is); (case l50 => k_is); (case c50 => k_is); (case k50 => k_is))
      (case d51 => refine' Ft.df_mk KX G ?a51 ?l51 ?c51 ?k51 (Ft.b2 fun _ _ _ _ _ _ _ _ => rfl); (case a51 => k_is); (case l51 => k_is); (case c51 => k_is); (case k51 => k_is))
      (case d52 => refine' Ft.df_mk KX G ?a52 ?l52 ?c52 ?k52 (Ft.b2 fun _ _ _ _ _ _ _ _ => rfl); (case a52 => k_is); (case l52 => k_is); (case c52 => k_is); (case k52 => k_is))
      (case d53 => refine' Ft.df_mk KX G ?a53 ?l53 ?c53 ?k53 (Ft.b3 fun _ _ _ _ _ _ _ _ _ => rfl); (case a53 => k_is); (case l53 => k_is); (case c53 => k_is); (case k53 => k_is))
      (case d54 => refine' Ft.df_mk KX G ?a54 ?l54 ?c54 ?k54 (Ft.b2 fun _ _ _ _ _ _ _ _ => rfl); (case a54 => k_is); (case l54 => k_is); (case c54 => k_is); (case k54 => k_is))
      (case d55 => refine' Ft.df_mk KX G ?a55 ?l55 ?c55 ?k55 (Ft.b1 fun _ _ _ _ _ _ _ => rfl); (case a55 => k_is); (case l55 => k_is); (case c55 => k_is); (case k55 => k_is))
      (case d56 => refine' Ft.df_mk KX G ?a56 ?l56 ?c56 ?k56 (Ft.b1 fun _ _ _ _ _ _ _ => rfl); (case a56 => k_is); (case l56 => k_is); (case c56 => k_is); (case k56 => k_is))
      (case d57 => refine' Ft.df_mk KX G ?a57 ?l57 ?c57 ?k57 (Ft.b1 fun _ _ _ _ _ _ _ => rfl); (case a57 => k_is); (case l57 => k_is); (case c57 => k_is); (case k57 => k_is))
    case B =>
      refine' ⟨PySem.W.mg_none_of KX G ?z0, PySem.W.mg_none_of KX G ?z1, PySem.W.mg_none_of KX G ?z2, PySem.W.mg_of KX G ?z3, PySem.W.mg_none_of KX G ?z4, PySem.W.mg_none_of KX G ?z5, PySem.W.mg_of KX G ?z6, PySem.W.mg_none_of KX G ?z7, PySem.W.mg_none_of KX G ?z8, PySem.W.mg_none_of KX G ?z9, PySem.W.mg_of KX G ?z10, PySem.W.mg_none_of KX G ?z11, PySem.W.mg_none_of KX G ?z12, PySem.W.mg_none_of KX G ?z13, PySem.W.mg_none_of KX G ?z14, PySem.W.mg_none_of KX G ?z15, PySem.W.mg_none_of KX G ?z16, PySem.W.mg_none_of KX G ?z17, PySem.W.mg_none_of KX G ?z18, PySem.W.mg_none_of KX G ?z19, PySem.W.mg_none_of KX G ?z20, PySem.W.mg_none_of KX G ?z21, PySem.W.mg_none_of KX G ?z22, PySem.W.mg_none_of KX G ?z23, PySem.W.mg_none_of KX G ?z24⟩
      (case z0 => k_is)
      (case z1 => k_is)
      (case z2 => k_is)
      (case z3 => k_is)
      (case z4 => k_is)
      (case z5 => k_is)
      (case z6 => k_is)
      (case z7 => k_is)
      (case z8 => k_is)
      (case z9 => k_is)
      (case z10 => k_is)
      (case z11 => k_is)
      (case z12 => k_is)
      (case z13 => k_is)
      (case z14 => k_is)
      (case z15 => k_is)
      (case z16 => k_is)
      (case z17 => k_is)
      (case z18 => k_is)
      (case z19 => k_is)
      (case z20 => k_is)
      (case z21 => k_is)
      (case z22 => k_is)
      (case z23 => k_is)
      (case z24 => k_is)
    case U =>
      refine' ⟨?uhn, ?uht, ?utc, ?utt, ?ua0, ?um0, ?up0, ?ua1, ?um1, ?up1⟩
      (case uhn => first | k_is | rfl)
      (case uht => first | k_is | rfl)
      (case utc => first | k_is | rfl)
      (case utt => first | k_is | rfl)
      (case ua0 => first | k_is | rfl)
      (case um0 => first | k_is | rfl)
      (case up0 => first | k_is | rfl)
      (case ua1 => first | k_is | rfl)
      (case um1 => first | k_is | rfl)
      (case up1 => first | k_is | rfl)

