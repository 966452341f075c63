import PyProof.Rows.All
import Wide.All
import OpenK.AllK
import Wide.FinOn
import HandS.ForExc
import HandS.ExcInit
import HandS.ExcSuper
import HandS.Nested
import HandS.FStr
import KE.KExcSuper
import HandS.ForMost
import HandS.IsInst
import HandS.TupLe
import HandS.Codes
import HandS.FStrTup
import HandS.List
import PyProof.ReprNest
import PyProof.ReprText
import HandS.ExcIs
import HandS.ExcField
import HandS.Words
import PyProof.StrOps2
import KE.KExcIs
import HandS.Strs
import HandS.Style
import HandS.Deep
import HandS.Set
import HandS.SetFor
import HandS.TupSets
import PyProof.Rows.SetFrom
import PyProof.WalksMore
import PySem.Challenge.RW_letforget_k10_refutations
import HandS.SetKeys
import HandS.Star
import HandS.RaiseMore
import HandS.Iter
set_option Elab.async false
set_option linter.all false
set_option maxRecDepth 100000
set_option maxHeartbeats 4000000
/-! An own error class over ValueError whose __init__ begins with super().__init__(..): its __init__ as a def, its making. -/
namespace Kx
open PySem PySem.Spec PyProof.Rows L2 NdefX
/-- what the written part says of such a class -/
structure SupC (K : PySem.W.Frag) (C : Addr) : Prop where
  oex : OexC K C
  sup : PySem.W.ks_superIn K C C "__init__" = some (some (.builtin "ValueError.__init__"))
  subV : PySem.W.subIn K (.ref C) (.type "ValueError") = some true
  mro : PySem.W.mroIn K C (.ref C) = some true
  opq : PySem.W.nsIn K cStatics "thirdparty.any" = some none
/-- what it says of the __init__: its code's file, the cell of __class__ -/
structure SupF (K : PySem.W.Frag) (P : Program) (C f : Addr) (fd : FuncData) (cda cc : Addr) (me : Str) : Prop where
  fn : ∃ oc od osl, K.lookup f = some ⟨oc, od, .func fd, osl⟩
  head : ∃ ar : Arg, (fd.params.posonlyargs ++ fd.params.args).head? = some ar ∧ ar.arg = me
  code : ∃ (ccl : Value) (cdd : Option Addr) (vs : Array Value) (ccs : Array (Option Value)) (file : Str) (tf : Tok), K.lookup cda = some ⟨ccl, cdd, .fields vs, ccs⟩ ∧ vs[2]? = some (.str file tf) ∧ ((P.main.file : Str) == file) = true
  cell : ∃ (cl : Value) (cld : Option Addr) (csl : Array (Option Value)), K.lookup cc = some ⟨cl, cld, .cell (some (.ref C)), csl⟩
  top : (P.main.scope.names.lookup ("super" : Str)).isSome = false
theorem boot_super : bootBuiltins "super" = some (.type "super") := by decide +kernel
section
variable {X : Cx} {pins : List (Addr × Obj)} {σ : L2.St} {H : Hp} {s : Shared} {a C f cda cc : Addr} {fd : FuncData} {me : Str} {i : Nat} {e : Expr} {es : List Expr} {ta : TA} {p0 p1 p2 p3 p4 : Pos} {body : List Stmt}
/-- ValueError.__init__ bound to such an object, called -/
theorem bw_ok {u : Addr} {us : List Value} {Q : Value → Shared → Prop} {A : Around} {E : Value → Shared → Prop} (T : OexC X.K C) (I : Inv X pins σ H s) (ea : H a = some (exo a C none)) (hu : s.heap.get? u = some (PySem.W.kxs_mw "ValueError.__init__" a)) (hl : us.length ≤ sizeLine) (h : ∀ s', Inv X pins σ H s' → Q .none s') :
    wpAny (model X.prog X.w) A (call (.ref u) us) Q E s := by
  obtain ⟨nm, q, N, bs, bm, sn, sub, ab, col, dd, k0, k1, k2, k3, k5, hC, hbm⟩ := T.cls
  obtain ⟨t1, ho⟩ := exo_at I.hok ea
  have hC' := I.kIn _ _ hC
  obtain ⟨hp, g, d, t, os⟩ := s
  have fin : ∀ h' t2, (∀ b o, b ≠ a → hp.get? b = some o → h'.get? b = some o) → h'.get? a = some (PySem.HandSPX.excO C t2) → Q .none ⟨h', g, d, t, os⟩ := fun h' t2 k hx => by
    have J := I.write (t' := t) (x := a) (e := a) (o := exo a C none) (by rw [ea]; exact True.intro) (.inl rfl) k ⟨_, hx⟩ (exo_ok hx)
    have eu : upd H a (exo a C none) = H := by
      funext b
      by_cases hb : b = a
      · rw [hb, upd_same, ea]
      · rw [upd_ne hb]
    rw [eu] at J
    exact h _ J
  refine wpAny_call (codeAny_of_tree ?_)
  show wpAny _ A.in1 (callAny (.ref u) ⟨us, []⟩) _ _ _
  simp only [callAny]
  refine wpAny_bind (wpAny_load hu ?_)
  simp only [PySem.W.kxs_mw, show (Value.type "method-wrapper" == Value.type "method" || Value.type "method-wrapper" == Value.type "builtin_function_or_method" || Value.type "method-wrapper" == Value.type "method-wrapper") = true by decide, if_true]
  refine PySem.W.KFB.if_so (by decide) ?_
  refine wpAny_bind (PySem.W.check_bound_init F.excBase_ValueError.toExcCallFacts hC' ho rfl ?_)
  refine wpAny_bind (wpAny_pure (wpAny_pure ?_))
  refine ⟨plainId_quiet F.excBase_ValueError.init.plain _, codeAny_builtin F.excBase_ValueError.initEntry ?_⟩
  rw [Around.under_plainId F.excBase_ValueError.init.plain _]
  refine PySem.W.exc_init_tree (cls := .ref C) (t0 := t1) (dv := none) (c2 := .none) (c3 := .none) (b4 := .bool false) ho hl fun h' k e' t' => ?_
  exact fin h' _ k e'
/-- super().__init__(e, ..) as a statement of such an __init__ -/
theorem at_super {pl : Sem Bool} {D : PySem.Flow → Shared → Prop} (T : SupC X.K C) (S : SupF X.K X.prog C f fd cda cc me) (hfu : X.env.func = some f) (hco : X.env.code = .ref cda) (hce : X.env.cells.lookup ("__class__" : Str) = some cc)
    (hks : X.env.kindOf "super" = some .globalImplicit) (hkc : X.env.kindOf "__class__" = some .free) (hka : X.env.kindOf me = some .local) (hm : X.mg "super" = none) (I : Inv X pins σ H s)
    (hN : X.N[i]? = some me) (hσ : σ[i]? = some (some (.ref a))) (ea : H a = some (exo a C none)) (ha : PA X (e :: es) ta)
    (h : ta σ H fun vs H1 => vs.length ≤ 1000 ∧ H1 a = some (exo a C none) ∧ ∀ s', Inv X pins σ H1 s' → D .next s')
    (hi : interactive X.env = false := by rfl) (hs : swapsWith (.Call (.Attribute (.Call (.Name "super" p0) [] [] p1) "__init__" p2) (e :: es) [] p3) none p4.line X.env = pure false := by rfl)
    (he : starEach (e :: es) X.env = (false, eval e X.env) :: starEach es X.env := by rfl) (hpl : (backTo p3 (starEach es X.env)).any (·.1) = false := by rfl)
    (hev : eval (.Call (.Attribute (.Call (.Name "super" p0) [] [] p1) "__init__" p2) (e :: es) [] p3) X.env = (do
      let ov ← attributeBase (.Call (.Name "super" p0) [] [] p1) "__init__" X.env (eval (.Call (.Name "super" p0) [] [] p1) X.env)
      standAt p2.atName
      let (f, first) ← holding [ov] (getMethod ov "__init__" pl)
      callWith p3 f first (backTo p3 (starEach (e :: es) X.env)) []) := by rfl) :
    _root_.PySem.wpAt (model X.prog X.w) X.A (.func body X.env) (exec (.Expr (.Call (.Attribute (.Call (.Name "super" p0) [] [] p1) "__init__" p2) (e :: es) [] p3) p4) X.env) D X.xe s := by
  obtain ⟨oc, od, osl, lkf⟩ := S.fn
  obtain ⟨ar, hhead, hme⟩ := S.head
  obtain ⟨ccl, cdd, vs, ccs, file, tf, lkc, hvs, hfile⟩ := S.code
  obtain ⟨cl, cld, csl, lkcell⟩ := S.cell
  obtain ⟨nm, q, N, bs, bm, sn, sub, ab, col, dd, k0, k1, k2, k3, k5, hC, hbm⟩ := T.oex.cls
  have hcl : PySem.W.clsIn X.K C = some { name := nm, bases := bs, mro := .ref C :: bm, ns := N, qualname := q, hasDict := true, slotNames := sn, subclasses := sub, abstract := ab, collection := col, hasDel := false } := by unfold PySem.W.clsIn; rw [hC] <;> rfl
  have KX := I.kIn
  have hkf : X.env.scope.kind = .function := I.ok.kind
  obtain ⟨t1, ho⟩ := exo_at I.hok ea
  obtain ⟨m, hn, hl⟩ := I.loc
  obtain ⟨u0, r0, lk0⟩ := hl i me (.ref a) hN hσ (.inl hka)
  cases (show u0 = Value.ref a from r0)
  have hm0 : m me = some (.ref a) := by
    rcases lk0 with ⟨_, z⟩ | ⟨z, _⟩
    · exact z
    · rw [hka] at z
      rcases z with z | z <;> cases z
  obtain ⟨mb, hmb1, hmb2⟩ := I.mod.blt
  refine PySem.ks_wpAt_Expr_any ?_ hi hs
  refine PySem.ks_wpAt_MethodCall ?_ hev
  refine PySem.ks_wpAt_super_base hks hkc (by decide) hfu (KX _ _ lkf) rfl hhead hco (KX _ _ lkc) rfl hvs hfile S.top ?_
  refine PySem.W.ks_loadName_global hkf hks (PySem.Calls.loadGlobal_builtin (mb := mb) (by rw [I.ok.glob]; exact I.mod.glob.keeps I.bk) hm (by rw [I.ok.blt]; exact hmb1.keeps I.bk) ((hmb2 _ (by decide +kernel)).trans boot_super) ⟨rfl, ?_⟩)
  refine wpAny_loadName_free hkf hkc hce (v := .ref C) ⟨_, KX _ _ lkcell, rfl⟩ ?_
  rw [hme]
  refine wpAny_loadName_local hkf hka hn hm0 ?_
  obtain ⟨hh, g, d, t, os⟩ := s
  refine ks_wpAny_isType_cls (KX _ _ hC) rfl ⟨rfl, ?_⟩
  have hsub : PySem.W.Looks (model X.prog X.w) hh (isSubtype (.ref C) (.ref C)) true := PySem.W.looks_mroIn KX T.mro
  refine PySem.ks_wpAny_call_super (KX _ _ hC) rfl ho rfl (fun c e => by cases e) hsub (fun h1 e1 k1' => ?_)
  have I1 : Inv X pins σ H ⟨h1, g, d, t, os⟩ := I.kept (h' := h1) (t' := t) k1'
  have hI : PySem.W.Looks (model X.prog X.w) h1 (isInstance (.ref a) (.type "ValueError")) true := (show PySem.W.InstAt h1 a _ C none from ⟨k1' _ _ ho, rfl, rfl, trivial⟩).type.andThen (PySem.W.looks_subIn I1.kIn T.subV)
  have hsup := T.sup
  unfold PySem.W.ks_superIn at hsup
  rw [hcl] at hsup
  refine PySem.W.kxs_getMethod PySem.W.kxs_ValueError e1 (PySem.W.looks_opaque I1.kIn T.opq) (l₀ := .ref C :: bm) ?_ rfl I1.kIn hsup hI ?_ (by decide) ?_
  · exact fun A Q E s k q => wpAny_bind ((PySem.W.looks_clsIn I1.kIn hcl) A _ E s k (wpAny_pure q))
  · exact PySem.W.ks_ne (odx := none) I1.kIn (⟨k1' _ _ ho, rfl, rfl, trivial⟩ : PySem.W.InstAt h1 a _ C none) hcl
  have hsz : h1.objs.size ≤ h1.objs.size := Nat.le_refl _
  have I2 : Inv X pins σ H ⟨h1.push (PySem.W.kxs_mw "ValueError.__init__" a), g, d, t + 1, os⟩ := I1.kept (t' := t + 1) fun b o e => Heap.get?_push_of_some _ e
  have hu : (h1.push (PySem.W.kxs_mw "ValueError.__init__" a)).get? h1.objs.size = some (PySem.W.kxs_mw "ValueError.__init__" a) := Heap.get?_push_size _ rfl
  have fp : FpOk X pins H h1.objs.size := I1.fpOk hsz (I1.hok.fresh hsz)
  have I3 := I2.pinned (fp := [h1.objs.size]) (fun b hb => by rw [List.mem_singleton.mp hb]; exact fp) (fun b hb => by
    rw [List.mem_singleton.mp hb]
    exact ⟨_, hu, fun v z => by cases z⟩)
  refine PySem.W.kxs_callWith (i := "ValueError.__init__") (x := a) (by rw [he]; show (false || (backTo p3 (starEach es X.env)).any (·.1)) = false; rw [hpl]; rfl) ?_
  rw [he]
  refine PySem.Calls.evalArgs_plain ?_
  have har := ha.run p3 _ _ σ H _ I3 h
  rw [he] at har
  refine thn har fun us s4 ⟨vs, H4, I4, r4, hlen, ea4, fin⟩ => ?_
  have pin4 := (I4.pin (h1.objs.size, PySem.W.kxs_mw "ValueError.__init__" a) (List.mem_append_right _ (List.mem_append_right _ (mem_pinsAt (List.mem_singleton.mpr rfl) hu)))).1
  refine ⟨pin4, ?_⟩
  rw [List.nil_append]
  refine bw_ok T.oex I4.unpinned ea4 pin4 ?_ fun s5 I5 => fin s5 I5
  rw [← r4.length, sizeLine_eq]
  omega
end
section
variable {P : Program} {w : World} {K : PySem.W.Frag} {mg : Str → Option Value} {base : Heap} {CX : CXT}
abbrev supSt (p0 p1 p2 p3 p4 : Pos) (e : Expr) : Stmt := .Expr (.Call (.Attribute (.Call (.Name "super" p0) [] [] p1) "__init__" p2) [e] [] p3) p4
/-- THE RULE: such an __init__ keeps its promise, by its one argument's reading and the rest of its body -/
theorem fn_super {k : Nat} {f C cda cc : Addr} {fd : FuncData} {name qual me : Str} {params : Arguments} {p0 p1 p2 p3 p4 : Pos} {e : Expr} {rest : List Stmt} {scope : Scope} {kV doc pm ct : Value} {an : Option Addr} {N ps : List Str} {sp : Sp}
    (S : SupF K P C f fd cda cc me) (T : SupC K C) (hfd : fd = PySem.W.fnX name qual params (supSt p0 p1 p2 p3 p4 e :: rest) scope [("__class__", cc)] .none kV doc pm an (.ref cda) ct) (hcd : PySem.W.codeIn K (.ref cda) qual = true) (NS : NScope N ps ["__class__"] scope) (hm : mg "super" = none)
    (hN : N[0]? = some me) (hps : 0 < ps.length) (hks : scope.names.lookup ("super" : Str) = some .globalImplicit) (hka : scope.names.lookup me = some .local) (len : ∀ vs H Q E, sp vs H Q E → vs.length = ps.length)
    (hbody : ∀ (A : Around) (outer : List Env) (s : Shared) (H : Hp) (vs : List V) (Q : VK) (E : XK), Room k (A.deeper (envF ⟨name, qual, params, supSt p0 p1 p2 p3 p4 e :: rest, scope, [("__class__", cc)], cda⟩ f s.heap.objs.size)) → sp vs H Q E →
      ∃ (a : Addr) (te : TE) (t : TS), vs[0]? = some (.ref a) ∧ H a = some (exo a C none) ∧ PE (ncx CX P w K mg base N ⟨name, qual, params, supSt p0 p1 p2 p3 p4 e :: rest, scope, [("__class__", cc)], cda⟩ f A outer s H E) e te ∧
        PSs (ncx CX P w K mg base N ⟨name, qual, params, supSt p0 p1 p2 p3 p4 e :: rest, scope, [("__class__", cc)], cda⟩ f A outer s H E) rest t ∧
        ∀ R : Hp → Prop, (∀ H1, H1 a = some (exo a C none) → t { nx := fun _ H' => Q .non H', rt := Q } (startF N vs [some (.ref C)]) H1 → R H1) → te (startF N vs [some (.ref C)]) H fun _ H1 => R H1)
    (hev : ∀ env : Env, ∃ pl : Sem Bool, eval (.Call (.Attribute (.Call (.Name "super" p0) [] [] p1) "__init__" p2) [e] [] p3) env = (do
      let ov ← attributeBase (.Call (.Name "super" p0) [] [] p1) "__init__" env (eval (.Call (.Name "super" p0) [] [] p1) env)
      standAt p2.atName
      let (f, first) ← holding [ov] (getMethod ov "__init__" pl)
      callWith p3 f first (backTo p3 (starEach [e] env)) []))
    (hse : ∀ env : Env, starEach [e] env = [(false, eval e env)])
    (hsw : ∀ env : Env, swapsWith (.Call (.Attribute (.Call (.Name "super" p0) [] [] p1) "__init__" p2) [e] [] p3) none p4.line env = pure false) :
    FnOk P w K mg base CX (k + 1) f fd ps sp := by
  refine ⟨len, fun A outer s H args us vs Q E hr e0 hb r hsp => ?_⟩
  subst hfd
  have hl := len _ _ _ _ hsp
  have KX : K.In s.heap := e0.mod.kin.keeps fun b o e => (e0.bs b o e).1
  have lim : s.heap.NoLimit := e0.mod.nolimit.keeps fun b o e => (e0.bs b o e).1
  obtain ⟨oc, od, osl, lk⟩ := S.fn
  obtain ⟨cl, cld, csl, lkcell⟩ := S.cell
  have hcl : s.heap.get? cc = some ⟨cl, cld, .cell (some (.ref C)), csl⟩ := KX _ _ lkcell
  have hHc : H cc = none := (e0.bs _ _ (e0.mod.kin _ _ lkcell)).2
  have one : ∀ (y : Str) (c : Addr), ([(("__class__" : Str), cc)] : List (Str × Addr)).lookup y = some c → y = "__class__" ∧ c = cc := fun y c h => by
    have hm := PySem.mem_of_lookup h
    rw [List.mem_singleton] at hm
    exact ⟨congrArg Prod.fst hm, congrArg Prod.snd hm⟩
  have look1 : ([(("__class__" : Str), cc)] : List (Str × Addr)).lookup ("__class__" : Str) = some cc := by simp [List.lookup]
  have CA : CellsAt [(("__class__" : Str), cc)] ["__class__"] [some (V.ref C)] s.heap H := by
    refine ⟨rfl, fun y c h => ?_, fun x y c h1 h2 => (one x c h1).1.trans (one y c h2).1.symm, fun i y h => ?_⟩
    · rw [(one y c h).2]
      exact ⟨hHc, _, _, hcl, rfl⟩
    · match i, h with
      | 0, h =>
        have e : ("__class__" : Str) = y := Option.some.inj h
        subst e
        refine ⟨cc, look1, fun v hv => ?_⟩
        have ev : V.ref C = v := Option.some.inj (Option.some.inj hv)
        subst ev
        exact ⟨_, rfl, _, hcl, rfl⟩
      | i + 1, h => exact absurd h (by simp)
  refine ks_codeAny_call_defAt hr.depth (KX _ _ lk) rfl lim (PySem.W.codeRec_of KX hcd) rfl hb (fun x hx => NS.nocell x hx) (fun y hy => NS.par _ (List.of_mem_zip hy).1) (fun h₀ hns hk => ?_) NS.co NS.gen NS.kind
  obtain ⟨a, te, t, h0, ea, he, ht, hq⟩ := hbody A outer s H vs Q E (hr.deeper _) hsp
  have I := inv_startN (CX := CX) (mg := mg) (base := base) (f := f) (E := E) (h₁ := h₀) (tk := s.toks + (ps.zip us).length) (F := ⟨name, qual, params, supSt p0 p1 p2 p3 p4 e :: rest, scope, [("__class__", cc)], cda⟩) NS hr.hd e0 hl r CA hns hk
  have hσ : (startF N vs [some (V.ref C)])[0]? = some (some (.ref a)) := by
    unfold startF
    rw [List.getElem?_append_left (by rw [List.length_map]; omega), List.getElem?_map, h0]
    rfl
  have fin : ∀ {σ' : L2.St} {H' : Hp} {s' : Shared} {v : V} {u : Value}, Inv (ncx CX P w K mg base N ⟨name, qual, params, supSt p0 p1 p2 p3 p4 e :: rest, scope, [("__class__", cc)], cda⟩ f A outer s H E) [] σ' H' s' → L2.RelV v u → Q v H' → CE outer P w H s Q u s' :=
    fun {σ' H' s' v u} J rv q => ⟨v, H', J.os, J.bare, J.base, J.hok, rv, q⟩
  obtain ⟨pl, hev⟩ := hev (envF ⟨name, qual, params, supSt p0 p1 p2 p3 p4 e :: rest, scope, [("__class__", cc)], cda⟩ f s.heap.objs.size)
  refine ks_wpAt_execs_cons ?_
  refine at_super (X := ncx CX P w K mg base N ⟨name, qual, params, supSt p0 p1 p2 p3 p4 e :: rest, scope, [("__class__", cc)], cda⟩ f A outer s H E) (pl := pl) (i := 0) (ta := tCons te tNil) T S rfl rfl look1 hks (NS.frk _ (List.mem_singleton.mpr rfl)) hka hm I hN hσ ea (pa_cons he pa_nil (hse _)) ?_ ?_ (hsw _) (hse _) rfl hev
  · refine hq (fun H1 => ([()].length ≤ 1000 ∧ H1 a = some (exo a C none) ∧ ∀ s', _)) fun H1 e1 ht1 => ⟨by decide, e1, fun s' I1 => ?_⟩
    refine wpAt_of_wpAny (wpAny_mono (ht.run [] s' _ H1 _ I1 ht1) (fun fl s' hs => ?_) fun e s' hs => hs)
    cases fl with
    | ret u =>
      obtain ⟨v, σ', H', J, rv, q⟩ := hs
      exact fin J rv q
    | next =>
      obtain ⟨σ', H', J, q⟩ := hs
      exact fin (v := V.non) (u := Value.none) J rfl q
    | brk =>
      obtain ⟨_, _, _, q⟩ := hs
      exact False.elim q
    | cont =>
      obtain ⟨_, _, _, q⟩ := hs
      exact False.elim q
  · show (scope.kind == .module && _) = false
    rw [NS.kind]
    rfl
end
end Kx

namespace Kx
open PySem PySem.Spec PyProof.Rows L2
/-! ### a def as its callers see it; a constant of the module -/
def Cal (P : Program) (w : World) (K : PySem.W.Frag) (mg : Str → Option Value) (base : Heap) (x : Str) (k : Nat) (sp : Sp) : Prop :=
  ∃ (f : Addr) (fd : FuncData) (ps : List Str), FnOk P w K mg base CX0 k f fd ps sp ∧ Binds K fd ps [] ∧ mg x = some (.ref f) ∧ PySem.W.keepIn K (.ref f) = true
theorem pe_cal {X : Cx} {x : Str} {k : Nat} {sp : Sp} {e : Expr} {es : List Expr} {t : TA} {p pos : Pos} (C : Cal X.prog X.w X.K X.mg X.base x k sp) (hr : Room k X.A) (hg : Gl X x) (ha : PA X (e :: es) t)
    (hdb : (x == ("__debug__" : Str)) = false := by decide) (he : starEach (e :: es) X.env = (false, eval e X.env) :: starEach es X.env := by rfl) (hpl : (backTo pos (starEach es X.env)).any (·.1) = false := by rfl) :
    PE X (.Call (.Name x p) (e :: es) [] pos) (tCall sp [] E0 t) := by
  obtain ⟨f, fd, ps, F, b, g, kp⟩ := C
  exact pe_call F hr hg g kp b .nil pass0 ha hdb he hpl
theorem pe_cal0 {X : Cx} {x : Str} {k : Nat} {sp : Sp} {p pos : Pos} (C : Cal X.prog X.w X.K X.mg X.base x k sp) (hr : Room k X.A) (hg : Gl X x)
    (hdb : (x == ("__debug__" : Str)) = false := by decide) : PE X (.Call (.Name x p) [] [] pos) (tCall sp [] E0 tNil) := by
  obtain ⟨f, fd, ps, F, b, g, kp⟩ := C
  exact pe_call0 F hr hg g kp b .nil pass0 hdb
def GC (mg : Str → Option Value) (x : Str) (v : V) : Prop := ∃ u, mg x = some u ∧ RelV v u
theorem pe_gc {X : Cx} {x : Str} {v : V} {pos : Pos} (h : GC X.mg x v) (hg : Gl X x) (hd : (x == ("__debug__" : Str)) = false := by decide) : PE X (.Name x pos) (tC v) := by
  obtain ⟨u, hm, r⟩ := h
  exact pe_glob hg hm r hd
theorem same_upd {H : Hp} {p : Addr} {o : HO} (h : H p = none) : Same H (upd H p o) := fun b x e => by
  rw [upd_ne (ne_of_none e h)]
  exact e
/-- what lies at an address that H did not know may change -/
theorem same_mut {H H1 : Hp} {p : Addr} {o : HO} (s : Same H H1) (h : H p = none) : Same H (upd H1 p o) := fun b x e => by
  rw [upd_ne (ne_of_none e h)]
  exact s b x e
theorem iteB {b : Bool} {A B : Prop} (h1 : b = true → A) (h2 : b = false → B) : if b = true then A else B := by
  cases b with
  | true => exact h1 rfl
  | false => exact h2 rfl
theorem sz9 {n : Nat} (h : n ≤ 100000) : n ≤ sizeLine := Nat.le_trans h (by decide)
theorem sz8 {n : Nat} (h : n < 100000) : n < sizeLine := Nat.lt_of_lt_of_le h (by decide)
/-- what a pool of draws is -/
def inR (v : Int) : Prop := 0 ≤ v ∧ v < 65536
structure Pool (ms : List Int) : Prop where
  lo : 3 ≤ ms.length
  hi : ms.length ≤ 200
  rg : ∀ v ∈ ms, inR v
def spDraws (K : PySem.W.Frag) : Sp := fun vs H Q _ => ∃ (a : Addr) (ns : List Int), vs = [.ref a] ∧ SqL K H a (ns.map V.int) ∧ ns.length ≤ 63 ∧
  ∀ H' p ms, Same H H' → H p = none → H' p = some (.lst (ms.map V.int)) → Pool ms → Q (.ref p) H'
theorem map_app (ms : List Int) (v : Int) : (ms.map V.int) ++ [V.int v] = (ms ++ [v]).map V.int := by rw [List.map_append]; rfl
theorem rg_app {ms : List Int} {v : Int} (h : ∀ x ∈ ms, inR x) (hv : inR v) : ∀ x ∈ ms ++ [v], inR x := fun x hx => by
  rcases List.mem_append.mp hx with hx | hx
  · exact h x hx
  · rw [List.mem_singleton.mp hx]; exact hv
theorem sl9 {n : Nat} (h : n < 100000) : n < sizeLine := Nat.lt_of_lt_of_le h (by decide)
variable {K : PySem.W.Frag}
theorem pe10 : ((10 : Int) ^ (18 : Int).toNat) = 1000000000000000000 := by decide
theorem eqv_nil : ∀ ms : List Int, PyData.eqv (.list (ms.map PyData.int)) (.list []) = decide (ms = [])
  | [] => by simp [PyData.eqv, PyData.eqvAll]
  | x :: r => by simp [PyData.eqv, PyData.eqvAll]
theorem dp_ints {H : Hp} : ∀ ms : List Int, DpAll K H (ms.map V.int) (ms.map PyData.int)
  | [] => .nil
  | x :: r => .cons (.int x) (dp_ints r)
theorem lay_ints : ∀ ms : List Int, PyData.canLayAll0 (ms.map PyData.int) = true
  | [] => rfl
  | x :: r => by
    rw [List.map_cons]
    simp only [PyData.canLayAll0, PyData.canLay0, lay_ints r, Bool.and_self]
theorem dep_ints : ∀ ms : List Int, PyData.depthAll (ms.map PyData.int) = 0
  | [] => rfl
  | x :: r => by
    rw [List.map_cons]
    simp only [PyData.depthAll, PyData.depth, dep_ints r, Nat.max_self]
theorem shp_ints (ms : List Int) : SeqAt.shaped (.list (ms.map PyData.int)) = true := by
  unfold SeqAt.shaped
  simp only [PyData.canLay0, PyData.depth, lay_ints, dep_ints, Bool.true_and]
  decide
def nthV (ms : List Int) (k : Int) : Int := if k < (ms.length : Int) then ms.getD k.toNat 0 else (ms.getD (k % (ms.length : Int)).toNat 0 * 31 + k * 7919) % 65521
theorem getD_rg {ms : List Int} (h : ∀ v ∈ ms, inR v) {i : Nat} (hi : i < ms.length) : ms[i]? = some (ms.getD i 0) ∧ inR (ms.getD i 0) := by
  have e : ms.getD i 0 = ms[i] := by rw [List.getD_eq_getElem?_getD, List.getElem?_eq_getElem hi]; rfl
  rw [e]
  exact ⟨List.getElem?_eq_getElem hi, h _ (List.getElem_mem hi)⟩
theorem nthV_rg {ms : List Int} (h : Pool ms) {k : Int} (hk : 0 ≤ k) : inR (nthV ms k) := by
  unfold nthV
  split
  · exact (getD_rg h.rg (by omega)).2
  · unfold inR; constructor <;> omega
theorem at_pool {ms : List Int} {k : Int} (hk : 0 ≤ k) (hl : k < (ms.length : Int)) : atI (ms.map V.int) k = some (.int (ms.getD k.toNat 0)) := by
  obtain ⟨j, rfl⟩ : ∃ j : Nat, k = (j : Int) := ⟨k.toNat, by omega⟩
  refine atI_nat ?_
  rw [List.getElem?_map, List.getElem?_eq_getElem (by omega), List.getD_eq_getElem?_getD, Int.toNat_natCast, List.getElem?_eq_getElem (by omega)]
  rfl
def spNth (K : PySem.W.Frag) : Sp := fun vs H Q _ => ∃ (p : Addr) (ms : List Int) (k : Int), vs = [.ref p, .int k] ∧ SqL K H p (ms.map V.int) ∧ Pool ms ∧ 0 ≤ k ∧ k < 1000000 ∧ Q (.int (nthV ms k)) H
def SIG1 : Str := " !\"#$&'()*+,-./0123456789:;<=>?@ABCDEFGHIJKLMNOPQRSTUVWXYZ[\\]^_`"
def SIG2 : Str := "abcdefghijklmnopqrstuvwxyz{|}~\n"
def SIGS : List Nat := (SIG1 ++ SIG2).cps.toList
def signV (k : Int) : Nat := SIGS.getD (k % 95).toNat 0
theorem sigs_len : SIGS.length = 95 := by decide +kernel
theorem sigs_len2 : (SIG1 ++ SIG2).length = 95 := by decide +kernel
theorem sig12 : SIG1.length + SIG2.length ≤ 1000 := by decide +kernel
def okS (c : Nat) : Bool := c == 10 || (decide (32 ≤ c) && decide (c ≤ 126) && c != 37)
theorem sigs_ok : SIGS.all okS = true := by decide +kernel
theorem at_sig (k : Int) : atI SIGS (k % 95) = some (signV k) := by
  have h0 : 0 ≤ k % 95 := by omega
  obtain ⟨j, hj⟩ : ∃ j : Nat, k % 95 = (j : Int) := ⟨(k % 95).toNat, by omega⟩
  unfold signV
  rw [hj, Int.toNat_natCast]
  refine atI_nat ?_
  have hl : j < SIGS.length := by rw [sigs_len]; omega
  rw [List.getElem?_eq_getElem hl, List.getD_eq_getElem?_getD, List.getElem?_eq_getElem hl]
  rfl
theorem signV_ok (k : Int) : okS (signV k) = true := by
  have hl : (k % 95).toNat < SIGS.length := by rw [sigs_len]; omega
  unfold signV
  rw [List.getD_eq_getElem?_getD, List.getElem?_eq_getElem hl]
  exact List.all_eq_true.mp sigs_ok _ (List.getElem_mem hl)
def spSign : Sp := fun vs H Q _ => ∃ k : Int, vs = [.int k] ∧ Q (.str ⟨#[signV k]⟩) H
def spSaid : Sp := fun vs H Q _ => ∃ a b : Bool, vs = [.bl a, .bl b] ∧ Q (.bl (decide (a = b))) H
/-- the built-ins that every law's own defs ask -/
structure TB (mg : Str → Option Value) : Prop where
  m_len : mg "len" = none
  m_abs : mg "abs" = none
  m_int : mg "int" = none
  m_range : mg "range" = none
/-! ### the end: what the top has written -/
/-- a def of the top, as k_is finds it -/
structure At (K : PySem.W.Frag) (x : Str) (st : Stmt) (f : Addr) (fd : FuncData) : Prop where
  a : PySem.W.nsIn K mainGlobals x = some (some (.ref f))
  F : Fun K x x st f fd
theorem gc_of {K : PySem.W.Frag} {h : Heap} {mg : Str → Option Value} (X : K.In h) (G : h.Ns mainGlobals mg) {x : Str} {v : V} {u : Value} (a : PySem.W.nsIn K mainGlobals x = some (some u)) (r : RelV v u) : GC mg x v := ⟨u, PySem.W.mg_of X G a, r⟩
theorem at_mk {K : PySem.W.Frag} {x : Str} {st : Stmt} {f : Addr} {oc : Value} {od an : Option Addr} {osl : Array (Option Value)} {kV doc pm cdv ct : Value} (a : PySem.W.nsIn K mainGlobals x = some (some (.ref f)))
    (l : K.lookup f = some ⟨oc, od, .func (PySem.W.fnOf x x (defArgs st) (defBody st) (defScope st) .none kV doc pm an cdv ct), osl⟩)
    (c : PySem.W.codeIn K cdv x = true) (k : PySem.W.keepIn K (.ref f) = true) : At K x st f (PySem.W.fnOf x x (defArgs st) (defBody st) (defScope st) .none kV doc pm an cdv ct) := ⟨a, fun_mk l c k⟩
end Kx

/-! {x!r}, x of texts, lists and tuples, whatever is under way: some text of bounded length. -/
namespace Kr
open PySem PySem.Spec PyProof.Rows
/-- repr gives some text of at most n signs, with k units to spare -/
def Shows (prog : Program) (w : World) (h₀ : Heap) (k n : Nat) (x : Value) : Prop :=
  ∀ b : Nat, b + n ≤ sizeLine → ∀ (A : Around) (E : Value → Shared → Prop) (s : Shared) (Q : Str → Shared → Prop), A.units + k < cLine → (∀ c o, h₀.get? c = some o → s.heap.get? c = some o) →
    (∀ (t : Str) (h' : Heap) (tk : Nat), t.length ≤ n → (∀ c o, s.heap.get? c = some o → h'.get? c = some o) → Q t { s with heap := h', toks := tk }) → wpAny (model prog w) A (pyReprUnder b x) Q E s
def cst (ns : List Nat) : Nat := (ns.map (· + 2)).sum
theorem cst_cons (n : Nat) (ns : List Nat) : cst (n :: ns) = n + 2 + cst ns := by
  unfold cst
  rw [List.map_cons, List.sum_cons]
theorem cst_take_succ {ns : List Nat} {i n : Nat} (h : ns[i]? = some n) : cst (ns.take (i + 1)) = cst (ns.take i) + (n + 2) := by
  unfold cst
  rw [List.take_add_one, h, List.map_append, List.sum_append]
  simp
theorem cst_take_le (ns : List Nat) (i : Nat) : cst (ns.take i) ≤ cst ns := by
  have e : cst ns = cst (ns.take i) + cst (ns.drop i) := by
    unfold cst
    rw [← List.sum_append, ← List.map_append, List.take_append_drop]
  omega
theorem listText_le (ts : List Str) : (listText ts).length ≤ piled ts + 2 := by
  rw [listText_eq_join, strLen_append, strLen_append]
  have e1 : ((("[" : String) : Str)).length = 1 := rfl
  have e2 : ((("]" : String) : Str)).length = 1 := rfl
  rw [e1, e2]
  by_cases h : ts = []
  · subst h
    decide +kernel
  · have := join_length_add ts h
    omega
section
variable {prog : Program} {w : World} {h₀ : Heap} {k : Nat}
theorem Shows.str (x : Str) (t : Tok) (hx : (reprText x).length ≤ sizeLine) : Shows prog w h₀ k (reprText x).length (.str x t) := fun b hb A E s Q _ _ hQ =>
  ReprIs.str (prog := prog) (w := w) x t hx b hb A E s Q fun tk => hQ _ s.heap tk (Nat.le_refl _) fun _ _ e => e
theorem Shows.le {n m : Nat} {x : Value} (h : Shows prog w h₀ k n x) (hn : n ≤ m) : Shows prog w h₀ k m x := fun b hb A E s Q hu hk hQ =>
  h b (by omega) A E s Q hu hk fun t h' tk ht => hQ t h' tk (by omega)
theorem Shows.unit {n j : Nat} {x : Value} (h : Shows prog w h₀ k n x) (hn : k ≤ j) : Shows prog w h₀ j n x := fun b hb A E s Q hu hk hQ =>
  h b hb A E s Q (by omega) hk hQ
/-- the loop of a list's repr -/
theorem loop_any {A : Around} {R : Result → Shared → Prop} {a P : Addr} (hne : a ≠ P) {items : Array Value} {ns : List Nat} {base : Nat} (hu : A.units + (k + 1) < cLine) (hPf : h₀.get? P = none) (hlen : ns.length = items.size)
    (hT : ∀ (i : Nat) (x : Value), items[i]? = some x → ∃ n, ns[i]? = some n ∧ Shows prog w h₀ k n x) (hsz : base + cst ns + 2 ≤ sizeLine) :
    ∀ (m i : Nat) (s : Shared) (oa : Obj) (na : Nat) (acc : Array Value) (c : Nat) (done : List (Str × Tok)), items.size - i = m → i ≤ items.size → (∀ b o, h₀.get? b = some o → s.heap.get? b = some o) → s.heap.get? a = some oa → oa.data = .seq items na →
    s.heap.get? P = some { cls := .type "list", dict := none, data := .seq acc c, slots := #[] } → acc.toList = strValues done → done.length = i → piled (done.map (·.1)) ≤ cst (ns.take i) →
    (∀ (t : Str) h' u tk, t.length ≤ cst ns + 2 → (∀ b o, b ≠ P → s.heap.get? b = some o → h'.get? b = some o) → R (.ok (.ret (.str t u))) { s with heap := h', toks := tk }) →
    codeAny (model prog w) A (.builtin "list.__repr__.loop" ⟨[.ref a, rawInt i, .ref P, rawInt ((base + piled (done.map (·.1)) : Nat) : Int)], []⟩) R s := by
  have hsz1 : items.size ≤ sizeLine := by
    have : ∀ l : List Nat, 2 * l.length ≤ cst l := by
      intro l
      induction l with
      | nil => exact Nat.zero_le _
      | cons n l ih => rw [cst_cons, List.length_cons]; omega
    have := this ns
    omega
  intro m
  induction m with
  | zero =>
    intro i s oa na acc c done hm hi hk0 ha hda hP hacc hdone hpl hR
    have hin : i = items.size := by omega
    have hall : ns.take i = ns := by rw [hin, ← hlen, List.take_length]
    rw [hall] at hpl
    have hlt := listText_le (done.map (·.1))
    refine codeAny_builtin F.entry_list_repr_loop ?_
    show wpAny _ _ (Builtin.«list.__repr__.loop» ⟨[.ref a, .int i 0, .ref P, .int ((base + piled (done.map (·.1)) : Nat) : Int) 0], []⟩) _ _ s
    rw [repr_loop_tree]
    refine wpAny_bind (wpAny_listItems ha hda ?_)
    have hnone : items[(i : Int).toNat]? = none := by simp [hin]
    simp only [hnone]
    unfold reprEnd
    refine wpAny_bind (wpAny_listItems hP rfl ?_)
    rw [hacc, repr_fold]
    refine wpAny_bind (wpAny_pure ?_)
    refine wpAny_bind (wpAny_mkStr (wpAny_pure ?_) (by show (listText _).length ≤ _; omega))
    exact hR _ s.heap _ _ (by show (listText _).length ≤ _; omega) fun _ _ _ e => e
  | succ m ih =>
    intro i s oa na acc c done hm hi hk0 ha hda hP hacc hdone hpl hR
    have hlt : i < items.size := by omega
    obtain ⟨n, hn, hsh⟩ := hT i items[i] (by simp [hlt])
    have hp1 := cst_take_succ hn
    have hp2 := cst_take_le ns (i + 1)
    refine codeAny_builtin F.entry_list_repr_loop ?_
    show wpAny _ _ (Builtin.«list.__repr__.loop» ⟨[.ref a, .int i 0, .ref P, .int ((base + piled (done.map (·.1)) : Nat) : Int) 0], []⟩) _ _ s
    rw [repr_loop_tree]
    refine wpAny_bind (wpAny_listItems ha hda ?_)
    have hsome : items[(i : Int).toNat]? = some items[i] := by simp [hlt]
    simp only [hsome]
    rw [Int.toNat_natCast]
    refine wpAny_bind (wpAny_holding (hsh (base + piled (done.map (·.1)) + 1) (by omega) _ _ _ _ (by rw [units_under_list_loop]; omega) hk0 fun t h' tk ht hkp => ?_))
    refine wpAny_bind (wpAny_mkStr ?_ (by omega))
    refine wpAny_bind ?_
    show wpAny _ _ (updateSeq P _) _ _ _
    have hasz : acc.size ≤ sizeLine := by
      have e1 : acc.toList.length = acc.size := by simp
      have e2 : (strValues done).length = done.length := by simp [strValues]
      rw [hacc] at e1; omega
    refine wpAny_updateSeq (hkp _ _ hP) rfl (wpAny_pure ⟨F.quiet_list_repr_loop _, ?_⟩) hasz
    have hpd : piled ((done ++ [(t, tk)]).map (·.1)) = piled (done.map (·.1)) + (t.length + 2) := by
      rw [List.map_append, piled_append]
      show _ + piled [t] = _
      rw [piled_cons, piled_nil]
    have e1 : ((i : Int) + 1) = ((i + 1 : Nat) : Int) := by omega
    have e2 : base + piled (done.map (·.1)) + (t.length + 2) = base + piled ((done ++ [(t, tk)]).map (·.1)) := by omega
    rw [e1, e2]
    refine ih (i + 1) _ oa na (acc.push (.str t tk)) _ (done ++ [(t, tk)]) (by omega) hlt (fun b o e => (Heap.get?_update_other _ _ (fun h : P = b => by rw [← h, hPf] at e; cases e)).trans (hkp _ _ (hk0 _ _ e))) ((Heap.get?_update_other _ _ (fun h : P = a => hne h.symm)).trans (hkp _ _ ha)) hda (Heap.get?_update_self _ (hkp _ _ hP) rfl) (by simp [hacc, strValues]) (by simp [hdone]) (by omega) fun z h'' u tk' hz hh => ?_
    exact hR z h'' u tk' hz fun b o hb e => hh b o hb ((Heap.get?_update_other _ _ (fun h : P = b => hb h.symm)).trans (hkp _ _ e))
theorem dots3 : ("[...]" : Str).length ≤ 5 := by decide +kernel
/-- list.__repr__ of a non-empty list, whatever is under way -/
theorem list_at {A : Around} {R : Result → Shared → Prop} {s : Shared} {a : Addr} {oa : Obj} {x : Value} {l : List Value} {na base : Nat} {ns : List Nat} (ha : s.heap.get? a = some oa) (hda : oa.data = .seq (x :: l).toArray na) (hu : A.units + (k + 1) < cLine)
    (hk0 : ∀ b o, h₀.get? b = some o → s.heap.get? b = some o) (hlen : ns.length = (x :: l).toArray.size) (hT : ∀ (i : Nat) (y : Value), (x :: l).toArray[i]? = some y → ∃ n, ns[i]? = some n ∧ Shows prog w h₀ k n y) (hsz : base + cst ns + 5 ≤ sizeLine)
    (hR : ∀ (t : Str) h' u tk, t.length ≤ cst ns + 5 → (∀ b o, s.heap.get? b = some o → h'.get? b = some o) → R (.ok (.ret (.str t u))) { s with heap := h', toks := tk }) :
    wpAny (model prog w) A.in1 (Builtin.listReprAt base ⟨[.ref a], []⟩) (fun fin s' => match fin with | .done f => R (.ok f) s' | .again c' => c'.quiet = true ∧ codeAny (model prog w) A c' R s') (fun e s' => R (.error e) s') s := by
  have hPf : h₀.get? s.heap.objs.size = none := by
    cases e : h₀.get? s.heap.objs.size with
    | none => rfl
    | some o => exact absurd (Heap.lt_size (hk0 _ _ e)) (Nat.lt_irrefl _)
  have main : wpAny (model prog w) A.in1 (do again (.builtin "list.__repr__.loop" ⟨[.ref a, rawInt 0, ← newList [], rawInt base], []⟩)) (fun fin s' => match fin with | .done f => R (.ok f) s' | .again c' => c'.quiet = true ∧ codeAny (model prog w) A c' R s') (fun e s' => R (.error e) s') s := by
    refine wpAny_bind (m := newList []) (wpAny_newObj_type ?_)
    refine wpAny_pure ⟨F.quiet_list_repr_loop _, ?_⟩
    exact loop_any (P := s.heap.objs.size) (done := []) (Nat.ne_of_lt (Heap.lt_size ha)) hu hPf hlen hT (by omega) _ 0 _ oa na #[] _ rfl (Nat.zero_le _) (fun b o e => Heap.get?_push_of_some _ (hk0 _ _ e)) (Heap.get?_push_of_some _ ha) hda (Heap.get?_push_size _ rfl) rfl rfl (Nat.zero_le _)
      fun t h' u tk ht hk => hR t h' u tk (by omega) fun b o e => hk b o (Nat.ne_of_lt (Heap.lt_size e)) (Heap.get?_push_of_some _ e)
  intro Γ p hΓ
  have h1 := main Γ p hΓ
  unfold Builtin.listReprAt
  simp [slotArgs, Builtin.List.listItems, seqItems?, Sem.wp_load_of (h := ha), hda, stack]
  show Sem.wp _ Γ (if (Γ.below.any _) = true then _ else _) _ _ p s
  split
  · have h2 : wpAny (model prog w) A.in1 (do rule "list.__repr__.in-itself"; retStr "[...]") (fun fin s' => match fin with | .done f => R (.ok f) s' | .again c' => c'.quiet = true ∧ codeAny (model prog w) A c' R s') (fun e s' => R (.error e) s') s := by
      refine wpAny_bind (wpAny_rule ?_)
      refine wpAny_bind (wpAny_mkStr (wpAny_pure ?_) (by decide +kernel))
      have d := dots3
      exact hR _ s.heap _ _ (by omega) fun _ _ e => e
    exact h2 Γ p hΓ
  · exact h1
/-- a list's object in the heap that was read -/
structure LstAt (h : Heap) (a : Addr) (xs : List Value) : Prop where
  ex : ∃ (o : Obj) (n : Nat), h.get? a = some o ∧ o.cls = .type "list" ∧ o.data = .seq xs.toArray n
structure TupAt (h : Heap) (a : Addr) (xs : List Value) : Prop where
  ex : ∃ (o : Obj) (n : Nat), h.get? a = some o ∧ o.cls = .type "tuple" ∧ o.data = .seq xs.toArray n
/-- the members and what each may come to -/
def Each (prog : Program) (w : World) (h₀ : Heap) (k : Nat) : List Value → List Nat → Prop := Paired fun x n => Shows prog w h₀ k n x
theorem Each.get : ∀ {xs : List Value} {ns : List Nat}, Each prog w h₀ k xs ns → ∀ (i : Nat) (y : Value), xs[i]? = some y → ∃ n, ns[i]? = some n ∧ Shows prog w h₀ k n y
  | _, _, .nil, i, y, e => by simp at e
  | _, _, .cons (b := n) h _, 0, y, e => ⟨n, rfl, (Option.some.inj e) ▸ h⟩
  | _, _, .cons _ t, i + 1, y, e => by
    obtain ⟨n, h1, h2⟩ := Each.get t i y (by simpa using e)
    exact ⟨n, by simpa using h1, h2⟩
theorem Each.len {xs : List Value} {ns : List Nat} (h : Each prog w h₀ k xs ns) : ns.length = xs.length := (Paired.length h).symm
theorem list_top {A : Around} {E : Value → Shared → Prop} {s : Shared} {Q : Value → Shared → Prop} {a : Addr} {xs : List Value} {ns : List Nat} (ha : LstAt h₀ a xs) (hT : Each prog w h₀ k xs ns) (hu : A.units + (k + 1) < cLine) (hk0 : ∀ b o, h₀.get? b = some o → s.heap.get? b = some o) (hsz : cst ns + 5 ≤ sizeLine)
    (hQ : ∀ (t : Str) h' u tk, t.length ≤ cst ns + 5 → (∀ b o, s.heap.get? b = some o → h'.get? b = some o) → Q (.str t u) { s with heap := h', toks := tk }) : wpAny (model prog w) A (pyReprObj (.ref a)) Q E s := by
  obtain ⟨o, n, ho, hc, hd⟩ := ha.ex
  have hTy : s.TypeIs (.ref a) "list" := ⟨o, hk0 _ _ ho, hc⟩
  cases xs with
  | nil => exact wpAny_pyReprObj_list_empty hTy (by omega) (hk0 _ _ ho) hd (hQ _ s.heap _ _ (Nat.le_trans (by decide +kernel : ("[]" : Str).length ≤ 5) (Nat.le_add_left _ _)) fun _ _ e => e)
  | cons x l =>
    unfold pyReprObj
    refine wpAny_bind (wpAny_cRoomFor (by omega) ?_)
    refine wpAny_bind (wpAny_specialOf (name := Str.ofString "__repr__") hTy F.slot_list_repr.lookup ?_)
    refine wpAny_bind (m := callSpecialIfBound? (.ref a) (Str.ofString "__repr__")) (wpAny_callSpecialIfBound?_slot (name := Str.ofString "__repr__") hTy F.slot_list_repr ?_)
    refine wpAny_call (codeAny_call_builtin F.slot_list_repr.plain F.entry_list_repr (F.slot_list_repr.check _ _ _ _ _ _ _ _ hTy (F.args_list_repr_1 _) ?_))
    refine list_at (k := k) (h₀ := h₀) (ns := ns) (R := callEnd _ _) (base := 0) (hk0 _ _ ho) hd hu hk0 (by rw [hT.len]; simp) (fun i y e => hT.get i y (by simpa using e)) (by omega) fun t h' u tk ht hk => ?_
    exact wpAny_bind (wpAny_isInstance (T := "str") (b := true) rfl isSubtype_str_str (wpAny_pure (hQ t h' u tk ht hk)))
theorem Shows.list {a : Addr} {xs : List Value} {ns : List Nat} (ha : LstAt h₀ a xs) (hT : Each prog w h₀ k xs ns) : Shows prog w h₀ (k + 1) (cst ns + 5) (.ref a) := by
  obtain ⟨o, n, ho, hc, hd⟩ := ha.ex
  intro b hb A E s Q hu hk0 hQ
  refine wpAny_pyReprUnder_ref (by omega) ?_
  cases xs with
  | nil => exact wpAny_pyReprObjUnder_list_empty ⟨o, hk0 _ _ ho, hc⟩ (by omega) (hk0 _ _ ho) hd ⟨_, _, rfl, hQ _ s.heap _ (Nat.le_trans (by decide +kernel : ("[]" : Str).length ≤ 5) (Nat.le_add_left _ _)) fun _ _ e => e⟩
  | cons x l =>
    refine wpAny_pyReprObjUnder_twin (twin := "list.__repr__.under") ⟨o, hk0 _ _ ho, hc⟩ F.slot_list_repr.toG rfl (by omega) ?_
    refine call_twin_plain F.plain_list_repr_under F.entry_list_repr_under F.check_list_repr_under ⟨o, hk0 _ _ ho, hc⟩ F.slot_list_repr.toG (F.args_list_repr_1 _) ?_
    refine list_at (k := k) (h₀ := h₀) (ns := ns) (R := callEnd _ _) (hk0 _ _ ho) hd hu hk0 (by rw [hT.len]; simp) (fun i y e => hT.get i y (by simpa using e)) (by omega) fun t h' u tk ht hk => ?_
    exact ⟨⟨_, _, rfl⟩, _, _, rfl, hQ t h' tk ht hk⟩
/-- the fold over a tuple's members -/
theorem fold_any {A : Around} {E : Value → Shared → Prop} (hu : A.units + k < cLine) : ∀ (l : List Value) (ns : List Nat) (acc : Array Str) (n : Nat) (s : Shared) (Q : (Array Str × Nat) → Shared → Prop), Each prog w h₀ k l ns → n + cst ns ≤ sizeLine → (∀ b o, h₀.get? b = some o → s.heap.get? b = some o) →
    (∀ (ts : List Str) h' tk, ts.length = l.length → piled ts ≤ cst ns → (∀ b o, s.heap.get? b = some o → h'.get? b = some o) → Q ⟨acc ++ ts.toArray, n + piled ts⟩ { s with heap := h', toks := tk }) → wpAny (model prog w) A (forIn l (⟨acc, n⟩ : (Array Str × Nat)) tupBody) Q E s := by
  intro l
  induction l with
  | nil =>
    intro ns acc n s Q hT hn _ h
    have h0 := h [] s.heap s.toks rfl (Nat.zero_le _) fun _ _ e => e
    simp only [List.forIn_nil]
    exact wpAny_pure (by simpa [piled] using h0)
  | cons x l ih =>
    intro ns acc n s Q hT hn hk0 h
    cases hT with
    | @cons _ c _ cs hx hl =>
      rw [cst_cons] at hn
      rw [List.forIn_cons]
      refine wpAny_bind (wpAny_bind (hx (n + 1) (by omega) _ _ _ _ hu hk0 fun t h' tk ht hkp => wpAny_pure ?_))
      refine ih cs (acc.push t) (n + (t.length + 2)) _ Q hl (by omega) (fun b o e => hkp _ _ (hk0 _ _ e)) fun ts h'' tk' hl' hp' hk2 => ?_
      have e : n + piled (t :: ts) = n + (t.length + 2) + piled ts := by rw [piled_cons]; omega
      have h1 := h (t :: ts) h'' tk' (by simp [hl']) (by rw [piled_cons, cst_cons]; omega) fun b o e => hk2 _ _ (hkp _ _ e)
      rw [e] at h1
      simpa using h1
theorem tupleText_le (ts : List Str) : (tupleText ts).length ≤ piled ts + 2 := fmt_text ts
theorem tup_rest {A : Around} {E : Value → Shared → Prop} {s : Shared} {Q : Fin → Shared → Prop} {a : Addr} {xs : List Value} {ns : List Nat} {base : Nat} (ha : TupAt h₀ a xs) (hT : Each prog w h₀ k xs ns) (hu : A.units + k < cLine) (hk0 : ∀ b o, h₀.get? b = some o → s.heap.get? b = some o) (hsz : base + cst ns + 5 ≤ sizeLine)
    (hQ : ∀ (t : Str) h' u tk, t.length ≤ cst ns + 5 → (∀ b o, s.heap.get? b = some o → h'.get? b = some o) → Q (.done (.ret (.str t u))) { s with heap := h', toks := tk }) : wpAny (model prog w) A (Builtin.tupleReprAt base ⟨[.ref a], []⟩) Q E s := by
  obtain ⟨o, n, ho, hc, hd⟩ := ha.ex
  rw [tuple_repr_tree]
  refine wpAny_bind (fmt_underWay fun c => ?_)
  cases c with
  | true =>
    refine PySem.W.KFB.if_so rfl ?_
    refine wpAny_bind (wpAny_rule ?_)
    refine wpAny_bind (wpAny_mkStr (wpAny_pure ?_) (by decide +kernel))
    exact hQ "(...)" s.heap _ _ (Nat.le_trans fmt_way (Nat.le_add_left _ _)) fun _ _ e => e
  | false =>
    refine PySem.W.KFB.if_not rfl ?_
    unfold tupleReprRest Builtin.Tuple.tupleItemsOf
    refine wpAny_bind (wpAny_bind (wpAny_seqItems (hk0 _ _ ho) hd (wpAny_pure ?_)))
    rw [← Array.forIn_toList]
    refine wpAny_bind (fold_any hu _ ns _ _ _ _ (by simpa using hT) (by omega) hk0 fun ts h' tk hl hp hkp => ?_)
    have ht := tupleText_le ts
    have hl2 : ts.length = xs.toArray.size := by simpa using hl
    have hz : (tupleText ts).length ≤ sizeLine := by omega
    refine wpAny_bind (wpAny_mkStr (wpAny_pure ?_) (by simpa [tupleText, hl2] using hz))
    have h1 := hQ (tupleText ts) h' tk (tk + 1) (by omega) hkp
    simpa [tupleText, hl2] using h1
theorem tup_top {A : Around} {E : Value → Shared → Prop} {s : Shared} {Q : Value → Shared → Prop} {a : Addr} {xs : List Value} {ns : List Nat} (ha : TupAt h₀ a xs) (hT : Each prog w h₀ k xs ns) (hu : A.units + (k + 1) < cLine) (hk0 : ∀ b o, h₀.get? b = some o → s.heap.get? b = some o) (hsz : cst ns + 5 ≤ sizeLine)
    (hQ : ∀ (t : Str) h' u tk, t.length ≤ cst ns + 5 → (∀ b o, s.heap.get? b = some o → h'.get? b = some o) → Q (.str t u) { s with heap := h', toks := tk }) : wpAny (model prog w) A (pyReprObj (.ref a)) Q E s := by
  obtain ⟨o, n, ho, hc, hd⟩ := id ha.ex
  have hTy : s.TypeIs (.ref a) "tuple" := ⟨o, hk0 _ _ ho, hc⟩
  unfold pyReprObj
  refine wpAny_bind (wpAny_cRoomFor (by omega) ?_)
  refine wpAny_bind (wpAny_specialOf (name := Str.ofString "__repr__") hTy F.slot_tuple_repr.lookup ?_)
  refine wpAny_bind (m := callSpecialIfBound? (.ref a) (Str.ofString "__repr__")) (wpAny_callSpecialIfBound?_slotG (name := Str.ofString "__repr__") hTy F.slot_tuple_repr ?_)
  refine wpAny_call (codeAny_call_builtin_own (Code.quiet_builtin _ (by decide +kernel)) F.entry_tuple_repr (F.slot_tuple_repr.check _ _ _ _ _ _ _ _ hTy (F.args_tuple_repr_1 _) (wpOwn_of_wpAny ?_)))
  refine tup_rest (base := 0) ha hT (by rw [units_under_tuple_repr]; omega) hk0 (by omega) fun t h' u tk ht hk => ?_
  exact wpAny_bind (wpAny_isInstance (T := "str") (b := true) rfl isSubtype_str_str (wpAny_pure (hQ t h' u tk ht hk)))
theorem Shows.tup {a : Addr} {xs : List Value} {ns : List Nat} (ha : TupAt h₀ a xs) (hT : Each prog w h₀ k xs ns) : Shows prog w h₀ (k + 1) (cst ns + 5) (.ref a) := by
  obtain ⟨o, n, ho, hc, hd⟩ := id ha.ex
  intro b hb A E s Q hu hk0 hQ
  refine wpAny_pyReprUnder_ref (by omega) ?_
  refine wpAny_pyReprObjUnder_twin (twin := "tuple.__repr__.under") ⟨o, hk0 _ _ ho, hc⟩ F.slot_tuple_repr rfl (by omega) ?_
  refine call_twin_own (F.quiet_tuple_repr_under _) F.entry_tuple_repr_under F.check_tuple_repr_under ⟨o, hk0 _ _ ho, hc⟩ F.slot_tuple_repr (F.args_tuple_repr_1 _) (wpOwn_of_wpAny ?_)
  refine tup_rest ha hT (by rw [units_under_tuple_repr_under]; omega) hk0 (by omega) fun t h' u tk ht hk => ?_
  exact ⟨⟨_, _, rfl⟩, _, _, rfl, hQ t h' tk ht hk⟩
end
end Kr

namespace Kr
open PySem PySem.Spec PyProof.Rows L2
mutual
def costD : PyData → Nat
  | .str x => 10 * x.length + 2
  | .list ds => costAll ds + 5
  | .tuple ds => costAll ds + 5
  | _ => 0
def costAll : List PyData → Nat
  | [] => 0
  | d :: ds => costD d + 2 + costAll ds
end
mutual
def okD : PyData → Bool
  | .str x => x.cps.toList.all fun c => decide (c < 1114112)
  | .list ds => okAll ds
  | .tuple ds => okAll ds
  | _ => false
def okAll : List PyData → Bool
  | [] => true
  | d :: ds => okD d && okAll ds
end
theorem repr_le {x : Str} (h : okD (.str x) = true) : (reprText x).length ≤ 10 * x.length + 2 := StrLaws.reprText_len x fun c hc => by
  have h' : x.cps.toList.all (fun c => decide (c < 1114112)) = true := by simpa only [okD] using h
  exact Nat.lt_trans (of_decide_eq_true (List.all_eq_true.mp h' c hc)) (by decide)
section
variable {X : Cx} {pins : List (Addr × Obj)} {σ : L2.St} {H : Hp} {s : Shared} {prog : Program} {w : World}
mutual
theorem shows_of (I : Inv X pins σ H s) : ∀ (d : PyData) (v : V) (u : Value), Dp X.K H v d → RelV v u → okD d = true → costD d ≤ sizeLine → Shows prog w s.heap d.depth (costD d) u
  | .str x, _, _, h, r, ok, hz => by
    cases h
    obtain ⟨t, rfl⟩ := r
    have h1 := repr_le ok
    have e : costD (.str x) = 10 * x.length + 2 := by simp only [costD]
    rw [e] at hz ⊢
    exact (Shows.str x t (by omega)).le h1
  | .list ds, _, _, h, r, ok, hz => by
    cases h with
    | lst hs ha =>
      cases r
      obtain ⟨its, rv, ⟨o, n, ho, hc, _, hd⟩, _⟩ := I.list hs
      have e : costD (.list ds) = costAll ds + 5 := by simp only [costD]
      rw [e] at hz ⊢
      obtain ⟨ns, en, hT⟩ := shows_all I ds _ its ha rv (by simpa only [okD] using ok) (by omega)
      rw [← en]
      exact Shows.list ⟨o, n, ho, hc, hd⟩ hT
  | .tuple ds, _, _, h, r, ok, hz => by
    cases h with
    | tup hs ha =>
      cases r
      obtain ⟨its, rv, ⟨o, ho, hc, n, hd⟩, _⟩ := I.tuple hs
      have e : costD (.tuple ds) = costAll ds + 5 := by simp only [costD]
      rw [e] at hz ⊢
      obtain ⟨ns, en, hT⟩ := shows_all I ds _ its ha rv (by simpa only [okD] using ok) (by omega)
      rw [← en]
      exact Shows.tup ⟨o, n, ho, hc, hd⟩ hT
  | .none, _, _, _, _, ok, _ => by simp [okD] at ok
  | .bool _, _, _, _, _, ok, _ => by simp [okD] at ok
  | .int _, _, _, _, _, ok, _ => by simp [okD] at ok
  | .dict _, _, _, _, _, ok, _ => by simp [okD] at ok
theorem shows_all (I : Inv X pins σ H s) : ∀ (ds : List PyData) (vs : List V) (us : List Value), DpAll X.K H vs ds → Vals vs us → okAll ds = true → costAll ds ≤ sizeLine → ∃ ns, cst ns = costAll ds ∧ Each prog w s.heap (PyData.depthAll ds) us ns
  | [], _, _, h, r, _, _ => by
    cases h
    cases r
    exact ⟨[], by simp [cst, costAll], .nil⟩
  | d :: ds, _, _, h, r, ok, hz => by
    cases h with
    | cons h1 h2 =>
      cases r with
      | cons r1 r2 =>
        have e : costAll (d :: ds) = costD d + 2 + costAll ds := by simp only [costAll]
        have o2 : (okD d && okAll ds) = true := by simpa only [okAll] using ok
        obtain ⟨oa, ob⟩ := Bool.and_eq_true_iff.mp o2
        have q1 := shows_of I d _ _ h1 r1 oa (by omega)
        obtain ⟨ns, en, q2⟩ := shows_all I ds _ _ h2 r2 ob (by omega)
        have hm : PyData.depthAll (d :: ds) = max d.depth (PyData.depthAll ds) := by simp only [PyData.depthAll]
        refine ⟨costD d :: ns, by rw [cst_cons, en, e], ?_⟩
        rw [hm]
        exact .cons (q1.unit (Nat.le_max_left _ _)) (Paired.mono (fun _ _ z => z.unit (Nat.le_max_right _ _)) q2)
end
end
/-- {x!r}: some text -/
def tFmtD (K : PySem.W.Frag) (te : TE) : TE := fun σ H Q => te σ H fun x H1 => ∃ d, Dp K H1 x d ∧ okD d = true ∧ costD d ≤ 1000000 ∧ d.depth ≤ 20 ∧ ∀ m : Str, m.length ≤ costD d → Q (.str m) H1
section
variable {X : Cx}
theorem pe_fmtD {e : Expr} {te : TE} {pos : Pos} {k : Nat} (hr : Room k X.A) (he : PE X e te) : PE X (.FormattedValue e 114 none pos) (tFmtD X.K te) := by
  refine ⟨fun pins s σ H Q I h => ?_⟩
  refine wpAny_FormattedValue_repr (thn (he.run pins s σ H _ I h) fun v s1 hv => ?_)
  obtain ⟨x, H1, I1, r1, d, hd, ok, hz, hdp, q⟩ := hv
  have hu := hr.units
  have hz' : costD d ≤ sizeLine := Nat.le_trans hz (by decide)
  have fin : ∀ (t : Str) (h' : Heap) (u tk : Nat), t.length ≤ costD d → (∀ b o, s1.heap.get? b = some o → h'.get? b = some o) → wpAny (model X.prog X.w) X.A (formatField (.str t u) Str.empty) (EP X pins σ Q) X.xe { s1 with heap := h', toks := tk } := fun t h' u tk ht hk =>
    wpAny_formatField_str ⟨.str t, H1, (I1.kept (t' := tk) hk).tok _, ⟨_, rfl⟩, q t ht⟩ ⟨.str t, H1, (I1.kept (t' := tk) hk).tok _, ⟨_, rfl⟩, q t ht⟩ (by omega)
  cases hd with
  | str y =>
    obtain ⟨t, rfl⟩ := r1
    have h1 := repr_le ok
    have e : costD (.str y) = 10 * y.length + 2 := by simp only [costD]
    exact pyReprObj_str (fin _ s1.heap _ _ (by omega) fun _ _ z => z) (by omega)
  | @lst a xs ds hs ha =>
    cases r1
    obtain ⟨its, rv, ⟨o, n, ho, hc, _, hdt⟩, _⟩ := I1.list hs
    have e : costD (.list ds) = costAll ds + 5 := by simp only [costD]
    obtain ⟨ns, en, hT⟩ := shows_all (prog := X.prog) (w := X.w) I1 ds _ its ha rv (by simpa only [okD] using ok) (by omega)
    have hdp' : PyData.depthAll ds + 1 ≤ 20 := by simpa only [PyData.depth] using hdp
    exact list_top ⟨o, n, ho, hc, hdt⟩ hT (by omega) (fun _ _ z => z) (by omega) fun t h' u tk ht hk => fin t h' u tk (by omega) hk
  | @tup a xs ds hs ha =>
    cases r1
    obtain ⟨its, rv, ⟨o, ho, hc, n, hdt⟩, _⟩ := I1.tuple hs
    have e : costD (.tuple ds) = costAll ds + 5 := by simp only [costD]
    obtain ⟨ns, en, hT⟩ := shows_all (prog := X.prog) (w := X.w) I1 ds _ its ha rv (by simpa only [okD] using ok) (by omega)
    have hdp' : PyData.depthAll ds + 1 ≤ 20 := by simpa only [PyData.depth] using hdp
    exact tup_top ⟨o, n, ho, hc, hdt⟩ hT (by omega) (fun _ _ z => z) (by omega) fun t h' u tk ht hk => fin t h' u tk (by omega) hk
  | non => simp [okD] at ok
  | bl b => simp [okD] at ok
  | int i => simp [okD] at ok
end
end Kr

/-! An own error as a value: made, asked for its class, its fields read. Texts times numbers. -/
namespace Ke
open PySem PySem.Spec PyProof.Rows L2 Kx Kr
theorem Same.tupS {K : PySem.W.Frag} {H H' : Hp} {a : Addr} {xs : List V} (e : Same H H') (h : SqT K H a xs) : SqT K H' a xs := by
  rcases h with (h | ⟨o, h⟩) | h
  · exact .inl (.inl (e _ _ h))
  · exact .inl (.inr ⟨o, e _ _ h⟩)
  · exact .inr h
mutual
theorem dp_same {K : PySem.W.Frag} {H H' : Hp} (e : Same H H') : ∀ (d : PyData) (v : V), Dp K H v d → Dp K H' v d
  | .none, _, h => by cases h; exact .non
  | .bool b, _, h => by cases h; exact .bl b
  | .int i, _, h => by cases h; exact .int i
  | .str x, _, h => by cases h; exact .str x
  | .list ds, _, h => by
    cases h with
    | lst hs ha => exact .lst (e.seq hs) (dpAll_same e ds _ ha)
  | .tuple ds, _, h => by
    cases h with
    | tup hs ha => exact .tup (Same.tupS e hs) (dpAll_same e ds _ ha)
  | .dict _, _, h => by cases h
theorem dpAll_same {K : PySem.W.Frag} {H H' : Hp} (e : Same H H') : ∀ (ds : List PyData) (vs : List V), DpAll K H vs ds → DpAll K H' vs ds
  | [], _, h => by cases h; exact .nil
  | d :: ds, _, h => by
    cases h with
    | cons h1 h2 => exact .cons (dp_same e d _ h1) (dpAll_same e ds _ h2)
end
mutual
theorem eqv_self : ∀ d : PyData, okD d = true → PyData.eqv d d = true
  | .str x, _ => by simp [PyData.eqv]
  | .list ds, h => by
    have h' : okAll ds = true := by simpa only [okD] using h
    have := eqvAll_self ds h'
    simpa [PyData.eqv] using this
  | .tuple ds, h => by
    have h' : okAll ds = true := by simpa only [okD] using h
    have := eqvAll_self ds h'
    simpa [PyData.eqv] using this
  | .none, h => by simp [okD] at h
  | .bool _, h => by simp [okD] at h
  | .int _, h => by simp [okD] at h
  | .dict _, h => by simp [okD] at h
theorem eqvAll_self : ∀ ds : List PyData, okAll ds = true → PyData.eqvAll ds ds = true
  | [], _ => by simp [PyData.eqvAll]
  | d :: ds, h => by
    have h' : (okD d && okAll ds) = true := by simpa only [okAll] using h
    obtain ⟨h1, h2⟩ := Bool.and_eq_true_iff.mp h'
    have e1 := eqv_self d h1
    have e2 := eqvAll_self ds h2
    simp [PyData.eqvAll, e1, e2]
end
/-! ### an error as a value -/
/-- an error of the class at C stands at a; its fields (at least) g -/
def ErrAt (C : Addr) (H : Hp) (a : Addr) (g : List (Str × V)) : Prop := (g = [] ∧ H a = some (exo a C none)) ∨ ∃ (d : Addr) (fs : List (Str × V)), H a = some (exo a C (some d)) ∧ H d = some (exd d fs) ∧ ∀ f v, g.lookup f = some v → fs.lookup f = some v
theorem ErrAt.same {C a : Addr} {H H' : Hp} {g : List (Str × V)} (h : ErrAt C H a g) (s : Same H H') : ErrAt C H' a g := by
  rcases h with ⟨e, h⟩ | ⟨d, fs, h1, h2, h3⟩
  · exact .inl ⟨e, s _ _ h⟩
  · exact .inr ⟨d, fs, s _ _ h1, s _ _ h2, h3⟩
/-- C.__init__ -/
def spErr (C : Addr) (cond : List V → Hp → Prop) (g : List V → List (Str × V)) : Sp := fun vs H Q _ => ∃ (a : Addr) (xs : List V), vs = .ref a :: xs ∧ cond xs H ∧ H a = some (exo a C none) ∧
  ∀ H', (∀ b o, H b = some o → b ≠ a → H' b = some o) → ErrAt C H' a (g xs) → Q .non H'
structure MkE (P : Program) (w : World) (K : PySem.W.Frag) (mg : Str → Option Value) (base : Heap) (x : Str) (C : Addr) (k : Nat) (ps : List Str) (cond : List V → Hp → Prop) (g : List V → List (Str × V)) : Prop where
  ex : ∃ (fI : Addr) (fd : FuncData), PySem.W.findIn K (.ref C) "__init__" = some (some (.ref fI)) ∧ PySem.W.typeIn K (.ref fI) = some (.type "function") ∧ FnOk P w K mg base CX0 k fI fd ps (spErr C cond g) ∧ Binds K fd ps []
  T : OexC K C
  g_ : mg x = some (.ref C)
section
variable {X : Cx} {x : Str} {C : Addr} {k : Nat} {ps : List Str} {cond : List V → Hp → Prop} {g : List V → List (Str × V)} {e : Expr} {es : List Expr} {ta : TA} {p pos : Pos}
theorem err_run {pins : List (Addr × Obj)} {σ : L2.St} {H1 : Hp} {s1 : Shared} {Q : VK} {vs : List V} {us : List Value} (M : MkE X.prog X.w X.K X.mg X.base x C k ps cond g) (hr : Room (k + 1) X.A) (I1 : Inv X pins σ H1 s1) (r1 : Vals vs us)
    (hz : vs.length ≤ 1000) (hc : ∀ H', Same H1 H' → cond vs H') (q : ∀ a H2, Same H1 H2 → ErrAt C H2 a (g vs) → Q (.ref a) H2) : wpAny (model X.prog X.w) X.A (call (.ref C) us) (EP X pins σ Q) X.xe s1 := by
  obtain ⟨fI, fd, iC, tI, F1, hb⟩ := M.ex
  obtain ⟨nm, qn, N, bs, bm, sn, sub, ab, col, dd, k0, k1, k2, k3, k5, hC, hbm⟩ := M.T.cls
  obtain ⟨hp, gs, dr, tk, os⟩ := s1
  have hsz : hp.objs.size ≤ hp.objs.size + 1 := Nat.le_succ _
  have hn : H1 (hp.objs.size + 1) = none := I1.hok.fresh hsz
  have kk : ∀ b o, hp.get? b = some o → ((hp.push (PySem.W.kdv_tup us)).push (PySem.HandSPX.excO C hp.objs.size)).get? b = some o := fun b o e => Heap.get?_push_of_some _ (Heap.get?_push_of_some _ e)
  have hget : ((hp.push (PySem.W.kdv_tup us)).push (PySem.HandSPX.excO C hp.objs.size)).get? (hp.objs.size + 1) = some (PySem.HandSPX.excO C hp.objs.size) := by heap_get
  have I2 : Inv X pins σ (upd H1 (hp.objs.size + 1) (exo (hp.objs.size + 1) C none)) ⟨(hp.push (PySem.W.kdv_tup us)).push (PySem.HandSPX.excO C hp.objs.size), gs, dr, tk, os⟩ :=
    I1.laid (t' := tk) (a := hp.objs.size + 1) (o := exo (hp.objs.size + 1) C none) (h' := (hp.push (PySem.W.kdv_tup us)).push (PySem.HandSPX.excO C hp.objs.size)) kk hsz (exo_ok hget)
  have hq : spErr C cond g (.ref (hp.objs.size + 1) :: vs) (upd H1 (hp.objs.size + 1) (exo (hp.objs.size + 1) C none)) (fun v H2 => v = .non ∧ Q (.ref (hp.objs.size + 1)) H2) (fun _ _ _ => False) :=
    ⟨_, vs, rfl, hc _ (same_upd hn), upd_same, fun H' hk he => ⟨rfl, q _ H' (fun b o hb => hk b o (by rw [upd_ne (ne_of_none hb hn)]; exact hb) (ne_of_none hb hn)) he⟩⟩
  have r2 : Vals (V.ref (hp.objs.size + 1) :: vs) (Value.ref (hp.objs.size + 1) :: us) := .cons rfl r1
  have hl : (Value.ref (hp.objs.size + 1) :: us ++ []).length = ps.length := by
    rw [List.append_nil]
    have e := r2.length
    rw [F1.len _ _ _ _ hq] at e
    exact e.symm
  have bind := hb _ (Value.ref (hp.objs.size + 1) :: us) I2.kIn hl
  rw [List.append_nil] at bind
  have hus : us.length ≤ sizeLine := by
    rw [← Paired.length r1, sizeLine_eq]
    omega
  refine wpAny_call (PySem.HandSPX.call_own F.excBase_ValueError (fun Y => PySem.HandSPX.refsVE_contains Y bm hbm) (I1.kIn _ _ hC) (PySem.W.looks_findIn I1.kIn iC) (fun self => PySem.W.bind_fn I1.kIn self tI) hus
    (codeAny_mono (F1.run _ X.stack _ _ ⟨Value.ref (hp.objs.size + 1) :: us, []⟩ (Value.ref (hp.objs.size + 1) :: us) _ _ (fun _ _ _ => False) (hr.make C us []) (I2.env0.make C us []) bind r2 hq) fun r s' hq' => ?_))
  cases r with
  | error er => exact pass0 pins σ _ _ er s' I2 hq'
  | ok fl =>
    cases fl with
    | ret u =>
      obtain ⟨v, H', J', rv, ev, q3⟩ := I2.after hq'
      subst ev
      exact ⟨rv, ⟨V.ref (hp.objs.size + 1), H', J', rfl, q3⟩⟩
    | next => exact False.elim hq'
    | brk => exact False.elim hq'
    | cont => exact False.elim hq'
def tErr (C : Addr) (cond : List V → Hp → Prop) (g : List V → List (Str × V)) (ta : TA) : TE := fun σ H Q => ta σ H fun vs H1 => vs.length ≤ 1000 ∧ (∀ H', Same H1 H' → cond vs H') ∧ ∀ a H2, Same H1 H2 → ErrAt C H2 a (g vs) → Q (.ref a) H2
theorem pe_err (M : MkE X.prog X.w X.K X.mg X.base x C k ps cond g) (hr : Room (k + 1) X.A) (hg : Gl X x) (ha : PA X (e :: es) ta) (hdb : (x == ("__debug__" : Str)) = false := by decide)
    (he : starEach (e :: es) X.env = (false, eval e X.env) :: starEach es X.env := by rfl) (hpl : (backTo pos (starEach es X.env)).any (·.1) = false := by rfl) : PE X (.Call (.Name x p) (e :: es) [] pos) (tErr C cond g ta) := by
  refine ⟨fun pins s σ H Q I h => ?_⟩
  refine wpAny_Call_Name_kw (ld_glob I hg M.g_ ?_ hdb)
  refine PySem.W.callWith_K (h₀ := X.base) I.ok.mod.kin M.T.kC (thn (ha.run pos pins s σ H _ I h) fun us s1 ⟨vs, H1, I1, r1, hz, hc, q⟩ => ⟨I1.kIn, ?_⟩) he hpl
  exact err_run M hr I1 r1 hz hc q
theorem pe_err0 (M : MkE X.prog X.w X.K X.mg X.base x C k ps cond g) (hr : Room (k + 1) X.A) (hg : Gl X x) (hdb : (x == ("__debug__" : Str)) = false := by decide) : PE X (.Call (.Name x p) [] [] pos) (tErr C cond g tNil) := by
  refine ⟨fun pins s σ H Q I h => ?_⟩
  refine wpAny_Call_Name_kw (ld_glob I hg M.g_ ?_ hdb)
  obtain ⟨hz, hc, q⟩ := h
  exact PySem.W.callWith_K0 I.kIn M.T.kC (err_run M hr I .nil hz hc q)
/-- isinstance(e, c), e an error of the class at C -/
def rIsO (K : PySem.W.Frag) (C : Addr) : List V → Hp → VK → Prop := fun xs H Q => ∃ (a : Addr) (g : List (Str × V)) (c : V) (cv : Value) (b : Bool), xs = [.ref a, c] ∧ ErrAt C H a g ∧ (∀ u, RelV c u → u = cv) ∧ PySem.W.kitOne K (.ref C) cv = some b ∧ Q (.bl b) H
theorem err_inst {C a : Addr} {H : Hp} {g : List (Str × V)} {pins : List (Addr × Obj)} {σ : L2.St} {s : Shared} (I : Inv X pins σ H s) (h : ErrAt C H a g) : ∃ oe od, PySem.W.InstAt s.heap a oe C od ∧ ∃ vs, oe.data = .fields vs := by
  rcases h with ⟨_, h⟩ | ⟨d, fs, h1, h2, _⟩
  · obtain ⟨t1, ho⟩ := exo_at I.hok h
    exact ⟨_, none, ⟨ho, rfl, rfl, trivial⟩, _, rfl⟩
  · obtain ⟨t1, ho⟩ := exo_at I.hok h1
    obtain ⟨mA, hns, rel⟩ := exd_at I.hok h2
    obtain ⟨od, hod, _⟩ := lookIn_ns hns
    exact ⟨_, some od, ⟨ho, rfl, rfl, hod⟩, _, rfl⟩
theorem call_isO (D : ExcC X.K C) : CallR X (.builtin "isinstance") (rIsO X.K C) := by
  intro pins s σ H xs us Q I r h
  obtain ⟨a, g, c, cv, b, rfl, he, hcv, e, q⟩ := h
  cases r with
  | cons rx rr =>
    cases rr with
    | cons rt rr =>
      cases rr
      cases rx
      have ec := hcv _ rt
      subst ec
      obtain ⟨oe, od, J, _⟩ := err_inst I he
      have hcl : (PySem.W.clsIn X.K C).isSome = true := by
        obtain ⟨cd, hc, _⟩ := PySem.W.any_some D.hd
        rw [hc]; rfl
      exact PySem.W.kia_one (PySem.W.kitx_exc hcl D.hg D.hk D.hs D.ha D.hn D.ht D.hm) I.kIn J e (fun z => nomatch z) fun tk => ⟨.bl b, H, I.kept (t' := tk) fun _ _ z => z, rfl, q⟩
/-- e.f -/
def tEf (K : PySem.W.Frag) (f : Str) (te : TE) : TE := fun σ H Q => te σ H fun x H1 => ∃ (a C : Addr) (g : List (Str × V)) (v : V), x = .ref a ∧ ErrAt C H1 a g ∧ XfC K C ∧ PySem.W.findIn K (.ref C) f = some none ∧ g.lookup f = some v ∧ Q v H1
theorem pe_ef {f : Str} {te : TE} (he : PE X e te) (hb : attributeBase e f X.env (eval e X.env) = eval e X.env := by rfl) : PE X (.Attribute e f pos) (tEf X.K f te) := by
  refine ⟨fun pins s σ H Q I h => ?_⟩
  refine attr_of hb (thn (he.run pins s σ H _ I h) fun u s1 hh => ?_)
  obtain ⟨x, H1, I1, rx, a, C, g, v, rfl, hE, T, hno, l, q⟩ := hh
  obtain rfl : u = Value.ref a := rx
  rcases hE with ⟨rfl, _⟩ | ⟨d, fs, h1, h2, h3⟩
  · cases l
  · obtain ⟨t1, ho⟩ := exo_at I1.hok h1
    obtain ⟨mA, hns, rel⟩ := exd_at I1.hok h2
    obtain ⟨od, hod, hl⟩ := lookIn_ns hns
    have hv := h3 f v l
    obtain ⟨u, hu, ru⟩ := RelO.some_of (v := v) (o := mA f) (by rw [← hv]; exact rel f)
    exact PySem.HandSPX.exc_get I1.kIn (od := some od) (x := a) ⟨ho, rfl, rfl, hod⟩ T.ga T.gg T.exC (PySem.W.findObj_own T.hdC hno rfl (by rw [hl, hu])) (handed_of ru) ⟨v, H1, I1.tok _, ru, q⟩
end
end Ke

namespace Ke
open PySem PySem.Spec PyProof.Rows L2 Kx Kr
/-- a text of few and plain signs -/
def Sht (z : Str) (n : Nat) : Prop := z.length ≤ n ∧ ∀ c ∈ z.cps.toList, c < 1114112
theorem Sht.le {z : Str} {n m : Nat} (h : Sht z n) (hn : n ≤ m) : Sht z m := ⟨Nat.le_trans h.1 hn, h.2⟩
theorem Sht.app {y z : Str} {n m : Nat} (h : Sht y n) (h' : Sht z m) : Sht (y ++ z) (n + m) := by
  refine ⟨?_, fun c hc => ?_⟩
  · have e : (y ++ z).length = y.length + z.length := Array.size_append
    rw [e]
    exact Nat.add_le_add h.1 h'.1
  · have hc' : c ∈ (y.cps ++ z.cps).toList := hc
    rw [Array.toList_append, List.mem_append] at hc'
    exact hc'.elim (h.2 c) (h'.2 c)
theorem Sht.sz {z : Str} {n : Nat} (h : Sht z n) (hn : n ≤ 100000) : z.length ≤ sizeLine := sz9 (Nat.le_trans h.1 hn)
theorem sht_of {z : Str} {n : Nat} (h1 : z.length ≤ n) (h2 : okD (.str z) = true) : Sht z n := by
  refine ⟨h1, fun c hc => ?_⟩
  have h' : z.cps.toList.all (fun c => decide (c < 1114112)) = true := by simpa only [okD] using h2
  exact of_decide_eq_true (List.all_eq_true.mp h' c hc)
theorem Sht.ok {z : Str} {n : Nat} (h : Sht z n) : okD (.str z) = true := by
  have h' : z.cps.toList.all (fun c => decide (c < 1114112)) = true := List.all_eq_true.mpr fun c hc => decide_eq_true (h.2 c hc)
  simpa only [okD] using h'
theorem rep_fold (x : Array Nat) : ∀ (n : Nat) (acc : Array Nat), ((List.replicate n x).foldl (· ++ ·) acc).size = acc.size + n * x.size ∧ ∀ c ∈ ((List.replicate n x).foldl (· ++ ·) acc).toList, c ∈ acc.toList ∨ c ∈ x.toList
  | 0, acc => ⟨by simp, fun c hc => .inl hc⟩
  | n + 1, acc => by
    rw [List.replicate_succ, List.foldl_cons]
    obtain ⟨h1, h2⟩ := rep_fold x n (acc ++ x)
    refine ⟨?_, fun c hc => ?_⟩
    · rw [h1, Array.size_append, Nat.succ_mul]
      omega
    · rcases h2 c hc with h | h
      · rw [Array.toList_append, List.mem_append] at h
        exact h
      · exact .inr h
/-- a text of one sign times a small number -/
def rRepS : R2 := fun x y H Q => ∃ (z : Str) (n : Int), x = .str z ∧ y = .int n ∧ z.length = 1 ∧ (∀ c ∈ z.cps.toList, c < 1114112) ∧ -1000 ≤ n ∧ n ≤ 1000 ∧ ∀ t : Str, Sht t n.toNat → Q (.str t) H
section
variable {X : Cx}
theorem op_repS : OpR X (binaryOp .Mult) rRepS := by
  intro pins s σ H x y v u Q I rx ry h
  obtain ⟨z, n, rfl, rfl, hz, hc, h1, h2, q⟩ := h
  obtain ⟨t, rfl⟩ := rx
  obtain ⟨t', rfl⟩ := ry
  have en : ((n.toNat : Nat) : Int) = n ∨ n < 0 := by omega
  refine PySem.P.mul_str (by rw [decide_eq_false (by omega), decide_eq_false (by omega)]; rfl) (fun hn _ => ?_) (fun hn _ => ?_) ?_
  · have hd : 1 ≤ (2 ^ 63 - 1 : Int) / n := by
      rw [Int.le_ediv_iff_mul_le (by omega)]
      omega
    rw [hz]
    have : ((1 : Nat) : Int) = 1 := rfl
    omega
  · rw [hz]
    exact decide_eq_false (Nat.not_lt.mpr (sz9 (by omega)))
  · by_cases hn : n < 1
    · rw [if_pos hn]
      refine ⟨by decide, .str Str.empty, H, I.tok _, ⟨_, rfl⟩, q _ ⟨Nat.zero_le _, ?_⟩⟩
      show ∀ c ∈ (Str.empty).cps.toList, c < 1114112
      decide +kernel
    · rw [if_neg hn]
      split
      · rename_i h1'
        exact ⟨.str z, H, I, ⟨t, rfl⟩, q _ ⟨by omega, hc⟩⟩
      · obtain ⟨e1, e2⟩ := rep_fold z.cps n.toNat #[]
        have hz' : z.cps.size = 1 := hz
        rw [hz'] at e1
        have e1' : ((List.replicate n.toNat z.cps).foldl (· ++ ·) #[]).size = n.toNat := by
          rw [e1]
          simp
        refine ⟨?_, .str _, H, I.tok _, ⟨_, rfl⟩, q _ ⟨Nat.le_of_eq e1', fun c hm => ?_⟩⟩
        · have hh : ((List.replicate n.toNat z.cps).foldl (· ++ ·) #[]).size ≤ sizeLine := by
            rw [e1']
            exact sz9 (by omega)
          exact hh
        · rcases e2 c hm with h | h
          · simp at h
          · exact hc c h
end
end Ke

/-! names by number, exactly; data of texts and of pairs of texts -/
namespace Kn
open PySem PySem.Spec PyProof.Rows L2 Kx Ke Kr
def repT (c n : Nat) : Str := ⟨(List.replicate n c).toArray⟩
theorem rep_foldl (c : Nat) : ∀ (n : Nat) (acc : Array Nat), (List.replicate n #[c]).foldl (· ++ ·) acc = acc ++ (List.replicate n c).toArray
  | 0, acc => by simp
  | n + 1, acc => by
    rw [List.replicate_succ, List.foldl_cons, rep_foldl c n, List.replicate_succ]
    apply Array.toList_inj.mp
    simp
/-- one sign times a number, exactly -/
def rRepE : R2 := fun x y H Q => ∃ (z : Str) (c : Nat) (n : Int), x = .str z ∧ y = .int n ∧ z.cps = #[c] ∧ -1000 ≤ n ∧ n ≤ 1000 ∧ Q (.str (repT c n.toNat)) H
theorem op_repE {X : Cx} : OpR X (binaryOp .Mult) rRepE := by
  intro pins s σ H x y v u Q I rx ry h
  obtain ⟨z, c, n, rfl, rfl, hz, h1, h2, q⟩ := h
  obtain ⟨t, rfl⟩ := rx
  obtain ⟨t', rfl⟩ := ry
  have hl : z.length = 1 := by show z.cps.size = 1; rw [hz]; rfl
  have hzE : z = ⟨#[c]⟩ := by cases z; cases hz; rfl
  refine PySem.P.mul_str (by rw [decide_eq_false (by omega), decide_eq_false (by omega)]; rfl) (fun hn _ => ?_) (fun hn _ => ?_) ?_
  · have hd : 1 ≤ (2 ^ 63 - 1 : Int) / n := by
      rw [Int.le_ediv_iff_mul_le (by omega)]
      omega
    rw [hl]
    have : ((1 : Nat) : Int) = 1 := rfl
    omega
  · rw [hl]
    exact decide_eq_false (Nat.not_lt.mpr (sz9 (by omega)))
  · by_cases hn : n < 1
    · rw [if_pos hn]
      have e : n.toNat = 0 := by omega
      rw [e] at q
      exact ⟨by decide, .str Str.empty, H, I.tok _, ⟨_, rfl⟩, q⟩
    · rw [if_neg hn]
      split
      · rename_i h1'
        have e : n = 1 := by
          rcases Bool.or_eq_true_iff.mp h1' with h | h
          · exact beq_iff_eq.mp h
          · exact absurd (beq_iff_eq.mp h) (by omega)
        subst e
        rw [hzE]
        exact ⟨.str ⟨#[c]⟩, H, I, ⟨t, rfl⟩, q⟩
      · have e : (⟨(List.replicate n.toNat z.cps).foldl (· ++ ·) #[]⟩ : Str) = repT c n.toNat := by
          rw [hz, rep_foldl]
          unfold repT
          simp
        rw [e]
        refine ⟨?_, .str _, H, I.tok _, ⟨_, rfl⟩, q⟩
        show (List.replicate n.toNat c).toArray.size ≤ sizeLine
        rw [List.size_toArray, List.length_replicate]
        exact sz9 (by omega)
/-! ### the names -/
def A26 : Str := "abcdefghijklmnopqrstuvwxyz"
def oneV (k st : Int) : Nat := A26.cps.toList.getD ((k * 7 + st / 4) % 26).toNat 0
def WS : List Str := ["write", "none", "read", "own", "close", "leads", "program", "to", "begin", "quit"]
def tS (n : Int) : Str := ((toString n : String) : Str)
def baseV (k st : Int) : Str := (⟨#[oneV k st]⟩ : Str) ++ tS (st / 4 % 10000)
def nameV (k st : Int) : Str :=
  if st % 4 = 1 ∧ st / 4 % 2 = 1 then WS.getD (k % 10).toNat "" ++ repT 50 (k / 10).toNat
  else if st % 4 = 3 ∧ st / 4 % 2 = 1 then repT 98 (k / 7).toNat ++ repT 97 (k % 7 + 1).toNat
  else if st % 4 = 1 then repT 113 (k % 3).toNat ++ ⟨#[oneV k st]⟩
  else if st % 4 = 2 then (if k % 4 = 3 then baseV k st ++ repT 120 (8 - ((baseV k st).length : Int)).toNat else baseV k st ++ repT 120 (k % 4).toNat)
  else if st % 4 = 3 then ("m" : Str) ++ tS (100 - 7 * k)
  else ⟨#[oneV k st]⟩
theorem a26_len : A26.cps.toList.length = 26 := by decide +kernel
theorem a26_nd : A26.cps.toList.Nodup := by decide +kernel
theorem a26_lt : ∀ c ∈ A26.cps.toList, c < 1114112 := by decide +kernel
theorem at_26 (k st : Int) : atI A26.cps.toList ((k * 7 + st / 4) % 26) = some (oneV k st) := by
  obtain ⟨j, hj⟩ : ∃ j : Nat, (k * 7 + st / 4) % 26 = (j : Int) := ⟨((k * 7 + st / 4) % 26).toNat, by omega⟩
  have hl : j < A26.cps.toList.length := by rw [a26_len]; omega
  unfold oneV
  rw [hj, Int.toNat_natCast]
  refine atI_nat ?_
  rw [List.getD_eq_getElem?_getD, List.getElem?_eq_getElem hl]
  rfl
theorem nd_inj {l : List Nat} (h : l.Nodup) {i j : Nat} (hi : i < l.length) (hj : j < l.length) (e : l[i] = l[j]) : i = j := by
  rcases Nat.lt_trichotomy i j with g | g | g
  · exact absurd e (List.pairwise_iff_getElem.mp h i j hi hj g)
  · exact g
  · exact absurd e.symm (List.pairwise_iff_getElem.mp h j i hj hi g)
theorem one_inj {k k' st : Int} (h0 : 0 ≤ k) (h1 : k < 16) (h0' : 0 ≤ k') (h1' : k' < 16) (h : oneV k st = oneV k' st) : k = k' := by
  have hl : ((k * 7 + st / 4) % 26).toNat < A26.cps.toList.length := by rw [a26_len]; omega
  have hl' : ((k' * 7 + st / 4) % 26).toNat < A26.cps.toList.length := by rw [a26_len]; omega
  unfold oneV at h
  rw [List.getD_eq_getElem?_getD, List.getD_eq_getElem?_getD, List.getElem?_eq_getElem hl, List.getElem?_eq_getElem hl'] at h
  have e := nd_inj a26_nd hl hl' h
  omega
theorem one_lt (k st : Int) : oneV k st < 1114112 := by
  have hl : ((k * 7 + st / 4) % 26).toNat < A26.cps.toList.length := by rw [a26_len]; omega
  unfold oneV
  rw [List.getD_eq_getElem?_getD, List.getElem?_eq_getElem hl]
  exact a26_lt _ (List.getElem_mem hl)
theorem app_cps (a b : Str) : (a ++ b).cps.toList = a.cps.toList ++ b.cps.toList := by
  show (a.cps ++ b.cps).toList = _
  rw [Array.toList_append]
theorem rep_cps (c n : Nat) : (repT c n).cps.toList = List.replicate n c := by
  unfold repT
  simp
theorem str_ext {a b : Str} (h : a.cps.toList = b.cps.toList) : a = b := by
  cases a
  cases b
  have := Array.toList_inj.mp h
  simp at this
  rw [this]
theorem digits_dig (n : Nat) : ∀ d ∈ Nat.toDigits 10 n, d.isDigit = true := fun d hd => Nat.isDigit_of_mem_toDigits (by decide) (by decide) hd
theorem tS_nat (n : Nat) : (tS (n : Int)).cps.toList = (Nat.toDigits 10 n).map Char.toNat := by
  have e : tS (n : Int) = ⟨((Nat.toDigits 10 n).map Char.toNat).toArray⟩ := text_ofNat n
  rw [e]
/-- the first sign of a number is a digit -/
theorem tS_head (n : Nat) : ∃ c r, (tS (n : Int)).cps.toList = c :: r ∧ 48 ≤ c ∧ c ≤ 57 := by
  rw [tS_nat]
  cases h : Nat.toDigits 10 n with
  | nil =>
    have := Nat.length_toDigits_pos (b := 10) (n := n)
    rw [h] at this
    simp at this
  | cons d r =>
    refine ⟨d.toNat, r.map Char.toNat, rfl, ?_⟩
    have hd := digits_dig n d (by rw [h]; exact List.mem_cons_self)
    simp only [Char.isDigit, Bool.and_eq_true, decide_eq_true_eq] at hd
    obtain ⟨a, b⟩ := hd
    exact ⟨a, b⟩
theorem tS_sht {n : Nat} (h : n < 10 ^ 10) : Sht (tS (n : Int)) 10 := by
  refine ⟨?_, fun c hc => ?_⟩
  · show (tS (n : Int)).cps.size ≤ 10
    rw [← Array.length_toList, tS_nat, List.length_map]
    exact digits10_le (by decide) h
  · rw [tS_nat] at hc
    obtain ⟨d, _, rfl⟩ := List.mem_map.mp hc
    have h2 : d.val.toNat < 0xd800 ∨ (0xdfff < d.val.toNat ∧ d.val.toNat < 0x110000) := d.valid
    show d.val.toNat < 1114112
    omega
/-- finite kinds -/
def ws10 (k : Nat) : Str := WS.getD (k % 10) "" ++ repT 50 (k / 10)
def ba (k : Nat) : Str := repT 98 (k / 7) ++ repT 97 (k % 7 + 1)
def m7 (k : Nat) : Str := ("m" : Str) ++ tS (100 - 7 * (k : Int))
def finB (f : Nat → Str) : Bool := (List.range 16).all fun a => decide ((f a).length ≤ 12) && decide (f a ≠ "zz9") && ((f a).cps.toList.all fun c => decide (c < 1114112)) && (List.range 16).all fun b => decide (f a = f b → a = b)
theorem fin_ws : finB ws10 = true := by decide +kernel
theorem fin_ba : finB ba = true := by decide +kernel
theorem fin_m7 : finB m7 = true := by decide +kernel
theorem fin_of {f : Nat → Str} (h : finB f = true) {a : Nat} (ha : a < 16) : Sht (f a) 12 ∧ f a ≠ "zz9" ∧ ∀ b, b < 16 → f a = f b → a = b := by
  have h1 := List.all_eq_true.mp h a (List.mem_range.mpr ha)
  simp only [Bool.and_eq_true] at h1
  obtain ⟨⟨⟨a1, a2⟩, a3⟩, a4⟩ := h1
  exact ⟨⟨of_decide_eq_true a1, fun c hc => of_decide_eq_true (List.all_eq_true.mp a3 c hc)⟩, of_decide_eq_true a2, fun b hb => of_decide_eq_true (List.all_eq_true.mp a4 b (List.mem_range.mpr hb))⟩
theorem sht_rep {c n : Nat} (h : c < 1114112) : Sht (repT c n) n := by
  refine ⟨?_, fun d hd => ?_⟩
  · show (repT c n).cps.size ≤ n
    rw [← Array.length_toList, rep_cps, List.length_replicate]
    exact Nat.le_refl _
  · rw [rep_cps] at hd
    rw [(List.mem_replicate.mp hd).2]
    exact h
theorem sht_one (k st : Int) : Sht (⟨#[oneV k st]⟩ : Str) 1 := ⟨Nat.le_refl _, fun d hd => by
  have e : d = oneV k st := by simpa using hd
  rw [e]
  exact one_lt k st⟩
theorem base_len (k st : Int) : Sht (baseV k st) 11 := by
  unfold baseV
  obtain ⟨m, hm⟩ : ∃ m : Nat, st / 4 % 10000 = (m : Int) := ⟨(st / 4 % 10000).toNat, by omega⟩
  rw [hm]
  exact (sht_one k st).app (tS_sht (n := m) (by omega))
theorem zz9 : ("zz9" : Str).cps.toList = [122, 122, 57] := by decide +kernel
theorem name_facts {k st : Int} (h0 : 0 ≤ k) (h1 : k < 16) : Sht (nameV k st) 20 ∧ nameV k st ≠ "zz9" ∧ ∀ k', 0 ≤ k' → k' < 16 → nameV k st = nameV k' st → k = k' := by
  obtain ⟨a, rfl⟩ : ∃ a : Nat, k = (a : Int) := ⟨k.toNat, by omega⟩
  have ha : a < 16 := by omega
  unfold nameV
  by_cases c1 : st % 4 = 1 ∧ st / 4 % 2 = 1
  · rw [if_pos c1]
    obtain ⟨f1, f2, f3⟩ := fin_of fin_ws ha
    have e : ∀ b : Nat, WS.getD ((b : Int) % 10).toNat "" ++ repT 50 ((b : Int) / 10).toNat = ws10 b := fun b => by
      unfold ws10
      rw [show ((b : Int) % 10).toNat = b % 10 by omega, show ((b : Int) / 10).toNat = b / 10 by omega]
    rw [e]
    refine ⟨f1.le (by decide), f2, fun k' g0 g1 h => ?_⟩
    obtain ⟨b, rfl⟩ : ∃ b : Nat, k' = (b : Int) := ⟨k'.toNat, by omega⟩
    rw [if_pos c1, e] at h
    have := f3 b (by omega) h
    omega
  rw [if_neg c1]
  by_cases c2 : st % 4 = 3 ∧ st / 4 % 2 = 1
  · rw [if_pos c2]
    obtain ⟨f1, f2, f3⟩ := fin_of fin_ba ha
    have e : ∀ b : Nat, repT 98 ((b : Int) / 7).toNat ++ repT 97 ((b : Int) % 7 + 1).toNat = ba b := fun b => by
      unfold ba
      rw [show ((b : Int) / 7).toNat = b / 7 by omega, show ((b : Int) % 7 + 1).toNat = b % 7 + 1 by omega]
    rw [e]
    refine ⟨f1.le (by decide), f2, fun k' g0 g1 h => ?_⟩
    obtain ⟨b, rfl⟩ : ∃ b : Nat, k' = (b : Int) := ⟨k'.toNat, by omega⟩
    rw [if_neg c1, if_pos c2, e] at h
    have := f3 b (by omega) h
    omega
  rw [if_neg c2]
  by_cases c3 : st % 4 = 1
  · rw [if_pos c3]
    have lt3 : ((a : Int) % 3).toNat ≤ 2 := by omega
    refine ⟨((sht_rep (by decide)).app (sht_one _ _)).le (by omega), fun h => ?_, fun k' g0 g1 h => ?_⟩
    · have h2 := congrArg (fun z : Str => z.cps.toList) h
      simp only [app_cps, rep_cps, zz9] at h2
      match ha3 : ((a : Int) % 3).toNat, lt3 with
      | 0, _ => rw [ha3] at h2; simp at h2
      | 1, _ => rw [ha3] at h2; simp at h2
      | 2, _ => rw [ha3] at h2; simp [List.replicate] at h2
    · rw [if_neg c1, if_neg c2, if_pos c3] at h
      have h2 := congrArg (fun z : Str => z.cps.toList.getLast?) h
      simp only [app_cps] at h2
      have h3 : oneV (a : Int) st = oneV k' st := by simpa using h2
      exact one_inj h0 h1 g0 g1 h3
  rw [if_neg c3]
  by_cases c4 : st % 4 = 2
  · rw [if_pos c4]
    have hb := base_len (a : Int) st
    have hd : ∀ b : Int, (baseV b st).cps.toList.head? = some (oneV b st) := fun b => by
      unfold baseV
      rw [app_cps]
      rfl
    have hz : ∀ x : Str, baseV (a : Int) st ++ x ≠ "zz9" := fun x h => by
      have h2 := congrArg (fun z : Str => z.cps.toList) h
      obtain ⟨m, hm⟩ : ∃ m : Nat, st / 4 % 10000 = (m : Int) := ⟨(st / 4 % 10000).toNat, by omega⟩
      obtain ⟨c, r, e, g1, g2⟩ := tS_head m
      simp only [baseV, app_cps, zz9, hm, e] at h2
      have h3 : c = 122 := by
        simp only [List.cons_append, List.nil_append] at h2
        injection h2 with _ h2
        injection h2 with h2 _
      omega
    have hi : ∀ (k' : Int) (x y : Str), 0 ≤ k' → k' < 16 → baseV (a : Int) st ++ x = baseV k' st ++ y → (a : Int) = k' := fun k' x y g0 g1 h => by
      have h2 := congrArg (fun z : Str => z.cps.toList.head?) h
      simp only [app_cps, List.head?_append, hd] at h2
      exact one_inj h0 h1 g0 g1 (by simpa using h2)
    refine ⟨?_, ?_, fun k' g0 g1 h => ?_⟩
    · split
      · exact (hb.app (sht_rep (c := 120) (by decide))).le (by omega)
      · exact (hb.app (sht_rep (c := 120) (by decide))).le (by omega)
    · split <;> exact hz _
    · rw [if_neg c1, if_neg c2, if_neg c3, if_pos c4] at h
      split at h <;> split at h <;> exact hi _ _ _ g0 g1 h
  rw [if_neg c4]
  by_cases c5 : st % 4 = 3
  · rw [if_pos c5]
    obtain ⟨f1, f2, f3⟩ := fin_of fin_m7 ha
    refine ⟨f1.le (by decide), f2, fun k' g0 g1 h => ?_⟩
    obtain ⟨b, rfl⟩ : ∃ b : Nat, k' = (b : Int) := ⟨k'.toNat, by omega⟩
    rw [if_neg c1, if_neg c2, if_neg c3, if_neg c4, if_pos c5] at h
    have := f3 b (by omega) h
    omega
  · rw [if_neg c5]
    refine ⟨(sht_one _ _).le (by decide), fun h => ?_, fun k' g0 g1 h => ?_⟩
    · have h2 := congrArg (fun z : Str => z.cps.toList) h
      rw [zz9] at h2
      simp at h2
    · rw [if_neg c1, if_neg c2, if_neg c3, if_neg c4, if_neg c5] at h
      have h2 := congrArg (fun z : Str => z.cps.toList) h
      exact one_inj h0 h1 g0 g1 (by simpa using h2)
/-! ### data -/
def tD (zs : List Str) : List PyData := zs.map PyData.str
def kPr (p : Str × Str) : PyData := .tuple [.str p.1, .str p.2]
theorem str_ok {z : Str} {n : Nat} (h : Sht z n) : PyData.strOk z = true := by
  unfold PyData.strOk
  rw [Array.all_eq_true']
  intro c hc
  exact decide_eq_true (h.2 c (by simpa using hc))
theorem eqv_txt (a b : Str) : PyData.eqv (.str a) (.str b) = decide (a = b) := by
  simp only [PyData.eqv]
  by_cases h : a = b
  · rw [h, decide_eq_true rfl]; exact beq_self_eq_true b
  · rw [decide_eq_false h]; exact beq_eq_false_iff_ne.mpr h
theorem eqv_txts : ∀ xs ys : List Str, PyData.eqvAll (tD xs) (tD ys) = decide (xs = ys)
  | [], [] => by simp [tD, PyData.eqvAll]
  | [], y :: ys => by simp [tD, PyData.eqvAll]
  | x :: xs, [] => by simp [tD, PyData.eqvAll]
  | x :: xs, y :: ys => by
    have h := eqv_txts xs ys
    simp only [tD] at h
    simp only [tD, List.map_cons, PyData.eqvAll, h, eqv_txt, List.cons.injEq, Bool.decide_and]
theorem eqv_pr (p q : Str × Str) : PyData.eqv (kPr p) (kPr q) = decide (p = q) := by
  simp only [kPr, PyData.eqv, PyData.eqvAll, Bool.and_true]
  have h1 := eqv_txt p.1 q.1
  have h2 := eqv_txt p.2 q.2
  simp only [PyData.eqv] at h1 h2
  rw [h1, h2, ← Bool.decide_and]
  exact decide_eq_decide.mpr (Prod.ext_iff.symm)
theorem eqv_prs : ∀ xs ys : List (Str × Str), PyData.eqvAll (xs.map kPr) (ys.map kPr) = decide (xs = ys)
  | [], [] => by simp [PyData.eqvAll]
  | [], y :: ys => by simp [PyData.eqvAll]
  | x :: xs, [] => by simp [PyData.eqvAll]
  | x :: xs, y :: ys => by simp only [List.map_cons, PyData.eqvAll, eqv_prs xs ys, eqv_pr, List.cons.injEq, Bool.decide_and]
theorem any_pr (xs : List (Str × Str)) (p : Str × Str) : ((xs.map kPr).any fun z => PyData.eqv z (kPr p)) = decide (p ∈ xs) := by
  rw [Bool.eq_iff_iff, List.any_map, List.any_eq_true, decide_eq_true_iff]
  constructor
  · rintro ⟨y, hy, e⟩
    simp only [Function.comp_apply, eqv_pr, decide_eq_true_eq] at e
    exact e ▸ hy
  · intro h
    exact ⟨p, h, by simp only [Function.comp_apply, eqv_pr, decide_true]⟩
theorem lay_txts : ∀ {xs : List Str} {n : Nat}, (∀ x ∈ xs, Sht x n) → PyData.canLayAll0 (tD xs) = true
  | [], _, _ => rfl
  | x :: xs, n, h => by
    have := lay_txts (xs := xs) (n := n) fun y hy => h y (List.mem_cons_of_mem _ hy)
    simp only [tD] at this
    simp only [tD, List.map_cons, PyData.canLayAll0, PyData.canLay0, str_ok (h x List.mem_cons_self), this]
    decide
theorem dep_txts : ∀ xs : List Str, PyData.depthAll (tD xs) = 0
  | [] => rfl
  | x :: xs => by
    have := dep_txts xs
    simp only [tD] at this
    simp only [tD, List.map_cons, PyData.depthAll, PyData.depth, this, Nat.max_self]
theorem shp_txts {xs : List Str} {n : Nat} (h : ∀ x ∈ xs, Sht x n) : SeqAt.shaped (.list (tD xs)) = true := by
  unfold SeqAt.shaped
  simp only [PyData.canLay0, PyData.depth, lay_txts h, dep_txts, Bool.true_and]
  decide
theorem lay_prs : ∀ {xs : List (Str × Str)} {n : Nat}, (∀ x ∈ xs, Sht x.1 n ∧ Sht x.2 n) → PyData.canLayAll0 (xs.map kPr) = true
  | [], _, _ => rfl
  | x :: xs, n, h => by
    have h1 := h x List.mem_cons_self
    have h2 := lay_prs (xs := xs) (n := n) fun y hy => h y (List.mem_cons_of_mem _ hy)
    simp only [List.map_cons, PyData.canLayAll0, kPr, PyData.canLay0, Bool.and_true]
    rw [str_ok h1.1, str_ok h1.2]
    simpa only [kPr, Bool.true_and] using h2
theorem dep_prs : ∀ xs : List (Str × Str), PyData.depthAll (xs.map kPr) ≤ 1
  | [] => by decide
  | x :: xs => by
    have := dep_prs xs
    simp only [List.map_cons, PyData.depthAll, kPr, PyData.depth] at this ⊢
    omega
theorem shp_prs {xs : List (Str × Str)} {n : Nat} (h : ∀ x ∈ xs, Sht x.1 n ∧ Sht x.2 n) : SeqAt.shaped (.list (xs.map kPr)) = true := by
  unfold SeqAt.shaped
  rw [Bool.and_eq_true]
  refine ⟨by simp only [PyData.canLay0, lay_prs h], decide_eq_true ?_⟩
  have := dep_prs xs
  simp only [PyData.depth]
  omega
theorem shp_pr {p : Str × Str} {n : Nat} (h : Sht p.1 n ∧ Sht p.2 n) : SeqAt.shaped (kPr p) = true := by
  unfold SeqAt.shaped
  simp only [kPr, PyData.canLay0, PyData.canLayAll0, PyData.depth, PyData.depthAll]
  rw [str_ok h.1, str_ok h.2]
  decide
theorem dp_txts {K : PySem.W.Frag} {H : Hp} : ∀ xs : List Str, DpAll K H (xs.map V.str) (tD xs)
  | [] => .nil
  | x :: r => .cons (.str x) (dp_txts r)
end Kn

/-! walks, a search by paths, a search by levels -/
namespace Kg
variable {α : Type} [DecidableEq α]
theorem nd_le : ∀ {l m : List α}, l.Nodup → (∀ x ∈ l, x ∈ m) → l.length ≤ m.length
  | [], m, _, _ => Nat.zero_le _
  | x :: l, m, h, hs => by
    obtain ⟨h1, h2⟩ := List.nodup_cons.mp h
    have hx : x ∈ m := hs x List.mem_cons_self
    have h3 := nd_le (l := l) (m := m.erase x) h2 fun y hy => (List.mem_erase_of_ne (fun e : y = x => h1 (by rw [← e]; exact hy))).mpr (hs y (List.mem_cons_of_mem _ hy))
    rw [List.length_erase_of_mem hx] at h3
    have := List.length_pos_of_mem hx
    rw [List.length_cons]
    omega
inductive Wk (arcs : List (α × α)) (s : α) : List α → α → Prop
  | one : Wk arcs s [s] s
  | snoc {p : List α} {x y : α} : Wk arcs s p x → (x, y) ∈ arcs → Wk arcs s (p ++ [y]) y
theorem Wk.last {arcs : List (α × α)} {s x : α} {p : List α} (h : Wk arcs s p x) : p.getLast? = some x := by
  cases h with
  | one => rfl
  | snoc h hm => simp
theorem Wk.pos {arcs : List (α × α)} {s x : α} {p : List α} (h : Wk arcs s p x) : 1 ≤ p.length := by
  cases h with
  | one => exact Nat.le_refl _
  | snoc h hm => simp
theorem Wk.head {arcs : List (α × α)} {s x : α} {p : List α} (h : Wk arcs s p x) : p.head? = some s := by
  induction h with
  | one => rfl
  | snoc h hm ih => rw [List.head?_append, ih]; rfl
theorem Wk.one_eq {arcs : List (α × α)} {s x : α} {p : List α} (h : Wk arcs s p x) (hl : p.length ≤ 1) : x = s := by
  cases h with
  | one => rfl
  | snoc h hm =>
    have := h.pos
    rw [List.length_append, List.length_singleton] at hl
    omega
theorem Wk.mem {arcs : List (α × α)} {s x : α} {p : List α} (h : Wk arcs s p x) : ∀ y ∈ p, y = s ∨ ∃ z, (z, y) ∈ arcs := by
  induction h with
  | one => intro y hy; exact .inl (List.mem_singleton.mp hy)
  | snoc h hm ih =>
    intro y hy
    rcases List.mem_append.mp hy with hy | hy
    · exact ih y hy
    · rw [List.mem_singleton.mp hy]
      exact .inr ⟨_, hm⟩
/-- arcs lead from each to the next -/
theorem Wk.arcs {arcs : List (α × α)} {s x : α} {p : List α} (h : Wk arcs s p x) : ∀ (i : Nat) (a b : α), p[i]? = some a → p[i + 1]? = some b → (a, b) ∈ arcs := by
  induction h with
  | one => intro i a b h1 h2; simp at h2
  | @snoc p x y h hm ih =>
    intro i a b h1 h2
    by_cases hi : i + 1 < p.length
    · rw [List.getElem?_append_left (by omega)] at h1
      rw [List.getElem?_append_left hi] at h2
      exact ih i a b h1 h2
    · have hlen := (List.getElem?_eq_some_iff.mp h2).1
      rw [List.length_append, List.length_singleton] at hlen
      have e : i + 1 = p.length := by omega
      rw [List.getElem?_append_right (by omega), show i + 1 - p.length = 0 by omega] at h2
      rw [List.getElem?_append_left (by omega)] at h1
      have hl := h.last
      rw [List.getLast?_eq_getElem?, show p.length - 1 = i by omega, h1] at hl
      have e1 : a = x := Option.some.inj hl
      have e2 : y = b := by simpa using h2
      rw [e1, ← e2]
      exact hm
def Sh (arcs : List (α × α)) (s : α) (goals p : List α) : Prop := (∃ g, g ∈ goals ∧ Wk arcs s p g) ∧ p.Nodup ∧ ∀ q h, Wk arcs s q h → h ∈ goals → p.length ≤ q.length
def NoW (arcs : List (α × α)) (s : α) (goals : List α) : Prop := ∀ q h, Wk arcs s q h → h ∉ goals
/-! ### by paths -/
structure BI (arcs : List (α × α)) (s : α) (goals : List α) (ps : List (List α)) (es : List α) (k : Nat) : Prop where
  len : es.length = ps.length
  wk : ∀ (i : Nat) (p : List α), ps[i]? = some p → ∃ e, es[i]? = some e ∧ Wk arcs s p e ∧ p.Nodup ∧ ∀ x ∈ p, x ∈ es
  nd : es.Nodup
  zero : ps[0]? = some [s]
  mono : ∀ (i j : Nat) (p q : List α), i ≤ j → ps[i]? = some p → ps[j]? = some q → p.length ≤ q.length
  far : ∀ (j : Nat) (p q : List α), ps[k]? = some p → ps[j]? = some q → q.length ≤ p.length + 1
  done : ∀ (i : Nat) (p : List α) (e : α), i < k → ps[i]? = some p → es[i]? = some e → e ∉ goals ∧ ∀ y, (e, y) ∈ arcs → ∃ (j : Nat) (q : List α), ps[j]? = some q ∧ es[j]? = some y ∧ q.length ≤ p.length + 1
  le : k ≤ ps.length
theorem bi_start (arcs : List (α × α)) (s : α) (goals : List α) : BI arcs s goals [[s]] [s] 0 where
  len := rfl
  wk := fun i p h => by
    match i, h with
    | 0, h =>
      have e : [s] = p := by simpa using h
      subst e
      exact ⟨s, rfl, .one, by simp, fun x hx => hx⟩
    | i + 1, h => simp at h
  nd := by simp
  zero := rfl
  mono := fun i j p q hij h1 h2 => by
    match i, j, h1, h2 with
    | 0, 0, h1, h2 => rw [h1] at h2; rw [Option.some.inj h2]; exact Nat.le_refl _
    | i + 1, _, h1, _ => simp at h1
    | 0, j + 1, _, h2 => simp at h2
  far := fun j p q h1 h2 => by
    match j, h2 with
    | 0, h2 => rw [h1] at h2; rw [Option.some.inj h2]; omega
    | j + 1, h2 => simp at h2
  done := fun i p e h => absurd h (Nat.not_lt_zero i)
  le := Nat.zero_le _
theorem BI.bound {arcs : List (α × α)} {s : α} {goals : List α} {ps : List (List α)} {es : List α} {k : Nat} (h : BI arcs s goals ps es k) : ps.length ≤ arcs.length + 1 := by
  rw [← h.len]
  have h1 := nd_le (l := es) (m := s :: arcs.map (·.2)) h.nd fun x hx => by
    obtain ⟨i, hi⟩ := List.mem_iff_getElem?.mp hx
    have hl := (List.getElem?_eq_some_iff.mp hi).1
    rw [h.len] at hl
    obtain ⟨e, h1, h2, h3, h4⟩ := h.wk i ps[i] (List.getElem?_eq_getElem hl)
    rw [hi] at h1
    rw [Option.some.inj h1]
    rcases h2.mem e (by have := h2.last; exact List.mem_of_getLast? this) with h | ⟨z, hz⟩
    · rw [h]; exact List.mem_cons_self
    · exact List.mem_cons_of_mem _ (List.mem_map.mpr ⟨_, hz, rfl⟩)
  rw [List.length_cons, List.length_map] at h1
  exact h1
theorem BI.path_le {arcs : List (α × α)} {s : α} {goals : List α} {ps : List (List α)} {es : List α} {k i : Nat} {p : List α} (h : BI arcs s goals ps es k) (hp : ps[i]? = some p) : p.length ≤ arcs.length + 1 := by
  obtain ⟨e, h1, h2, h3, h4⟩ := h.wk i p hp
  have := nd_le h3 h4
  rw [h.len] at this
  exact Nat.le_trans this h.bound
/-- one more path -/
theorem BI.add {arcs : List (α × α)} {s : α} {goals : List α} {ps : List (List α)} {es : List α} {k : Nat} {p0 : List α} {e0 y : α} (h : BI arcs s goals ps es k) (hp : ps[k]? = some p0) (he : es[k]? = some e0) (hy : y ∉ es) (ha : (e0, y) ∈ arcs) :
    BI arcs s goals (ps ++ [p0 ++ [y]]) (es ++ [y]) k := by
  obtain ⟨e1, g1, g2, g3, g4⟩ := h.wk k p0 hp
  have ee : e1 = e0 := Option.some.inj (g1.symm.trans he)
  subst ee
  have hk : k < ps.length := (List.getElem?_eq_some_iff.mp hp).1
  have old : ∀ {i : Nat} {q : List α}, (ps ++ [p0 ++ [y]])[i]? = some q → (i < ps.length ∧ ps[i]? = some q) ∨ (i = ps.length ∧ q = p0 ++ [y]) := fun {i q} hq => by
    by_cases hi : i < ps.length
    · rw [List.getElem?_append_left hi] at hq
      exact .inl ⟨hi, hq⟩
    · have hl := (List.getElem?_eq_some_iff.mp hq).1
      rw [List.length_append, List.length_singleton] at hl
      have e : i = ps.length := by omega
      rw [e, List.getElem?_append_right (Nat.le_refl _), Nat.sub_self] at hq
      exact .inr ⟨e, by simpa using hq.symm⟩
  refine ⟨by rw [List.length_append, List.length_append, h.len, List.length_singleton, List.length_singleton], fun i q hq => ?_, ?_, ?_, fun i j p q hij h1 h2 => ?_, fun j p q h1 h2 => ?_, fun i p e hi h1 h2 => ?_, by rw [List.length_append]; have := h.le; omega⟩
  · rcases old hq with ⟨hi, hq⟩ | ⟨rfl, rfl⟩
    · obtain ⟨e, a1, a2, a3, a4⟩ := h.wk i q hq
      exact ⟨e, by rw [List.getElem?_append_left (by rw [h.len]; exact hi)]; exact a1, a2, a3, fun x hx => List.mem_append_left _ (a4 x hx)⟩
    · refine ⟨y, by rw [← h.len]; simp, g2.snoc ha, ?_, fun x hx => ?_⟩
      · rw [List.nodup_append]
        refine ⟨g3, by simp, fun a ha' b hb e => ?_⟩
        rw [List.mem_singleton.mp hb] at e
        exact hy (e ▸ g4 a ha')
      · rcases List.mem_append.mp hx with hx | hx
        · exact List.mem_append_left _ (g4 x hx)
        · exact List.mem_append_right _ hx
  · rw [List.nodup_append]
    refine ⟨h.nd, by simp, fun a ha' b hb e => ?_⟩
    rw [List.mem_singleton.mp hb] at e
    exact hy (e ▸ ha')
  · rw [List.getElem?_append_left (by omega)]
    exact h.zero
  · rcases old h2 with ⟨hj, h2⟩ | ⟨rfl, rfl⟩
    · rcases old h1 with ⟨hi, h1⟩ | ⟨rfl, rfl⟩
      · exact h.mono i j p q hij h1 h2
      · omega
    · rw [List.length_append, List.length_singleton]
      rcases old h1 with ⟨hi, h1⟩ | ⟨_, rfl⟩
      · exact h.far i p0 p hp h1
      · rw [List.length_append, List.length_singleton]; exact Nat.le_refl _
  · rw [List.getElem?_append_left hk, hp] at h1
    rw [← Option.some.inj h1]
    rcases old h2 with ⟨hj, h2⟩ | ⟨rfl, rfl⟩
    · exact h.far j p0 q hp h2
    · rw [List.length_append, List.length_singleton]; exact Nat.le_refl _
  · rw [List.getElem?_append_left (by omega)] at h1
    rw [List.getElem?_append_left (by rw [h.len]; omega)] at h2
    obtain ⟨a1, a2⟩ := h.done i p e hi h1 h2
    refine ⟨a1, fun z hz => ?_⟩
    obtain ⟨j, q, b1, b2, b3⟩ := a2 z hz
    have hj := (List.getElem?_eq_some_iff.mp b1).1
    exact ⟨j, q, by rw [List.getElem?_append_left hj]; exact b1, by rw [List.getElem?_append_left (by rw [h.len]; exact hj)]; exact b2, b3⟩
/-- the next turn -/
theorem BI.next {arcs : List (α × α)} {s : α} {goals : List α} {ps : List (List α)} {es : List α} {k : Nat} {p0 : List α} {e0 : α} (h : BI arcs s goals ps es k) (hp : ps[k]? = some p0) (he : es[k]? = some e0) (hg : e0 ∉ goals) (ha : ∀ y, (e0, y) ∈ arcs → y ∈ es) :
    BI arcs s goals ps es (k + 1) := by
  have hk : k < ps.length := (List.getElem?_eq_some_iff.mp hp).1
  refine ⟨h.len, h.wk, h.nd, h.zero, h.mono, fun j p q h1 h2 => ?_, fun i p e hi h1 h2 => ?_, hk⟩
  · have a := h.far j p0 q hp h2
    have b := h.mono k (k + 1) p0 p (Nat.le_succ _) hp h1
    omega
  · by_cases hik : i < k
    · exact h.done i p e hik h1 h2
    · have e1 : i = k := by omega
      subst e1
      rw [hp] at h1
      rw [he] at h2
      rw [← Option.some.inj h1, ← Option.some.inj h2]
      refine ⟨hg, fun y hy => ?_⟩
      obtain ⟨j, hj⟩ := List.mem_iff_getElem?.mp (ha y hy)
      have hl := (List.getElem?_eq_some_iff.mp hj).1
      rw [h.len] at hl
      exact ⟨j, ps[j], List.getElem?_eq_getElem hl, hj, h.far j p0 _ hp (List.getElem?_eq_getElem hl)⟩
theorem BI.start0 {arcs : List (α × α)} {s : α} {goals : List α} {ps : List (List α)} {es : List α} {k : Nat} (h : BI arcs s goals ps es k) : es[0]? = some s := by
  obtain ⟨e, h1, h2, _⟩ := h.wk 0 [s] h.zero
  have := h2.one_eq (Nat.le_refl _)
  rw [this] at h1
  exact h1
theorem BI.found {arcs : List (α × α)} {s : α} {goals : List α} {ps : List (List α)} {es : List α} {k : Nat} {p : List α} {e : α} (h : BI arcs s goals ps es k) (hp : ps[k]? = some p) (he : es[k]? = some e) (hg : e ∈ goals) : Sh arcs s goals p := by
  obtain ⟨e1, g1, g2, g3, g4⟩ := h.wk k p hp
  have ee : e1 = e := Option.some.inj (g1.symm.trans he)
  subst ee
  refine ⟨⟨e1, hg, g2⟩, g3, ?_⟩
  have key : ∀ q x, Wk arcs s q x → (∃ (i : Nat) (p' : List α), i < k ∧ ps[i]? = some p' ∧ es[i]? = some x ∧ p'.length ≤ q.length) ∨ p.length ≤ q.length := by
    intro q x w
    induction w with
    | one =>
      by_cases h0 : k = 0
      · subst h0
        rw [h.zero] at hp
        rw [← Option.some.inj hp]
        exact .inr (Nat.le_refl _)
      · exact .inl ⟨0, [s], by omega, h.zero, h.start0, Nat.le_refl _⟩
    | @snoc q x y w hm ih =>
      rw [List.length_append, List.length_singleton]
      rcases ih with ⟨i, p', hi, h1, h2, h3⟩ | h3
      · obtain ⟨j, q', b1, b2, b3⟩ := (h.done i p' x hi h1 h2).2 y hm
        by_cases hj : j < k
        · exact .inl ⟨j, q', hj, b1, b2, by omega⟩
        · have := h.mono k j p q' (by omega) hp b1
          exact .inr (by omega)
      · exact .inr (by omega)
  intro q x w hx
  rcases key q x w with ⟨i, p', hi, h1, h2, h3⟩ | h3
  · exact absurd hx (h.done i p' x hi h1 h2).1
  · exact h3
theorem BI.none {arcs : List (α × α)} {s : α} {goals : List α} {ps : List (List α)} {es : List α} (h : BI arcs s goals ps es ps.length) : NoW arcs s goals := by
  have key : ∀ q x, Wk arcs s q x → ∃ (i : Nat) (p' : List α), i < ps.length ∧ ps[i]? = some p' ∧ es[i]? = some x := by
    intro q x w
    induction w with
    | one => exact ⟨0, [s], (List.getElem?_eq_some_iff.mp h.zero).1, h.zero, h.start0⟩
    | @snoc q x y w hm ih =>
      obtain ⟨i, p', hi, h1, h2⟩ := ih
      obtain ⟨j, q', b1, b2, b3⟩ := (h.done i p' x hi h1 h2).2 y hm
      exact ⟨j, q', (List.getElem?_eq_some_iff.mp b1).1, b1, b2⟩
  intro q x w
  obtain ⟨i, p', hi, h1, h2⟩ := key q x w
  exact (h.done i p' x hi h1 h2).1
/-! ### by levels -/
structure LI (arcs : List (α × α)) (s : α) (goals : List α) (k : Nat) (seen lev : List α) : Prop where
  s_in : s ∈ seen
  lv : ∀ x ∈ lev, x ∈ seen ∧ ∃ p, Wk arcs s p x ∧ p.length = k + 1
  old : ∀ x ∈ seen, x ∉ lev → x ∉ goals ∧ ∀ y, (x, y) ∈ arcs → y ∈ seen
  cov : ∀ p x, Wk arcs s p x → p.length ≤ k + 1 → x ∈ seen
  min : ∀ p x, Wk arcs s p x → p.length ≤ k → x ∉ goals
theorem li_start (arcs : List (α × α)) (s : α) (goals : List α) : LI arcs s goals 0 [s] [s] where
  s_in := List.mem_cons_self
  lv := fun x hx => by
    have e := List.mem_singleton.mp hx
    subst e
    exact ⟨hx, [x], .one, rfl⟩
  old := fun x h1 h2 => absurd h1 h2
  cov := fun p x w hl => by rw [w.one_eq hl]; exact List.mem_cons_self
  min := fun p x w hl => by have := w.pos; omega
theorem LI.next {arcs : List (α × α)} {s : α} {goals : List α} {k : Nat} {seen lev later : List α} (h : LI arcs s goals k seen lev) (hg : ∀ x ∈ lev, x ∉ goals) (ha : ∀ x ∈ lev, ∀ y, (x, y) ∈ arcs → y ∈ seen ++ later) (hl : ∀ y ∈ later, ∃ x ∈ lev, (x, y) ∈ arcs) :
    LI arcs s goals (k + 1) (seen ++ later) later := by
  have hs : ∀ x ∈ seen, x ∉ goals ∧ ∀ y, (x, y) ∈ arcs → y ∈ seen ++ later := fun x hx => by
    by_cases hv : x ∈ lev
    · exact ⟨hg x hv, ha x hv⟩
    · exact ⟨(h.old x hx hv).1, fun y hy => List.mem_append_left _ ((h.old x hx hv).2 y hy)⟩
  refine ⟨List.mem_append_left _ h.s_in, fun y hy => ?_, fun x hx hv => ?_, fun p x w hle => ?_, fun p x w hle => (hs x (h.cov p x w hle)).1⟩
  · obtain ⟨x, hx, hm⟩ := hl y hy
    obtain ⟨_, p, w, e⟩ := h.lv x hx
    exact ⟨List.mem_append_right _ hy, p ++ [y], w.snoc hm, by rw [List.length_append, e]; rfl⟩
  · rcases List.mem_append.mp hx with hx | hx
    · exact hs x hx
    · exact absurd hx hv
  · cases w with
    | one => exact List.mem_append_left _ h.s_in
    | @snoc p x y w hm =>
      rw [List.length_append, List.length_singleton] at hle
      exact (hs x (h.cov p x w (by omega))).2 _ hm
/-! ### the chain -/
theorem chain_walk {c : Nat → α} {arcs : List (α × α)} (inj : ∀ i j, i < 16 → j < 16 → c i = c j → i = j) (ha : ∀ x y, (x, y) ∈ arcs → ∃ i j, i < 16 ∧ j < 16 ∧ x = c i ∧ y = c j ∧ (j < i ∨ j = i + 1)) :
    ∀ {p : List α} {x : α}, Wk arcs (c 0) p x → ∃ m, m < 16 ∧ x = c m ∧ m + 1 ≤ p.length ∧ (p.length = m + 1 → p = (List.range (m + 1)).map c) := by
  intro p x w
  induction w with
  | one => exact ⟨0, by decide, rfl, Nat.le_refl _, fun _ => rfl⟩
  | @snoc p x y w hm ih =>
    obtain ⟨m, hm16, e, hl, hp⟩ := ih
    obtain ⟨i, j, hi, hj, e1, e2, hij⟩ := ha x y hm
    have : m = i := inj m i hm16 hi (e.symm.trans e1)
    subst this
    refine ⟨j, hj, e2, ?_, fun hlen => ?_⟩
    · rw [List.length_append, List.length_singleton]
      omega
    · rw [List.length_append, List.length_singleton] at hlen
      rcases hij with hij | hij
      · omega
      · subst hij
        rw [hp (by omega), List.range_succ (n := m + 1), List.map_append, e2]
        rfl
theorem chain_is {c : Nat → α} {arcs : List (α × α)} (hb : ∀ i, i + 1 < 16 → (c i, c (i + 1)) ∈ arcs) : ∀ m, m < 16 → Wk arcs (c 0) ((List.range (m + 1)).map c) (c m)
  | 0, _ => .one
  | m + 1, h => by
    rw [List.range_succ, List.map_append]
    exact (chain_is hb m (by omega)).snoc (hb m h)
theorem chain_short {c : Nat → α} {arcs : List (α × α)} (inj : ∀ i j, i < 16 → j < 16 → c i = c j → i = j) (ha : ∀ x y, (x, y) ∈ arcs → ∃ i j, i < 16 ∧ j < 16 ∧ x = c i ∧ y = c j ∧ (j < i ∨ j = i + 1)) (hb : ∀ i, i + 1 < 16 → (c i, c (i + 1)) ∈ arcs)
    {m : Nat} (hm : m < 16) {p : List α} (h : Sh arcs (c 0) [c m] p) : p = (List.range (m + 1)).map c := by
  obtain ⟨⟨g, hg, w⟩, _, hmin⟩ := h
  rw [List.mem_singleton.mp hg] at w
  obtain ⟨m', h1, h2, h3, h4⟩ := chain_walk inj ha w
  have : m = m' := inj m m' hm h1 h2
  subst this
  have := hmin _ _ (chain_is hb m hm) List.mem_cons_self
  rw [List.length_map, List.length_range] at this
  exact h4 (by omega)
theorem back_short {arcs : List (α × α)} {a b : α} (hab : a ≠ b) (ha : (a, b) ∈ arcs) {p : List α} (h : Sh arcs a [b] p) : p = [a, b] := by
  obtain ⟨⟨g, hg, w⟩, _, hmin⟩ := h
  rw [List.mem_singleton.mp hg] at w
  have h2 := hmin _ _ (Wk.one.snoc ha) List.mem_cons_self
  cases w with
  | one => exact absurd rfl hab
  | @snoc q x y w hm =>
    have h1 := w.pos
    simp only [List.length_append, List.length_cons, List.length_nil] at h2
    have hq : q.length = 1 := by omega
    have hh := w.head
    match q, hq, hh with
    | [z], _, hh =>
      have : z = a := by simpa using hh
      rw [this]
      rfl
end Kg

/-! covers of groups -/
namespace Kg
variable {α : Type} [DecidableEq α]
def Hits (ns : List α) (gs : List (List α)) : Prop := ∀ g ∈ gs, ∃ z ∈ g, z ∈ ns
def hitsB (ns : List α) (gs : List (List α)) : Bool := gs.all fun g => g.any fun z => decide (z ∈ ns)
theorem hitsB_iff {ns : List α} {gs : List (List α)} : hitsB ns gs = true ↔ Hits ns gs := by
  unfold hitsB Hits
  rw [List.all_eq_true]
  constructor
  · intro h g hg
    obtain ⟨z, hz, e⟩ := List.any_eq_true.mp (h g hg)
    exact ⟨z, hz, of_decide_eq_true e⟩
  · intro h g hg
    obtain ⟨z, hz, e⟩ := h g hg
    exact List.any_eq_true.mpr ⟨z, hz, decide_eq_true e⟩
theorem Hits.mono {ns ms : List α} {gs : List (List α)} (h : Hits ns gs) (hs : ∀ z ∈ ns, z ∈ ms) : Hits ms gs := fun g hg => by
  obtain ⟨z, hz, e⟩ := h g hg
  exact ⟨z, hz, hs z e⟩
/-- no cover with n more names -/
def NoC (gs : List (List α)) (ch : List α) (n : Nat) : Prop := ∀ ns : List α, ns.length ≤ n → ¬ Hits (ch ++ ns) gs
/-- a cover with at most n more names -/
def Cov (gs : List (List α)) (ch : List α) (n : Nat) (c : List α) : Prop := Hits c gs ∧ c.length ≤ ch.length + n ∧ (ch.Nodup → c.Nodup) ∧ (∀ z ∈ c, z ∈ ch ∨ ∃ g ∈ gs, z ∈ g)
theorem cov_done {gs : List (List α)} {ch : List α} (n : Nat) (h : Hits ch gs) : Cov gs ch n ch := ⟨h, Nat.le_add_right _ _, id, fun z hz => .inl hz⟩
theorem cov_step {gs : List (List α)} {ch c : List α} {z : α} {n : Nat} {g : List α} (hg : g ∈ gs) (hz : z ∈ g) (hn : z ∉ ch) (h : Cov gs (ch ++ [z]) n c) : Cov gs ch (n + 1) c := by
  obtain ⟨h1, h2, h3, h4⟩ := h
  refine ⟨h1, by rw [List.length_append] at h2; simp only [List.length_cons, List.length_nil] at h2; omega, fun hc => h3 ?_, fun y hy => ?_⟩
  · rw [List.nodup_append]
    refine ⟨hc, by simp, fun a ha b hb e => ?_⟩
    rw [List.mem_singleton.mp hb] at e
    exact hn (e ▸ ha)
  · rcases h4 y hy with h | h
    · rcases List.mem_append.mp h with h | h
      · exact .inl h
      · rw [List.mem_singleton.mp h]; exact .inr ⟨g, hg, hz⟩
    · exact .inr h
theorem noc_zero {gs : List (List α)} {ch g : List α} (hg : g ∈ gs) (hn : ∀ z ∈ g, z ∉ ch) : NoC gs ch 0 := fun ns hl h => by
  have e : ns = [] := List.length_eq_zero_iff.mp (by omega)
  subst e
  rw [List.append_nil] at h
  obtain ⟨z, hz, hc⟩ := h g hg
  exact hn z hz hc
theorem noc_step {gs : List (List α)} {ch g : List α} {n : Nat} (hg : g ∈ gs) (hn : ∀ z ∈ g, z ∉ ch) (h : ∀ z ∈ g, NoC gs (ch ++ [z]) n) : NoC gs ch (n + 1) := fun ns hl hh => by
  obtain ⟨z, hz, hc⟩ := hh g hg
  have hzn : z ∈ ns := (List.mem_append.mp hc).resolve_left (hn z hz)
  refine h z hz (ns.erase z) (by rw [List.length_erase_of_mem hzn]; omega) (hh.mono fun y hy => ?_)
  by_cases e : y = z
  · rw [e]; exact List.mem_append_left _ (List.mem_append_right _ List.mem_cons_self)
  · rcases List.mem_append.mp hy with hy | hy
    · exact List.mem_append_left _ (List.mem_append_left _ hy)
    · exact List.mem_append_right _ ((List.mem_erase_of_ne e).mpr hy)
/-- all members, no more of them: the same -/
theorem same_of_len {l m : List α} (hl : l.Nodup) (hm : m.Nodup) (hs : ∀ x ∈ l, x ∈ m) (hle : m.length ≤ l.length) : ∀ x, x ∈ m ↔ x ∈ l := fun x => by
  constructor
  · intro hx
    by_cases h : x ∈ l
    · exact h
    · have := nd_le (l := x :: l) (m := m) (List.nodup_cons.mpr ⟨h, hl⟩) fun y hy => by
        rcases List.mem_cons.mp hy with rfl | hy
        · exact hx
        · exact hs y hy
      rw [List.length_cons] at this
      omega
  · exact hs x
end Kg

set_option maxHeartbeats 8000000
/-! sorted(set(xs)), xs a list of texts: what a set of texts holds, exactly -/
namespace Kz
open PySem PySem.Spec PyProof.Rows L2
def txK (e : Int × Value) : Str := match e.2 with
  | .str k _ => k
  | _ => Str.empty
def TxE (P : Program) (w : World) (e : Int × Value) : Prop := ∃ (k : Str) (tk : Tok), e.2 = Value.str k tk ∧ e.1 = (strKind P w).hash k
/-- one more text into what was met -/
def sdz (l : List Str) (v : Str) : List Str := if v ∈ l then l else l ++ [v]
def metz (ys : List Str) : List Str := ys.foldl sdz []
theorem sdz_nd {l : List Str} {v : Str} (h : l.Nodup) : (sdz l v).Nodup := by
  unfold sdz
  split
  · exact h
  · rename_i hv
    rw [List.nodup_append]
    refine ⟨h, by simp, fun a ha b hb e => ?_⟩
    rw [List.mem_singleton.mp hb] at e
    exact hv (e ▸ ha)
theorem sdz_mem {l : List Str} {v z : Str} : z ∈ sdz l v ↔ z ∈ l ∨ z = v := by
  unfold sdz
  split
  · rename_i hv
    exact ⟨.inl, fun h => h.elim id fun e => e ▸ hv⟩
  · rw [List.mem_append, List.mem_singleton]
theorem metz_fold : ∀ (ys l : List Str), l.Nodup → (ys.foldl sdz l).Nodup ∧ (∀ z, z ∈ ys.foldl sdz l ↔ z ∈ l ∨ z ∈ ys) ∧ (ys.foldl sdz l).length ≤ l.length + ys.length
  | [], l, h => ⟨h, fun z => by simp, Nat.le_refl _⟩
  | v :: ys, l, h => by
    obtain ⟨a, b, c⟩ := metz_fold ys (sdz l v) (sdz_nd h)
    rw [List.foldl_cons]
    refine ⟨a, fun z => ?_, ?_⟩
    · rw [b z, sdz_mem, List.mem_cons, or_assoc]
    · have : (sdz l v).length ≤ l.length + 1 := by
        unfold sdz
        split
        · omega
        · rw [List.length_append]; exact Nat.le_refl _
      rw [List.length_cons]
      omega
theorem metz_nd (ys : List Str) : (metz ys).Nodup := (metz_fold ys [] (by simp)).1
theorem metz_mem (ys : List Str) (z : Str) : z ∈ metz ys ↔ z ∈ ys := by
  have := (metz_fold ys [] (by simp)).2.1 z
  simpa [metz] using this
theorem metz_len (ys : List Str) : (metz ys).length ≤ ys.length := by
  have := (metz_fold ys [] (by simp)).2.2
  simpa [metz] using this
theorem metz_succ {ys : List Str} {i : Nat} {v : Str} (h : ys[i]? = some v) : metz (ys.take (i + 1)) = sdz (metz (ys.take i)) v := by
  unfold metz
  rw [List.take_add_one, h, List.foldl_append]
  rfl
/-- what stands in the table of a set of texts -/
structure Tb (P : Program) (w : World) (ks : List Str) (es : Array (Int × Value)) (t : SetTable) : Prop where
  each : ∀ e ∈ es.toList, TxE P w e
  perm : (es.toList.map txK).Perm ks
  nd : ks.Nodup
  few : es.size < scanBound
  fit : t.fits es.size = true
  ris : Ris t.place.toList
  led : w.params.followText "set-order" = true ∨ t.led = true
def XSet (P : Program) (w : World) (h : Heap) (a : Addr) (ks : List Str) : Prop := ∃ o es ep t, h.get? a = some o ∧ o.ExactSet ∧ o.data = .set es ep t ∧ Tb P w ks es t
section
variable {P : Program} {w : World} {A : Around} {E : Value → Shared → Prop} {s : Shared} {a : Addr}
theorem txe_is {e : Int × Value} (g : TxE P w e) (k : Str) : (strKind P w).is k e.2 = true ↔ txK e = k := by
  obtain ⟨k0, tk, h1, _⟩ := g
  have h2 : (strKind P w).is k0 e.2 = true := by rw [h1]; exact strKind_is P w k0 tk
  have h3 : txK e = k0 := by unfold txK; rw [h1]
  rw [KeyKind.is_eq_decide h2 k, h3, decide_eq_true_iff]
  exact eq_comm
theorem Tb.elems {ks : List Str} {es : Array (Int × Value)} {t : SetTable} (b : Tb P w ks es t) : ElemsOf (strKind P w) es.toList := fun e he => by
  obtain ⟨k, tk, g1, g2⟩ := b.each e he
  exact ⟨⟨k, by rw [g1]; exact strKind_is P w k tk, g2⟩, by rw [g1]; rfl⟩
theorem Tb.size {ks : List Str} {es : Array (Int × Value)} {t : SetTable} (b : Tb P w ks es t) : es.size = ks.length := by
  rw [← Array.length_toList, ← b.perm.length_eq, List.length_map]
theorem put_at {h : Heap} {o : Obj} {es es' : Array (Int × Value)} {ep : Nat} {t t' : SetTable} (ho : h.get? a = some o) (hd : o.data = .set es ep t) :
    (h.update a (Obj.putSet es' t')).get? a = some { o with data := .set es' (ep + 1) t' } := by
  have z := Heap.get?_update_self (Obj.putSet es' t') ho (by rw [putSet_of es' t' hd]; rfl)
  rwa [putSet_of es' t' hd] at z
/-- the end of an addition: the table may be laid anew -/
theorem x_tail {ru : Bool → Sem Unit} (hru : ∀ (b : Bool) (s1 : Shared) (R' : Unit → Shared → Prop), R' () s1 → wpAny (model P w) A (ru b) R' E s1)
    {o : Obj} {es : Array (Int × Value)} {ep : Nat} {t : SetTable} (ho : s.heap.get? a = some o) (hx : o.ExactSet) (hd : o.data = .set es ep t)
    {fs : Array (Int × Value)} {u : SetTable} {ks : List Str} (b : Tb P w ks fs u) {dm : Bool} {R : Option Bool → Shared → Prop}
    (hR : ∀ h', Heap.SameBut a s.heap h' → XSet P w h' a ks → R (some true) { s with heap := h' }) :
    wpAny (model P w) A (do
        storeSet a fs u
        if (!dm && u.tooFull) = true then do
            ru (relayAll u fs (SetTable.grown fs.size)).2.2
            storeSet a (relayAll u fs (SetTable.grown fs.size)).1 (relayAll u fs (SetTable.grown fs.size)).2.1
            pure (some true)
          else pure (some true)) R E s := by
  refine wpAny_bind (wpAny_storeSet_of ho hd ?_ (fits_of_scanBound b.few))
  have o1 := put_at (es' := fs) (t' := u) ho hd
  have same1 := Heap.SameBut.update s.heap a (Obj.putSet fs u)
  split
  · have q1 := relayAll_perm u fs (SetTable.grown fs.size)
    have q2 := relayAll_fits u fs (SetTable.grown fs.size)
    have q3 := relayAll_ris u fs (SetTable.grown fs.size)
    have q4 := relayAll_led u fs (SetTable.grown fs.size)
    generalize relayAll u fs (SetTable.grown fs.size) = Y at q1 q2 q3 q4 ⊢
    obtain ⟨gs, v, wh⟩ := Y
    dsimp only at q1 q2 q3 q4 ⊢
    have sz : gs.size = fs.size := by rw [← Array.length_toList, q1.length_eq, Array.length_toList]
    have b2 : Tb P w ks gs v := ⟨fun e he => b.each e (q1.mem_iff.mp he), (q1.map txK).trans b.perm, b.nd, by rw [sz]; exact b.few, by rw [sz]; rw [← sz]; exact q2, q3, b.led.imp id fun z => by rw [q4]; exact z⟩
    refine wpAny_bind (hru _ _ _ ?_)
    refine wpAny_bind (wpAny_storeSet_of o1 rfl ?_ (fits_of_scanBound b2.few))
    exact wpAny_pure (hR _ (same1.trans (Heap.SameBut.update _ a _)) ⟨_, gs, _, v, put_at (es' := gs) (t' := v) o1 rfl, hx, rfl, b2⟩)
  · exact wpAny_pure (hR _ same1 ⟨_, fs, _, u, o1, hx, rfl, b⟩)
theorem x_add {x : Str} {tx : Tok} {ks : List Str} {Q : Bool → Shared → Prop} (R : XSet P w s.heap a ks) (room : ks.length + 1 < scanBound)
    (hQ : ∀ (c : Bool) h', Heap.SameBut a s.heap h' → XSet P w h' a (sdz ks x) → Q c { s with heap := h' }) :
    wpAny (model P w) A (setAddHashed a (.str x tx) ((strKind P w).hash x)) Q E s := by
  obtain ⟨o, es, ep, t, ho, hx, hd, b⟩ := R
  have key : (strKind P w).is x (.str x tx) = true := strKind_is P w x tx
  have scn : (Value.str x tx).scannable = true := rfl
  have el := b.elems
  unfold setAddHashed setAddHashedIn
  refine wpAny_holding (wpAny_bind (wpAny_setState_of ho hd b.fit ?_))
  dsimp only
  rw [byScan_of scn b.few el]
  simp only [↓reduceIte]
  unfold setAddByScan
  refine wpAny_bind ?_
  refine wpAny_bind (wpAny_rule ?_)
  refine wpAny_bind (wpAny_setScan_of key ho hd b.fit el ?_)
  cases fi : List.findIdx? (fun e => (strKind P w).is x e.2) es.toList with
  | some j =>
    dsimp only
    obtain ⟨hj, pj, _⟩ := List.findIdx?_eq_some_iff_getElem.mp fi
    have mx : x ∈ ks := b.perm.mem_iff.mp (List.mem_map.mpr ⟨_, List.getElem_mem hj, (txe_is (b.each _ (List.getElem_mem hj)) x).mp pj⟩)
    refine wpAny_pure (wpAny_pure ?_)
    exact hQ _ s.heap (Heap.SameBut.refl a s.heap) ⟨o, es, ep, t, ho, hx, hd, by rw [sdz, if_pos mx]; exact b⟩
  | none =>
    dsimp only
    have nx : x ∉ ks := fun z => by
      obtain ⟨e, he, ee⟩ := List.mem_map.mp (b.perm.mem_iff.mpr z)
      have c := List.findIdx?_eq_none_iff.mp fi e he
      rw [(txe_is (b.each e he) x).mpr ee] at c
      cases c
    have ruw : ∀ (c : Bool) {s1 : Shared} {R' : Unit → Shared → Prop}, R' () s1 → wpAny (model P w) A (match c with | true => rule "set.scan.the-table-gave-way" | false => pure ()) R' E s1 :=
      fun c s1 R' z => by cases c <;> first | exact wpAny_pure z | exact wpAny_rule z
    have l1 := layNew_perm t es ((strKind P w).hash x) (.str x tx)
    have l2 := layNew_fits t es ((strKind P w).hash x) (.str x tx)
    have l3 := layNew_ris t es ((strKind P w).hash x) (.str x tx) b.ris
    have l4 := layNew_led t es ((strKind P w).hash x) (.str x tx)
    generalize layNew t es ((strKind P w).hash x) (.str x tx) = Y at l1 l2 l3 l4 ⊢
    obtain ⟨fs, u, dm, gv⟩ := Y
    dsimp only at l1 l2 l3 l4 ⊢
    rw [Array.toList_push] at l1
    have pc : fs.toList.Perm (((strKind P w).hash x, Value.str x tx) :: es.toList) := l1.trans (List.perm_append_singleton _ _)
    have esz : fs.size = ks.length + 1 := by rw [← Array.length_toList, pc.length_eq, List.length_cons, Array.length_toList, b.size]
    have b0 : ∀ u' : SetTable, u'.fits fs.size = true → Ris u'.place.toList → u'.led = t.led → Tb P w (sdz ks x) fs u' := fun u' f1 f2 f3 => by
      refine ⟨fun e he => ?_, ?_, sdz_nd b.nd, by rw [esz]; exact room, f1, f2, b.led.imp id fun z => by rw [f3]; exact z⟩
      · rcases List.mem_cons.mp (pc.mem_iff.mp he) with z | z
        · rw [z]; exact ⟨x, tx, rfl, rfl⟩
        · exact b.each e z
      · rw [sdz, if_neg nx]
        refine (pc.map txK).trans ?_
        rw [List.map_cons]
        exact (List.Perm.cons x b.perm).trans (List.perm_append_singleton x ks).symm
    refine wpAny_bind (ruw _ ?_)
    split
    · refine wpAny_bind ?_
      rw [hashByValue_scannable 8 scn]
      refine wpAny_pure ?_
      refine x_tail (fun c s1 R' z => by cases c <;> first | exact wpAny_pure z | exact wpAny_rule z) ho hx hd (b0 _ ?_ ?_ ?_) fun h' sb r => ?_
      · first | (split <;> first | exact l2 | exact SetTable.fits_plain_off l2) | exact l2
      · first | (split <;> exact l3) | exact l3
      · first | (split <;> exact l4) | exact l4
      · dsimp only; exact wpAny_pure (hQ _ h' sb r)
    · refine wpAny_bind (wpAny_pure ?_)
      simp only [↓reduceIte]
      refine x_tail (fun c s1 R' z => by cases c <;> first | exact wpAny_pure z | exact wpAny_rule z) ho hx hd (b0 _ l2 l3 l4) fun h' sb r => ?_
      dsimp only; exact wpAny_pure (hQ _ h' sb r)
end
end Kz

namespace Kz
open PySem PySem.Spec PyProof.Rows L2
section
variable {P : Program} {w : World} {A : Around} {E : Value → Shared → Prop} {R : Result → Shared → Prop} {I : Addr} {fp wr : List Addr} {G : Array GenState → Array GenState → Prop} {n : Nat} {Pv : Nat → Value → Prop} {St : Nat → Shared → Prop}
theorem XSet.at {h h' : Heap} {a : Addr} {ks : List Str} (x : XSet P w h a ks) (k : ∀ o, h.get? a = some o → h'.get? a = some o) : XSet P w h' a ks := by
  obtain ⟨o, es, ep, t, ho, r⟩ := x
  exact ⟨o, es, ep, t, k o ho, r⟩
theorem x_loop (W : WalksS P w A.in1 I fp wr G n Pv St) (S : Addr) (hS : S ∉ fp) (ys : List Str) (hy : ys.length = n) (hv : ∀ i v, Pv i v → ∃ (x : Str) (t : Tok), ys[i]? = some x ∧ v = .str x t) (hb : n + 1 < scanBound) :
    ∀ (m i : Nat) (s : Shared), n - i = m → i ≤ n → St i s → XSet P w s.heap S (metz (ys.take i)) →
      (∀ s2, Moved (S :: wr) G s s2 → XSet P w s2.heap S (metz ys) → R (.ok (.ret .none)) s2) → codeAny (model P w) A (.builtin "set.update.loop" ⟨[.ref S, .ref I], []⟩) R s := by
  have off : S ∉ wr := fun z => hS (W.sub _ z)
  have more : ∀ b ∈ wr, b ∈ S :: wr := fun b z => List.mem_cons_of_mem _ z
  intro m
  induction m with
  | zero =>
    intro i s hm hi st x hR
    obtain rfl : i = n := by omega
    rw [show ys.take i = ys by rw [← hy, List.take_length]] at x
    refine codeAny_builtin PyProof.Rows.F.entry_set_update_loop ?_
    rw [Around.under_plainId PyProof.Rows.F.plain_set_update_loop _]
    show wpAny _ A.in1 (pyNext (.ref I) >>= _) _ _ s
    refine wpAny_bind (W.done s _ _ st fun s2 mv => ?_)
    show wpAny _ A.in1 (ret Value.none) _ _ s2
    exact wpAny_pure (hR s2 (mv.mono more) (x.at fun o e => mv.heap S o off e))
  | succ m ih =>
    intro i s hm hi st x hR
    have lt : i < n := by omega
    refine codeAny_builtin PyProof.Rows.F.entry_set_update_loop ?_
    rw [Around.under_plainId PyProof.Rows.F.plain_set_update_loop _]
    show wpAny _ A.in1 (pyNext (.ref I) >>= _) _ _ s
    refine wpAny_bind (W.item i s _ _ lt st fun v s2 hP st2 mv => ?_)
    obtain ⟨z, t, hz, rfl⟩ := hv i v hP
    have x2 : XSet P w s2.heap S (metz (ys.take i)) := x.at fun o e => mv.heap S o off e
    show wpAny _ A.in1 (holding [Value.str z t] (setAdd S (.str z t)) >>= _) _ _ s2
    refine wpAny_bind (wpAny_holding ?_)
    unfold setAdd
    refine wpAny_holding ?_
    refine wpAny_bind ((strKind P w).pyHash (k := z) (strKind_is _ _ _ _) ?_)
    have room : (metz (ys.take i)).length + 1 < scanBound := by
      have := metz_len (ys.take i)
      rw [List.length_take] at this
      omega
    refine x_add (s := { s2 with toks := s2.toks + 1 }) x2 room fun c h' sb x3 => ?_
    rw [← metz_succ hz] at x3
    refine wpAny_pure ⟨plainId_quiet PyProof.Rows.F.plain_set_update_loop _, ih (i + 1) _ (by omega) lt (W.frame _ s2 _ _ st2 (Nat.le_succ _) fun b q o e => ?_) x3 fun s3 mv3 x4 => ?_⟩
    · rw [sb.2 b (fun e1 : b = S => hS (by rw [← e1]; exact q))]
      exact e
    · refine hR s3 (Moved.trans W.gtrans ((mv.mono more).then_heap (Nat.le_succ _) fun b o q e => ?_) mv3) x4
      rw [sb.2 b (fun e1 : b = S => q (by rw [e1]; exact List.mem_cons_self))]
      exact e
end
end Kz
namespace PySem
section
variable {prog : Program} {w : World} {A : Around} {E : Value → Shared → Prop} {s : Shared}
abbrev bareSetZ (led : Bool) : Obj := { cls := .type "set", dict := none, data := .set #[] 0 (.fresh 0 0 led) }
theorem x_fresh {h : Heap} {a : Addr} (e : h.get? a = some (bareSetZ (!w.params.followText "set-order"))) : Kz.XSet prog w h a [] := by
  have tb : Kz.Tb prog w [] #[] (.fresh 0 0 (!w.params.followText "set-order")) := by
    refine ⟨fun z hz => by simp at hz, List.Perm.refl _, by simp, by decide, by rfl, List.Pairwise.nil, ?_⟩
    show _ ∨ (!w.params.followText "set-order") = true
    cases w.params.followText "set-order" with
    | true => exact .inl rfl
    | false => exact .inr rfl
  exact ⟨_, #[], 0, _, e, ⟨rfl, rfl, rfl⟩, rfl, tb⟩
theorem set_of_lst {l : Addr} {items : Array Value} {ys : List Str} {Q : Value → Shared → Prop} (hh : A.handled = none) (hl : s.heap.IsList l items) (hy : ys.length = items.size) (hi : ∀ (i : Nat) (v : Value), items[i]? = some v → ∃ (x : Str) (t : Tok), ys[i]? = some x ∧ v = .str x t) (hb : items.size + 1 < scanBound)
    (h : ∀ (h' : Heap) (tk : Nat), Kz.XSet prog w h' s.heap.objs.size (Kz.metz ys) → (∀ b o, b < s.heap.objs.size → s.heap.get? b = some o → h'.get? b = some o) → Q (.ref s.heap.objs.size) { s with heap := h', toks := tk }) :
    wpAny (model prog w) A (call (.type "set") [.ref l]) Q E s := by
  have a1 := F.called_set.notType; have a2 := F.called_set.canCreate; have a3 := F.typeCall_set_1 (.ref l); have a4 := F.called_set.made; have a5 := F.called_set.sub
  obtain ⟨c, tl, hmro⟩ := F.called_set.mro
  refine wpAny_call (codeAny_of_tree ?_); show wpAny _ _ (callAny (.type "set") _) _ _ _
  refine wpAny_pure ⟨Code.quiet_builtin _ (by decide +kernel), ?_⟩; refine codeAny_builtin F.entry_type_call ?_; rw [Around.under_plain (weight_type_call_type "set" [.ref l] []) rfl]
  repeat (any_goals (first | assumption | wp_step))
  refine codeAny_mono (L2.code_set_led1 (.ref l) (E := E) (Q₁ := fun obj s1 => obj = .ref s.heap.objs.size ∧ s1 = { s with heap := s.heap.push (bareSetZ (!w.params.followText "set-order")) }) ⟨rfl, rfl⟩) fun r s1 hr => ?_
  cases r with
  | error e => exact hr
  | ok fl =>
    cases fl with
    | ret obj =>
      obtain ⟨rfl, rfl⟩ := hr
      have hS : (s.heap.push (bareSetZ (!w.params.followText "set-order"))).get? s.heap.objs.size = some (bareSetZ (!w.params.followText "set-order")) := Heap.get?_push_size _ rfl
      have hT : Shared.TypeIs { s with heap := s.heap.push (bareSetZ (!w.params.followText "set-order")) } (.ref s.heap.objs.size) "set" := ⟨_, hS, rfl⟩
      have b1 := F.called_set.init.lookup; have b2 := F.called_set.init.bind (.ref s.heap.objs.size)
      repeat (any_goals (first | assumption | wp_step))
      refine codeAny_mono (codeAny_call_builtin (R := wants (fun r s2 => r = .none ∧ ∃ h' tk, s2 = { s with heap := h', toks := tk } ∧ Kz.XSet prog w h' s.heap.objs.size (Kz.metz ys) ∧
          (∀ b o, b < s.heap.objs.size → s.heap.get? b = some o → h'.get? b = some o)) E) F.called_set.init.plain F.entry_set_init (check_set_init_1 hT ?_)) fun r2 s2 hr2 => ?_
      · obtain ⟨ol, hol, hcl, nl, hdl⟩ := hl
        obtain ⟨ocls, odict, odata, oslots⟩ := ol
        simp only at hcl hdl; subst hcl; subst hdl
        have hol' : (s.heap.push (bareSetZ (!w.params.followText "set-order"))).get? l = some { cls := .type "list", dict := odict, data := .seq items nl, slots := oslots } := Heap.get?_push_of_some _ hol
        have d1 := F.sub_list_set; have d2 := F.sub_list_frozenset
        have d3 : (Value.type "list" == Value.type "dict") = false := by decide
        have tp : (s.heap.push (bareSetZ (!w.params.followText "set-order"))).IsList l items := ⟨_, hol', rfl, nl, rfl⟩
        unfold Builtin.«set.__init__» noKeywords Builtin.Frozenset.updateFrom; generalize hPI : pyIter = PI
        wp_walk
        subst hPI
        refine wpAny_pyIter_list tp ?_; refine wpAny_bind (wpAny_runValue ?_)
        have lS : l < s.heap.objs.size := Heap.lt_size hol
        have h3 : A.in1.in1.in1.handled = none := by simp [hh]
        have ne1 : l ≠ (s.heap.push (bareSetZ (!w.params.followText "set-order"))).objs.size := by
          rw [Heap.size_push]; exact Nat.ne_of_lt (Nat.lt_succ_of_lt lS)
        have no1 : s.heap.objs.size ∉ [(s.heap.push (bareSetZ (!w.params.followText "set-order"))).objs.size, l] := by
          rw [Heap.size_push]; simp only [List.mem_cons, List.mem_singleton, List.not_mem_nil, or_false, not_or]; exact ⟨Nat.ne_of_lt (Nat.lt_succ_self _), Nat.ne_of_gt lS⟩
        refine Kz.x_loop ((Walks.list h3 _ l ne1 items).toS) s.heap.objs.size no1 ys hy hi hb (items.size - 0) 0 _ (by omega) (Nat.zero_le _) ⟨⟨_, Heap.get?_push_size _ rfl, rfl, rfl⟩, (tp.push _)⟩ ?hS0 ?hR
        case hS0 => exact x_fresh (Heap.get?_push_of_some _ hS)
        case hR =>
          intro s' mv hS'
          obtain ⟨h', g', d', tk', os'⟩ := s'
          have eg : g' = s.gens := mv.gens; have ed : d' = s.drawn := mv.drawn; have eo : os' = s.os := mv.os
          subst eg; subst ed; subst eo
          show wpAny _ _ _ _ _ _
          refine wpAny_pure ?_; show wpAny _ _ (ret Value.none) _ _ _
          refine wpAny_pure ⟨rfl, h', tk', rfl, hS', fun b o lt e => ?_⟩
          have n2 : b ≠ (s.heap.push (bareSetZ (!w.params.followText "set-order"))).objs.size := by
            rw [Heap.size_push]; exact Nat.ne_of_lt (Nat.lt_succ_of_lt lt)
          exact mv.heap b o (by simp only [List.mem_cons, List.mem_singleton, List.not_mem_nil, or_false, not_or]; exact ⟨Nat.ne_of_lt lt, n2⟩) (Heap.get?_push_of_some _ (Heap.get?_push_of_some _ e))
      · cases r2 with
        | error e => exact hr2
        | ok fl2 =>
          cases fl2 with
          | ret r =>
            obtain ⟨rfl, h', tk, rfl, hS', hk'⟩ := hr2
            repeat (any_goals (first | assumption | wp_step))
            exact h _ _ hS' hk'
          | _ => exact hr2.elim
    | _ => exact hr.elim
end
end PySem

namespace Kz
open PySem PySem.Spec PyProof.Rows L2
theorem strs_are : ∀ (vs : List Value), (∀ v ∈ vs, ∃ (k : Str) (t : Tok), v = Value.str k t) → ∃ ss : List Str, StrsAre vs ss ∧ ss = vs.map fun v => txK (0, v)
  | [], _ => ⟨[], .nil, rfl⟩
  | v :: vs, h => by
    obtain ⟨k, t, rfl⟩ := h v List.mem_cons_self
    obtain ⟨ss, a, b⟩ := strs_are vs fun u hu => h u (List.mem_cons_of_mem _ hu)
    exact ⟨k :: ss, .cons k t a, by rw [List.map_cons, ← b]; rfl⟩
section
variable {P : Program} {w : World} {A : Around} {E : Value → Shared → Prop} {s : Shared} {a : Addr}
theorem sorted_x {ks : List Str} {Q : Value → Shared → Prop} (R : XSet P w s.heap a ks) (hh : A.handled = none) (few : ks.length < 64)
    (hQ : ∀ s' p (out : Array Value) (c : Nat) (ns : List Str), (∀ b o, s.heap.get? b = some o → s'.heap.get? b = some o) → s'.gens = s.gens → s'.os = s.os → s.heap.objs.size ≤ p →
      s'.heap.get? p = some (seqObj "list" out c) → StrsAre out.toList ns → ns.Perm ks → sortedS ns = true → Q (.ref p) s') :
    wpAny (model P w) A (call (.builtin "sorted") [.ref a]) Q E s := by
  obtain ⟨o, es, ep, t, ho, hx, hd, b⟩ := R
  refine Calls.call_function_entry kind_sorted plain_sorted entry_sorted (args_sorted1 _) ?_
  unfold Builtin.«sorted»
  refine wpAny_bind (m := checkCount "sorted" 1 1 _) (wpAny_pure ?_)
  refine wpAny_bind (collect_set (A := A.in1) hh ⟨o, ho, hx.1, hd⟩ b.fit b.few b.ris b.led fun s1 vs k1 hz g1 o1 pm => ?_)
  have ev : ∀ v ∈ vs, ∃ (k : Str) (t : Tok), v = Value.str k t := fun v hv => by
    obtain ⟨e, he, q⟩ := List.mem_map.mp (pm.mem_iff.mp hv)
    obtain ⟨k, tk, h1, _⟩ := b.each e he
    exact ⟨k, tk, by rw [← q]; exact h1⟩
  obtain ⟨ss, hS, ess⟩ := strs_are vs ev
  have pk : ss.Perm ks := by
    rw [ess]
    refine (pm.map fun v => txK (0, v)).trans ?_
    rw [List.map_map]
    exact b.perm
  have vl : vs.length < 64 := by rw [← List.length_map (f := fun v => txK (0, v)), ← ess, pk.length_eq]; exact few
  refine wpAny_bind (wpAny_newList ?_ (by rw [sizeLine_eq]; omega))
  have oL : (s1.heap.push (seqObj "list" vs.toArray 0)).get? s1.heap.objs.size = some (seqObj "list" vs.toArray 0) := Heap.get?_push_size _ rfl
  refine wpAny_bind (wpAny_holding (wpAny_call_entry slot_list_sort ⟨_, oL, rfl⟩ entry_list_sort
    (list_sort_treeK strKind_oneLt oL hS.keysOf (fun v1 v2 rest e => keyKind_strs (by rw [← e]; exact hS)) vl fun st a1 a2 => ⟨_, rfl, ?_⟩) (args_list_sort _)))
  obtain ⟨ns, n1, n2, n3⟩ := sorted_out_str hS a1 a2
  obtain ⟨c, hc⟩ := sortedHeap_at (vs := vs) (out := (arrOf st).map (·.2)) oL
  refine wpAny_pure ⟨_, rfl, hQ _ s1.heap.objs.size _ c ns (fun b u e => ?_) g1 o1 hz hc n1 (n2.trans pk) n3⟩
  have q := k1 b u e
  have lt := Heap.lt_size q
  show (sortedHeap (s1.heap.push (seqObj "list" vs.toArray 0)) s1.heap.objs.size vs _).get? b = some u
  rw [sortedHeap_old (Nat.ne_of_lt lt) (by rw [size_push']; exact Nat.lt_succ_of_lt lt)]
  exact Heap.get?_push_of_some _ q
end
section
variable {X : Cx}
theorem txt_at : ∀ {ys : List Str} {its : List Value}, Vals (ys.map V.str) its → ∀ (i : Nat) (v : Value), its[i]? = some v → ∃ (x : Str) (t : Tok), ys[i]? = some x ∧ v = Value.str x t
  | [], _, r, i, v, e => by
    cases r
    simp at e
  | y :: ys, _, r, 0, v, e => by
    cases r with
    | cons r1 r2 =>
      obtain ⟨t, rfl⟩ := r1
      exact ⟨y, t, rfl, (Option.some.inj e).symm⟩
  | y :: ys, _, r, i + 1, v, e => by
    cases r with
    | cons r1 r2 =>
      obtain ⟨x, t, h1, h2⟩ := txt_at r2 i v (by simpa using e)
      exact ⟨x, t, by simpa using h1, h2⟩
theorem vals_txt : ∀ {vs : List Value} {ns : List Str}, StrsAre vs ns → Vals (ns.map V.str) vs
  | _, _, .nil => .nil
  | _, _, .cons k t r => .cons ⟨t, rfl⟩ (vals_txt r)
theorem x_fin {pins : List (Addr × Obj)} {σ : L2.St} {H1 : Hp} {s2 s' : Shared} {p c : Nat} {out : Array Value} {ns : List Str} (I2 : Inv X pins σ H1 s2) (k : ∀ b o, s2.heap.get? b = some o → s'.heap.get? b = some o) (g : s'.gens = s2.gens) (o : s'.os = s2.os) (hp : s2.heap.objs.size ≤ p)
    (hgt : s'.heap.get? p = some (seqObj "list" out c)) (hst : StrsAre out.toList ns) (hl : ns.length ≤ 64) : H1 p = none ∧ Inv X pins σ (upd H1 p (.lst (ns.map V.str))) s' := by
  have hlen : (ns.map V.str).length ≤ sizeLine := by rw [List.length_map, sizeLine_eq]; omega
  have hn : H1 p = none := I2.hok.fresh hp
  have J : Inv X pins σ (upd H1 p (.lst (ns.map V.str))) { s2 with heap := s'.heap, gens := s'.gens, drawn := s'.drawn, toks := s'.toks } :=
    I2.call (ch := []) (Un.laid k hp hn) (I2.hok.laid k hp ⟨hlen, out.toList, c, vals_txt hst, hgt⟩) (by rw [g]; exact I2.bare) (fun _ z => nomatch z)
  have e : s' = { s2 with heap := s'.heap, gens := s'.gens, drawn := s'.drawn, toks := s'.toks } := by
    cases s'
    cases s2
    cases o
    rfl
  rw [e]
  exact ⟨hn, J⟩
/-- sorted(set(xs)), xs a list of texts, fewer than 64 -/
def tSorS (K : PySem.W.Frag) (ta : TE) : TE := fun σ H Q => ta σ H fun x H1 => ∃ (l : Addr) (ys : List Str), x = V.ref l ∧ SqL K H1 l (ys.map V.str) ∧ ys.length < 64 ∧
  ∀ (zs : List Str) (p : Addr), zs.Nodup → sortedS zs = true → (∀ z, z ∈ zs ↔ z ∈ ys) → H1 p = none → Q (.ref p) (upd H1 p (.lst (zs.map V.str)))
theorem pe_sorS {a : Expr} {ta : TE} {p p2 q pos : Pos} (hc : X.calm = true) (hg : Gl X "sorted") (hm : X.mg "sorted" = none) (hg2 : Gl X "set") (hm2 : X.mg "set" = none) (ha : PE X a ta) (na : starEach [a] X.env = (false, eval a X.env) :: starEach [] X.env := by rfl) :
    PE X (.Call (.Name "sorted" p) [.Call (.Name "set" p2) [a] [] q] [] pos) (tSorS X.K ta) := by
  refine ⟨fun pins s σ H Q I h => ?_⟩
  refine Call_ (ld_blt I hg hm PyProof.Rows.boot_sorted ?_)
  refine PyProof.Rows.callWith_builtin1 (PyProof.Rows.args_cons ?_ rfl) rfl rfl
  refine Call_ (ld_blt I hg2 hm2 PyProof.Rows.boot_set ?_)
  refine PyProof.Rows.callWith_type1 (PyProof.Rows.args_cons (thn (ha.run pins s σ H _ I h) fun v s1 ⟨x, H1, I1, r1, hh⟩ => PyProof.Rows.args_nil ?_) na) na rfl
  obtain ⟨l, ys, rfl, hq, h1, hQ⟩ := hh
  cases r1
  obtain ⟨its, r, pl, hz⟩ := I1.list hq
  have hl : ys.length = its.toArray.size := by rw [List.size_toArray, ← r.length, List.length_map]
  refine PySem.set_of_lst (I1.ok.hd hc) pl.isList hl (fun i v e => txt_at r i v (by simpa using e)) (by rw [← hl]; unfold scanBound; omega) fun h' tk hS hk => ?_
  refine PyProof.Rows.args_nil ?_
  have I2 : Inv X pins σ H1 { s1 with heap := h', toks := tk } := I1.kept fun b o e => hk b o (Heap.lt_size e) e
  have ml := metz_len ys
  refine sorted_x (A := _) hS (I2.ok.hd hc) (by omega) fun s' p out c ns k g o hp hgt hst hpm hso => ?_
  obtain ⟨hn, J⟩ := x_fin I2 k g o hp hgt hst (by rw [hpm.length_eq]; omega)
  exact ⟨.ref p, _, J, rfl, hQ ns p (hpm.nodup_iff.mpr (metz_nd ys)) hso (fun z => by rw [hpm.mem_iff]; exact metz_mem ys z) hn⟩
end
end Kz

namespace Kz
open PySem PySem.Spec PyProof.Rows L2
/-! sorted texts stand in one way only -/
theorem lc_cons {x y : Nat} {a b : List Nat} : ltCps (x :: a) (y :: b) = false ↔ y < x ∨ (x = y ∧ ltCps a b = false) := by
  simp only [ltCps, Bool.or_eq_false_iff, Bool.and_eq_false_iff, decide_eq_false_iff_not, beq_eq_false_iff_ne]
  constructor
  · rintro ⟨h1, h2⟩
    by_cases e : x = y
    · exact .inr ⟨e, h2.resolve_left fun h => h e⟩
    · exact .inl (by omega)
  · rintro (h | ⟨h, h2⟩)
    · exact ⟨by omega, .inl (by omega)⟩
    · exact ⟨by omega, .inr h2⟩
theorem lc_anti : ∀ {a b : List Nat}, ltCps a b = false → ltCps b a = false → a = b
  | [], [], _, _ => rfl
  | [], y :: b, h, _ => by simp [ltCps] at h
  | x :: a, [], _, h => by simp [ltCps] at h
  | x :: a, y :: b, h, h' => by
    rcases lc_cons.mp h with h1 | ⟨h1, h2⟩
    · rcases lc_cons.mp h' with g1 | ⟨g1, g2⟩ <;> omega
    · rcases lc_cons.mp h' with g1 | ⟨g1, g2⟩
      · omega
      · rw [h1, lc_anti h2 g2]
theorem lc_trans : ∀ {a b c : List Nat}, ltCps b a = false → ltCps c b = false → ltCps c a = false
  | [], _, [], _, _ => rfl
  | [], _, _ :: _, _, _ => rfl
  | x :: a, [], _, h, _ => by simp [ltCps] at h
  | x :: a, y :: b, [], _, h => by simp [ltCps] at h
  | x :: a, y :: b, z :: c, h, h' => by
    rw [lc_cons] at h h' ⊢
    rcases h with h1 | ⟨h1, h2⟩
    · rcases h' with g1 | ⟨g1, g2⟩
      · exact .inl (by omega)
      · exact .inl (by omega)
    · rcases h' with g1 | ⟨g1, g2⟩
      · exact .inl (by omega)
      · exact .inr ⟨by omega, lc_trans h2 g2⟩
/-- not behind -/
def LeS (a b : Str) : Prop := ltCps b.cps.toList a.cps.toList = false
theorem LeS.trans {a b c : Str} (h : LeS a b) (h' : LeS b c) : LeS a c := lc_trans h h'
theorem LeS.anti {a b : Str} (h : LeS a b) (h' : LeS b a) : a = b := by
  have e := lc_anti h' h
  cases a
  cases b
  have e2 := Array.toList_inj.mp e
  simp at e2
  rw [e2]
theorem ris_all : ∀ (l : List Str) (p : Str), risingS p l = true → ∀ x ∈ l, LeS p x
  | [], _, _, x, h => by cases h
  | y :: l, p, h, x, hx => by
    simp only [risingS, Bool.and_eq_true, Bool.not_eq_true'] at h
    rcases List.mem_cons.mp hx with rfl | hx
    · exact h.1
    · exact LeS.trans (show LeS p y from h.1) (ris_all l y h.2 x hx)
theorem sorted_pw : ∀ {l : List Str}, sortedS l = true → l.Pairwise LeS
  | [], _ => .nil
  | [x], _ => List.pairwise_singleton _ _
  | x :: y :: l, h => by
    have h' : risingS x (y :: l) = true := h
    have h2 : sortedS (y :: l) = true := by
      simp only [risingS, Bool.and_eq_true] at h'
      exact h'.2
    exact List.pairwise_cons.mpr ⟨ris_all _ _ h', sorted_pw h2⟩
theorem pw_uniq : ∀ {xs ys : List Str}, xs.Pairwise LeS → ys.Pairwise LeS → xs.Perm ys → xs = ys
  | [], ys, _, _, h => (List.nil_perm.mp h).symm
  | x :: xs, [], _, _, h => by have := h.length_eq; simp at this
  | x :: xs, y :: ys, hx, hy, h => by
    obtain ⟨h1, h2⟩ := List.pairwise_cons.mp hx
    obtain ⟨g1, g2⟩ := List.pairwise_cons.mp hy
    have e : x = y := by
      have a : x ∈ y :: ys := h.mem_iff.mp List.mem_cons_self
      have b : y ∈ x :: xs := h.mem_iff.mpr List.mem_cons_self
      rcases List.mem_cons.mp a with a | a
      · exact a
      · rcases List.mem_cons.mp b with b | b
        · exact b.symm
        · exact LeS.anti (h1 y b) (g1 x a)
    subst e
    rw [pw_uniq h2 g2 ((List.perm_cons x).mp h)]
theorem sorted_uniq {xs ys : List Str} (h : sortedS xs = true) (h' : sortedS ys = true) (p : xs.Perm ys) : xs = ys := pw_uniq (sorted_pw h) (sorted_pw h') p
theorem sorted_same {xs ys : List Str} (h : sortedS xs = true) (h' : sortedS ys = true) (n : xs.Nodup) (n' : ys.Nodup) (m : ∀ z, z ∈ xs ↔ z ∈ ys) : xs = ys := sorted_uniq h h' ((List.perm_ext_iff_of_nodup n n').mpr m)
end Kz

namespace Kx
open PySem PySem.Spec PyProof.Rows L2 NdefX Kr Ke Kn
def topS (i : Nat) : Stmt := PySem.Challenge.pw_letforget_k10_refutations.main.body.getD i (.Pass ⟨0, 0, 0, 0⟩)
/-- the built-ins that are asked -/
structure TxS (mg : Str → Option Value) : Prop extends TB mg where
  m_isinstance : mg "isinstance" = none
  m_str : mg "str" = none
  m_list : mg "list" = none
  m_tuple : mg "tuple" = none
  m_any : mg "any" = none
  m_enumerate : mg "enumerate" = none
  m_bool : mg "bool" = none
abbrev s_draws_of : Stmt := topS 5
abbrev N_draws_of : List Str := ["_law_script", "_law_pool", "_law_cell", "_law_left", "_law_k"]
theorem sc_draws_of : FnScope N_draws_of ["_law_script"] (defScope s_draws_of) := ⟨rfl, rfl, rfl, by decide +kernel, rfl, by decide +kernel, by decide +kernel⟩
abbrev s_nth : Stmt := topS 6
abbrev N_nth : List Str := ["_law_pool", "_law_k"]
theorem sc_nth : FnScope N_nth ["_law_pool", "_law_k"] (defScope s_nth) := ⟨rfl, rfl, rfl, by decide +kernel, rfl, by decide +kernel, by decide +kernel⟩
section
variable {P : Program} {w : World} {K : PySem.W.Frag} {mg : Str → Option Value} {base : Heap}
theorem ok_draws_of {f : Addr} {fd : FuncData} (F : Fun K "_law_draws_of" "_law_draws_of" s_draws_of f fd) (T : TB mg) : FnOk P w K mg base CX0 1 f fd ["_law_script"] (spDraws K) := by
  refine F.ok sc_draws_of (fun vs H Q E h => ?_) (fun cdv A outer s H vs Q E hr h => ?_)
  · obtain ⟨a, ns, rfl, _⟩ := h
    rfl
  · obtain ⟨a, ns, rfl, hS, hlen, q⟩ := h
    refine ⟨_, (pss_cons (ps_set (i := 1) sc_draws_of.nd rfl (Or.inl rfl) (pe_lst pa_nil))
      (pss_cons (ps_for PassesOwn.never rfl (pi_list (pv 0)) (pg_name (i := 2) sc_draws_of.nd rfl (Or.inl rfl))
        (pss_one (ps_if (pt_cmpR op_lt (pe_callB call_len_seq (by rfl) T.m_len (by decide +kernel) (pa_cons (pv 1) pa_nil)) pe_int (nomark _))
          (pss_cons (ps_set (i := 3) sc_draws_of.nd rfl (Or.inl rfl) (pe_callB call_abs (by rfl) T.m_abs (by decide +kernel) (pa_cons (pe_callTy call_int1 (by rfl) T.m_int (by decide +kernel) (pa_cons (pv 2) pa_nil)) pa_nil)))
          (pss_one (ps_if (pt_cmpR op_lt (pv 3) (pe_op op_pow pe_int pe_int) (nomark _))
            (pss_one (ps_for PassesOwn.never rfl (pi_range1 (by rfl) T.m_range (pa_cons pe_int pa_nil)) (pg_name (i := 4) sc_draws_of.nd rfl (Or.inl rfl))
              (pss_cons (ps_set (i := 3) sc_draws_of.nd rfl (Or.inl rfl) (pe_op op_mod (pe_callTy call_int1 (by rfl) T.m_int (by decide +kernel) (pa_cons (pe_op op_add (pe_op op_add (pe_op op_mul (pv 3) pe_int) (pe_op op_mul pe_int (pv 4))) pe_int) pa_nil)) pe_int))
              (pss_one (ps_expr (pe_bm PySem.F.plainAttrs_list PySem.F.slot_list_append PySem.F.type_list_append mt_append (pv 1) (pa_cons (pv 3) pa_nil)))))))
            (pss_one (ps_for PassesOwn.never rfl (pi_range1 (by rfl) T.m_range (pa_cons pe_int pa_nil)) (pg_name (i := 4) sc_draws_of.nd rfl (Or.inl rfl))
              (pss_one (ps_if (pt_cmpR op_gt (pv 3) pe_int (nomark _))
                (pss_cons (ps_expr (pe_bm PySem.F.plainAttrs_list PySem.F.slot_list_append PySem.F.type_list_append mt_append (pv 1) (pa_cons (pe_op op_mod (pe_callTy call_int1 (by rfl) T.m_int (by decide +kernel) (pa_cons (pv 3) pa_nil)) pe_int) pa_nil)))
                (pss_one (ps_set (i := 3) sc_draws_of.nd rfl (Or.inl rfl) (pe_op op_fdiv (pv 3) pe_int))))
                pss_nil)))))))
          pss_nil)))
      (pss_cons (ps_if (pt_cmpR (op_eqD hr.units) (pv 1) (pe_lst pa_nil) (nomark _))
        (pss_one (ps_set (i := 1) sc_draws_of.nd rfl (Or.inl rfl) (pe_lst (pa_cons pe_int (pa_cons pe_int (pa_cons pe_int (pa_cons pe_int (pa_cons pe_int (pa_cons pe_int (pa_cons pe_int (pa_cons pe_int (pa_cons pe_int (pa_cons pe_int (pa_cons pe_int (pa_cons pe_int (pa_cons pe_int pa_nil))))))))))))))))
        pss_nil)
      (pss_one (ps_ret (pv 1)))))), ?_⟩
    refine ⟨Nat.zero_le _, fun o no => ?_⟩
    -- the loop over the script
    refine ⟨.ref a, rfl, a, rfl, ⟨_, (same_upd no).seq hS⟩, ?_⟩
    refine for_list (xs := ns.map V.int) (fun i σ H1 => ∃ x2 x3 x4 ms, σ = [some (.ref a), some (.ref o), x2, x3, x4] ∧ Same H H1 ∧ H1 o = some (.lst (ms.map V.int)) ∧ ms.length ≤ 132 ∧ (ms = [] ∨ 3 ≤ ms.length) ∧ ∀ v ∈ ms, inR v)
      ⟨none, none, none, [], rfl, same_upd no, upd_same, Nat.zero_le _, .inl rfl, fun v hv => nomatch hv⟩ ?_ ?_ ?_
    · rintro i σ H1 _ ⟨_, _, _, ms, _, sm, _⟩
      exact sm.seq hS
    · rintro i x σ H1 hx ⟨x2, x3, x4, ms, rfl, sm, eo, hm, h3, hrg⟩
      obtain ⟨n, rfl⟩ : ∃ n : Int, x = .int n := by
        rw [List.getElem?_map] at hx
        cases e : ns[i]? with
        | none => rw [e] at hx; cases hx
        | some n => rw [e] at hx; exact ⟨n, (Option.some.inj hx).symm⟩
      refine ⟨_, rfl, o, _, rfl, .inl (.inl (.inl eo)), _, _, rfl, rfl, _, rfl, iteB (fun h1 => ?_) (fun h1 => ?_)⟩
      · have hl72 : ms.length < 72 := by
          have := of_decide_eq_true h1
          rw [List.length_map] at this
          omega
        refine ⟨_, rfl, .inl ⟨n, rfl, n, rfl, ?_⟩⟩
        generalize hL : (if n < 0 then -n else n) = L
        have hL0 : 0 ≤ L := by rw [← hL]; split <;> omega
        refine ⟨_, rfl, _, _, rfl, rfl, ⟨by decide, by decide, by decide⟩, _, _, rfl, rfl, _, rfl, iteB (fun h2 => ?_) (fun h2 => ?_)⟩
        · have hL1 : L < 1000000000000000000 := by rw [← pe10]; exact of_decide_eq_true h2
          refine ⟨3, rfl, by decide, by decide, ?_⟩
          refine for_range (lo := 0) (n := 3) (fun i σ H2 => ∃ x4 L ms', σ = [some (.ref a), some (.ref o), some (.int n), some (.int L), x4] ∧ Same H H2 ∧ H2 o = some (.lst (ms'.map V.int)) ∧ ms'.length = ms.length + i ∧ (∀ v ∈ ms', inR v) ∧ 0 ≤ L ∧ L < 1000000000000000000) 
            ⟨x4, L, ms, rfl, sm, eo, rfl, hrg, hL0, hL1⟩ ?_ ?_
          · rintro i σ H2 hi ⟨x4, L, ms', rfl, sm2, eo2, hm2, hrg2, hLa, hLb⟩
            refine ⟨_, rfl, _, _, rfl, rfl, .inl ⟨by omega, by omega⟩, _, rfl, _, _, rfl, rfl, .inl ⟨by decide, by decide⟩, _, _, rfl, rfl, _, _, rfl, rfl, .inl ⟨_, rfl, _, _, rfl, rfl, (by show (0 : Int) < 65521; decide), ?_⟩⟩
            refine ⟨_, rfl, .inl ⟨rfl, _, .inl (.inl eo2)⟩, _, rfl, o, _, _, rfl, rfl, eo2, sl9 (by rw [List.length_map]; omega), ?_⟩
            have hvr : inR ((L * 30011 + 7919 * (0 + (i : Int)) + 977) % 65521) := by constructor <;> omega
            refine ⟨_, (L * 30011 + 7919 * (0 + (i : Int)) + 977) % 65521, ms' ++ [(L * 30011 + 7919 * (0 + (i : Int)) + 977) % 65521], rfl, same_mut sm2 no, ?_, by rw [List.length_append, List.length_singleton]; omega, rg_app hrg2 hvr, hvr.1, by have := hvr.2; omega⟩
            rw [upd_same, map_app]
          · rintro σ H2 ⟨x4, L, ms', rfl, sm2, eo2, hm2, hrg2, hLa, hLb⟩
            exact ⟨_, _, _, ms', rfl, sm2, eo2, by omega, .inr (by omega), hrg2⟩
        · have hL1 : 1000000000000000000 ≤ L := by
            have := of_decide_eq_false h2
            rw [pe10] at this
            omega
          refine ⟨60, rfl, by decide, by decide, ?_⟩
          refine for_range (lo := 0) (n := 60) (fun i σ H2 => ∃ x4 L ms', σ = [some (.ref a), some (.ref o), some (.int n), some (.int L), x4] ∧ Same H H2 ∧ H2 o = some (.lst (ms'.map V.int)) ∧ ms'.length ≤ ms.length + i ∧ (∀ v ∈ ms', inR v) ∧ 0 ≤ L ∧
              (i = 0 → 1000000000000000000 ≤ L) ∧ (i = 1 → 10000000000 ≤ L ∧ 1 ≤ ms'.length) ∧ (i = 2 → 100000 ≤ L ∧ 2 ≤ ms'.length) ∧ (3 ≤ i → 3 ≤ ms'.length)) 
            ⟨x4, L, ms, rfl, sm, eo, Nat.le_refl _, hrg, hL0, fun _ => hL1, by omega, by omega, by omega⟩ ?_ ?_
          · rintro i σ H2 hi ⟨x4, L, ms', rfl, sm2, eo2, hm2, hrg2, hLa, c0, c1, c2, c3⟩
            refine ⟨_, rfl, _, _, rfl, rfl, _, rfl, iteB (fun h4 => ?_) (fun h4 => ?_)⟩
            · refine ⟨_, rfl, .inl ⟨rfl, _, .inl (.inl eo2)⟩, _, rfl, .inl ⟨_, rfl, _, _, rfl, rfl, (by show (0 : Int) < 65536; decide), o, _, _, rfl, rfl, eo2, sl9 (by rw [List.length_map]; omega), ?_⟩⟩
              refine ⟨_, rfl, _, _, rfl, rfl, ⟨by decide, by decide⟩, ?_⟩
              have hvr : inR (L % 65536) := by constructor <;> omega
              refine ⟨_, L / 65536, ms' ++ [L % 65536], rfl, same_mut sm2 no, ?_, by rw [List.length_append, List.length_singleton]; omega, rg_app hrg2 hvr, by omega, by omega, ?_, ?_, ?_⟩
              · rw [upd_same, map_app]
              · intro e; rw [List.length_append, List.length_singleton]; have := c0 (by omega); constructor <;> omega
              · intro e; rw [List.length_append, List.length_singleton]; have := c1 (by omega); constructor <;> omega
              · intro e; rw [List.length_append, List.length_singleton]
                by_cases e2 : i = 2
                · have := c2 e2; omega
                · have := c3 (by omega); omega
            · have h4' : ¬ (0 < L) := of_decide_eq_false h4
              refine ⟨_, L, ms', rfl, sm2, eo2, by omega, hrg2, hLa, by omega, ?_, ?_, ?_⟩
              · intro e; have := c0 (by omega); omega
              · intro e; have := c1 (by omega); omega
              · intro e
                by_cases e2 : i = 2
                · have := c2 e2; omega
                · exact c3 (by omega)
          · rintro σ H2 ⟨x4, L, ms', rfl, sm2, eo2, hm2, hrg2, hLa, c0, c1, c2, c3⟩
            exact ⟨_, _, _, ms', rfl, sm2, eo2, by omega, .inr (c3 (by omega)), hrg2⟩
      · exact ⟨_, _, _, ms, rfl, sm, eo, hm, h3, hrg⟩
    · rintro σ H1 ⟨x2, x3, x4, ms, rfl, sm, eo, hm, h3, hrg⟩
      refine ⟨_, rfl, Nat.zero_le _, fun p np => ?_⟩
      have nop : o ≠ p := ne_of_none eo np
      refine ⟨_, .list [], .lst (.inl (.inl ((upd_ne nop).trans eo))) (dp_ints ms), .lst (.inl (.inl upd_same)) .nil, shp_ints ms, by decide, _, rfl, iteB (fun h1 => ?_) (fun h1 => ?_)⟩
      · refine ⟨by show 13 ≤ sizeLine; decide, fun r nr => ⟨_, rfl, ?_⟩⟩
        have s1 : Same H (upd H1 p (.lst [])) := sm.trans (same_upd np)
        refine q _ r [2, 10, 1, 0, 4, 0, 1052, 0, 148, 26, 132, 0, 20] (s1.trans (same_upd nr)) (s1.free nr) upd_same ⟨by decide, by decide, ?_⟩
        intro v hv
        simp only [List.mem_cons, List.not_mem_nil, or_false] at hv
        unfold inR
        omega
      · rw [eqv_nil] at h1
        have h3' : 3 ≤ ms.length := by
          rcases h3 with rfl | h3
          · simp at h1
          · exact h3
        refine ⟨_, rfl, ?_⟩
        refine q _ o ms (sm.trans (same_upd np)) no ((upd_ne nop).trans eo) ⟨h3', by omega, hrg⟩
theorem ok_nth {f : Addr} {fd : FuncData} (F : Fun K "_law_nth" "_law_nth" s_nth f fd) (T : TB mg) : FnOk P w K mg base CX0 1 f fd ["_law_pool", "_law_k"] (spNth K) := by
  refine F.ok sc_nth (fun vs H Q E h => ?_) (fun cdv A outer s H vs Q E hr h => ?_)
  · obtain ⟨p, ms, k, rfl, _⟩ := h
    rfl
  · obtain ⟨p, ms, k, rfl, hS, hP, hk0, hk1, q⟩ := h
    refine ⟨_, (pss_cons (ps_if (pt_cmpR op_lt (pv 1) (pe_callB call_len_seq (by rfl) T.m_len (by decide +kernel) (pa_cons (pv 0) pa_nil)) (nomark _))
        (pss_one (ps_ret (pe_ix ix_list (pv 0) (pv 1) (fun _ _ => rfl))))
        pss_nil)
      (pss_one (ps_ret (pe_op op_mod (pe_callTy call_int1 (by rfl) T.m_int (by decide +kernel) (pa_cons (pe_op op_add (pe_op op_mul (pe_ix ix_list (pv 0) (pe_op op_mod (pv 1) (pe_callB call_len_seq (by rfl) T.m_len (by decide +kernel) (pa_cons (pv 0) pa_nil))) (fun _ _ => rfl)) pe_int) (pe_op op_mul (pv 1) pe_int)) pa_nil)) pe_int)))), ?_⟩
    have hl : (ms.map V.int).length = ms.length := List.length_map _
    have hlo := hP.lo
    refine ⟨_, rfl, _, rfl, p, _, rfl, .inl hS, _, _, rfl, rfl, _, rfl, iteB (fun h1 => ?_) (fun h1 => ?_)⟩
    · have h1' : k < (ms.length : Int) := by have := of_decide_eq_true h1; rw [hl] at this; exact this
      refine ⟨_, rfl, _, rfl, p, _, k, _, rfl, rfl, hS, at_pool hk0 h1', ?_⟩
      have e : nthV ms k = ms.getD k.toNat 0 := if_pos h1'
      rw [← e]
      exact q
    · have h1' : ¬ k < (ms.length : Int) := by have := of_decide_eq_false h1; rw [hl] at this; exact this
      have hi : (k % (ms.length : Int)).toNat < ms.length := by
        have h0 := Int.emod_nonneg k (show (ms.length : Int) ≠ 0 by omega)
        have h1 := Int.emod_lt_of_pos k (show 0 < (ms.length : Int) by omega)
        omega
      have hv := (getD_rg hP.rg hi).2
      refine ⟨_, rfl, _, rfl, _, rfl, p, _, rfl, .inl hS, _, _, rfl, rfl, (by show (0 : Int) < (((ms.map V.int).length : Nat) : Int); rw [hl]; omega), ?_⟩
      rw [hl]
      refine ⟨p, _, _, _, rfl, rfl, hS, at_pool (Int.emod_nonneg k (by omega)) (Int.emod_lt_of_pos k (by omega)), _, _, rfl, rfl, .inr ⟨by decide, by decide⟩, _, rfl, _, _, rfl, rfl, .inl ⟨by omega, by omega⟩, _, _, rfl, rfl, .inl ⟨_, rfl, _, _, rfl, rfl, (by show (0 : Int) < 65521; decide), ?_⟩⟩
      have e : nthV ms k = (ms.getD (k % (ms.length : Int)).toNat 0 * 31 + k * 7919) % 65521 := if_neg h1'
      rw [e] at q
      exact q
end
end Kx

namespace Kx
open PySem PySem.Spec PyProof.Rows L2 NdefX Kr Ke Kn
abbrev s_named : Stmt := topS 7
abbrev N_named : List Str := ["_law_k", "_law_style", "_law_one", "_law_kind", "_law_words", "_law_base"]
theorem sc_named : FnScope N_named ["_law_k", "_law_style"] (defScope s_named) := ⟨rfl, rfl, rfl, by decide +kernel, rfl, by decide +kernel, by decide +kernel⟩
def spNamed : Sp := fun vs H Q _ => ∃ k st : Int, vs = [.int k, .int st] ∧ 0 ≤ k ∧ k < 16 ∧ 0 ≤ st ∧ st < 70000 ∧ ∀ H', Same H H' → Q (.str (nameV k st)) H'
theorem a26_len2 : A26.length ≤ 100000 := by decide +kernel
theorem small_log {i : Int} (h : i.natAbs < 20000) : i.natAbs.log2 < 1920 := by
  by_cases h0 : i.natAbs = 0
  · rw [h0]
    decide
  · exact (Nat.log2_lt h0).mpr (Nat.lt_of_lt_of_le h (by decide +kernel))
theorem ws_at {k : Int} (h0 : 0 ≤ k) : atI (WS.map V.str) (k % 10) = some (.str (WS.getD (k % 10).toNat "")) := by
  obtain ⟨j, hj⟩ : ∃ j : Nat, k % 10 = (j : Int) := ⟨(k % 10).toNat, by omega⟩
  rw [hj, Int.toNat_natCast]
  have hl : j < WS.length := by show j < 10; omega
  refine atI_nat ?_
  rw [List.getElem?_map, List.getElem?_eq_getElem hl, List.getD_eq_getElem?_getD, List.getElem?_eq_getElem hl]
  rfl
theorem ws_sht (j : Nat) : Sht (WS.getD j "") 8 := by
  by_cases hl : j < WS.length
  · rw [List.getD_eq_getElem?_getD, List.getElem?_eq_getElem hl]
    have h : ∀ z ∈ WS, z.length ≤ 8 ∧ ∀ c ∈ z.cps.toList, c < 1114112 := by decide +kernel
    exact h _ (List.getElem_mem hl)
  · rw [List.getD_eq_getElem?_getD, List.getElem?_eq_none (by omega)]
    exact ⟨by decide, by decide +kernel⟩
theorem sl {x y : Str} {n m : Nat} (h : Sht x n) (h' : Sht y m) (hn : n + m ≤ 100000) : x.length + y.length ≤ sizeLine := sz9 (by have := h.1; have := h'.1; omega)
theorem ifI {i j : Int} {A B : Prop} (h1 : i = j → A) (h2 : i ≠ j → B) : if decide (V.int i = V.int j) = true then A else B := by
  by_cases h : i = j
  · rw [if_pos (decide_eq_true (congrArg V.int h))]
    exact h1 h
  · rw [if_neg (fun e => h (by injection of_decide_eq_true e))]
    exact h2 h
section
variable {P : Program} {w : World} {K : PySem.W.Frag} {mg : Str → Option Value} {base : Heap}
theorem ok_named {f : Addr} {fd : FuncData} (F : Fun K "_law_named" "_law_named" s_named f fd) (T : TxS mg) : FnOk P w K mg base CX0 1 f fd ["_law_k", "_law_style"] spNamed := by
  refine F.ok sc_named (fun vs H Q E h => ?_) (fun cdv A outer s H vs Q E hr h => ?_)
  · obtain ⟨k, st, rfl, _⟩ := h
    rfl
  · obtain ⟨k, st, rfl, k0, k1, s0, s1, q⟩ := h
    refine ⟨_, (pss_cons (ps_set (i := 2) sc_named.nd rfl (Or.inl rfl) (pe_ix ix_str pe_str (pe_op op_mod (pe_callTy call_int1 (by rfl) T.m_int (by decide +kernel) (pa_cons (pe_op op_add (pe_op op_mul (pv 0) pe_int) (pe_op op_fdiv (pv 1) pe_int)) pa_nil)) pe_int) (fun _ _ => rfl)))
      (pss_cons (ps_set (i := 3) sc_named.nd rfl (Or.inl rfl) (pe_op op_mod (pe_callTy call_int1 (by rfl) T.m_int (by decide +kernel) (pa_cons (pv 1) pa_nil)) pe_int))
      (pss_cons (ps_if (PW.pt (pw_and (pt_cmpR op_eq (pv 3) pe_int (nomark _)) (pw_and1 (pt_cmpR op_eq (pe_op op_mod (pe_op op_fdiv (pe_callTy call_int1 (by rfl) T.m_int (by decide +kernel) (pa_cons (pv 1) pa_nil)) pe_int) pe_int) pe_int (nomark _)))))
        (pss_cons (ps_set (i := 4) sc_named.nd rfl (Or.inl rfl) (pe_lst (pa_cons pe_str (pa_cons pe_str (pa_cons pe_str (pa_cons pe_str (pa_cons pe_str (pa_cons pe_str (pa_cons pe_str (pa_cons pe_str (pa_cons pe_str (pa_cons pe_str pa_nil))))))))))))
        (pss_one (ps_ret (pe_op op_add_str (pe_ix ix_list (pv 4) (pe_op op_mod (pe_callTy call_int1 (by rfl) T.m_int (by decide +kernel) (pa_cons (pv 0) pa_nil)) pe_int) (fun _ _ => rfl)) (pe_op op_repE pe_str (pe_op op_fdiv (pe_callTy call_int1 (by rfl) T.m_int (by decide +kernel) (pa_cons (pv 0) pa_nil)) pe_int))))))
        pss_nil)
      (pss_cons (ps_if (PW.pt (pw_and (pt_cmpR op_eq (pv 3) pe_int (nomark _)) (pw_and1 (pt_cmpR op_eq (pe_op op_mod (pe_op op_fdiv (pe_callTy call_int1 (by rfl) T.m_int (by decide +kernel) (pa_cons (pv 1) pa_nil)) pe_int) pe_int) pe_int (nomark _)))))
        (pss_one (ps_ret (pe_op op_add_str (pe_op op_repE pe_str (pe_op op_fdiv (pe_callTy call_int1 (by rfl) T.m_int (by decide +kernel) (pa_cons (pv 0) pa_nil)) pe_int)) (pe_op op_repE pe_str (pe_op op_add (pe_op op_mod (pe_callTy call_int1 (by rfl) T.m_int (by decide +kernel) (pa_cons (pv 0) pa_nil)) pe_int) pe_int)))))
        pss_nil)
      (pss_cons (ps_if (pt_cmpR op_eq (pv 3) pe_int (nomark _))
        (pss_one (ps_ret (pe_op op_add_str (pe_op op_repE pe_str (pe_op op_mod (pe_callTy call_int1 (by rfl) T.m_int (by decide +kernel) (pa_cons (pv 0) pa_nil)) pe_int)) (pv 2))))
        pss_nil)
      (pss_cons (ps_if (pt_cmpR op_eq (pv 3) pe_int (nomark _))
        (pss_cons (ps_set (i := 5) sc_named.nd rfl (Or.inl rfl) (pe_op op_add_str (pv 2) (pe_callTy call_str_int (by rfl) T.m_str (by decide +kernel) (pa_cons (pe_op op_mod (pe_callTy call_int1 (by rfl) T.m_int (by decide +kernel) (pa_cons (pe_op op_fdiv (pv 1) pe_int) pa_nil)) pe_int) pa_nil))))
        (pss_cons (ps_if (pt_cmpR op_eq (pe_op op_mod (pe_callTy call_int1 (by rfl) T.m_int (by decide +kernel) (pa_cons (pv 0) pa_nil)) pe_int) pe_int (nomark _))
          (pss_one (ps_ret (pe_op op_add_str (pv 5) (pe_op op_repE pe_str (pe_op op_sub pe_int (pe_callB call_len_str (by rfl) T.m_len (by decide +kernel) (pa_cons (pv 5) pa_nil)))))))
          pss_nil)
        (pss_one (ps_ret (pe_op op_add_str (pv 5) (pe_op op_repE pe_str (pe_op op_mod (pe_callTy call_int1 (by rfl) T.m_int (by decide +kernel) (pa_cons (pv 0) pa_nil)) pe_int)))))))
        pss_nil)
      (pss_cons (ps_if (pt_cmpR op_eq (pv 3) pe_int (nomark _))
        (pss_one (ps_ret (pe_op op_add_str pe_str (pe_callTy call_str_int (by rfl) T.m_str (by decide +kernel) (pa_cons (pe_op op_sub pe_int (pe_op op_mul pe_int (pv 0))) pa_nil)))))
        pss_nil)
      (pss_one (ps_ret (pv 2)))))))))), ?_⟩
    have hc := at_26 k st
    have one := sht_one k st
    refine ⟨_, rfl, _, _, rfl, rfl, .inr ⟨by decide, by decide⟩, _, rfl, _, _, rfl, rfl, ⟨by decide, by decide⟩, _, _, rfl, rfl, .inl ⟨_, rfl, _, _, rfl, rfl, (by show (0 : Int) < 26; decide), A26, _, _, rfl, rfl, sz9 a26_len2, hc, ?_⟩⟩
    refine ⟨_, rfl, .inl ⟨_, rfl, _, _, rfl, rfl, (by show (0 : Int) < 4; decide), ?_⟩⟩
    have Wret : st % 4 = 1 ∧ st / 4 % 2 = 1 → nameV k st = WS.getD (k % 10).toNat "" ++ repT 50 (k / 10).toNat := fun c => if_pos c
    have c50 : ("2" : Str).cps = #[50] := by decide +kernel
    have c98 : ("b" : Str).cps = #[98] := by decide +kernel
    have c97 : ("a" : Str).cps = #[97] := by decide +kernel
    have c113 : ("q" : Str).cps = #[113] := by decide +kernel
    have c120 : ("x" : Str).cps = #[120] := by decide +kernel
    refine ⟨_, rfl, rfl, _, rfl, ifI (fun a1 => ?_) (fun a1 => ?_)⟩
    · refine ⟨_, rfl, .inl ⟨_, rfl, _, _, rfl, rfl, ⟨by decide, by decide⟩, _, _, rfl, rfl, (by show (0 : Int) < 2; decide), rfl, _, rfl, ifI (fun b1 => ?_) (fun b1 => ?_)⟩⟩
      · refine ⟨by show 10 ≤ sizeLine; decide, fun l nl => ?_⟩
        refine ⟨_, rfl, _, rfl, .inl ⟨_, rfl, _, _, rfl, rfl, (by show (0 : Int) < 10; decide), l, _, _, _, rfl, rfl, .inl (.inl upd_same), ws_at k0, ?_⟩⟩
        refine ⟨_, rfl, .inl ⟨_, rfl, _, _, rfl, rfl, ⟨by decide, by decide⟩, "2", 50, _, rfl, rfl, c50, by omega, by omega, _, _, rfl, rfl, sl (ws_sht _) (sht_rep (by decide)) (by omega), ?_⟩⟩
        have hq := q _ (same_upd (o := .lst (WS.map V.str)) nl)
        rw [Wret ⟨a1, b1⟩] at hq
        exact hq
      · refine ⟨_, rfl, rfl, _, rfl, ifI (fun h => absurd h (by omega)) (fun _ => ?_)⟩
        refine ⟨_, rfl, rfl, _, rfl, ifI (fun _ => ?_) (fun h => absurd a1 h)⟩
        refine ⟨_, rfl, .inl ⟨_, rfl, _, _, rfl, rfl, (by show (0 : Int) < 3; decide), "q", 113, _, rfl, rfl, c113, by omega, by omega, ?_⟩⟩
        refine ⟨_, rfl, _, _, rfl, rfl, sl (sht_rep (by decide)) one (by omega), ?_⟩
        have hq := q _ (Same.refl H)
        rw [show nameV k st = repT 113 (k % 3).toNat ++ ⟨#[oneV k st]⟩ by unfold nameV; rw [if_neg (fun h => b1 h.2), if_neg (by omega), if_pos a1]] at hq
        exact hq
    · refine ⟨_, rfl, rfl, _, rfl, ifI (fun a3 => ?_) (fun a3 => ?_)⟩
      · refine ⟨_, rfl, .inl ⟨_, rfl, _, _, rfl, rfl, ⟨by decide, by decide⟩, _, _, rfl, rfl, (by show (0 : Int) < 2; decide), rfl, _, rfl, ifI (fun b1 => ?_) (fun b1 => ?_)⟩⟩
        · refine ⟨_, rfl, .inl ⟨_, rfl, _, _, rfl, rfl, ⟨by decide, by decide⟩, "b", 98, _, rfl, rfl, c98, by omega, by omega, ?_⟩⟩
          refine ⟨_, rfl, .inl ⟨_, rfl, _, _, rfl, rfl, (by show (0 : Int) < 7; decide), _, _, rfl, rfl, "a", 97, _, rfl, rfl, c97, by omega, by omega, _, _, rfl, rfl, sl (sht_rep (by decide)) (sht_rep (by decide)) (by omega), ?_⟩⟩
          have hq := q _ (Same.refl H)
          rw [show nameV k st = repT 98 (k / 7).toNat ++ repT 97 (k % 7 + 1).toNat by unfold nameV; rw [if_neg (by omega), if_pos ⟨a3, b1⟩]] at hq
          exact hq
        · refine ⟨_, rfl, rfl, _, rfl, ifI (fun h => absurd h (by omega)) (fun _ => ?_)⟩
          refine ⟨_, rfl, rfl, _, rfl, ifI (fun h => absurd h (by omega)) (fun _ => ?_)⟩
          refine ⟨_, rfl, rfl, _, rfl, ifI (fun _ => ?_) (fun h => absurd a3 h)⟩
          obtain ⟨m, rfl⟩ : ∃ m : Nat, k = (m : Int) := ⟨k.toNat, by omega⟩
          have hs : Sht (m7 m) 12 := (fin_of fin_m7 (show m < 16 by omega)).1
          have hl2 : (tS (100 - 7 * (m : Int))).length ≤ 12 := by
            have h1 : (m7 m).length = ("m" : Str).length + (tS (100 - 7 * (m : Int))).length := Array.size_append
            have := hs.1
            omega
          refine ⟨_, rfl, _, _, rfl, rfl, .inl ⟨by decide, by decide⟩, _, _, rfl, rfl, _, rfl, small_log (by omega), _, _, rfl, rfl, sz9 (Nat.le_trans (Nat.add_le_add (show ("m" : Str).length ≤ 1 by decide +kernel) hl2) (by decide)), ?_⟩
          have hq := q _ (Same.refl H)
          rw [show nameV (m : Int) st = ("m" : Str) ++ tS (100 - 7 * (m : Int)) by unfold nameV; rw [if_neg (by omega), if_neg (fun h => b1 h.2), if_neg (by omega), if_neg (by omega), if_pos a3]] at hq
          exact hq
      · refine ⟨_, rfl, rfl, _, rfl, ifI (fun h => absurd h a1) (fun _ => ?_)⟩
        refine ⟨_, rfl, rfl, _, rfl, ifI (fun a2 => ?_) (fun a2 => ?_)⟩
        · have base := base_len k st
          have hb := base.1
          obtain ⟨m, hm⟩ : ∃ m : Nat, st / 4 % 10000 = (m : Int) := ⟨(st / 4 % 10000).toNat, by omega⟩
          have hsm : Sht (tS (st / 4 % 10000)) 10 := by rw [hm]; exact tS_sht (by omega)
          have hN : nameV k st = if k % 4 = 3 then baseV k st ++ repT 120 (8 - ((baseV k st).length : Int)).toNat else baseV k st ++ repT 120 (k % 4).toNat := by
            unfold nameV; rw [if_neg (by omega), if_neg (by omega), if_neg (by omega), if_pos a2]
          refine ⟨_, rfl, _, rfl, _, _, rfl, rfl, ⟨by decide, by decide⟩, .inl ⟨_, rfl, _, _, rfl, rfl, (by show (0 : Int) < 10000; decide), _, rfl, small_log (by omega), ?_⟩⟩
          refine ⟨_, _, rfl, rfl, sl one hsm (by omega), ?_⟩
          refine ⟨_, rfl, .inl ⟨_, rfl, _, _, rfl, rfl, (by show (0 : Int) < 4; decide), rfl, _, rfl, ifI (fun b2 => ?_) (fun b2 => ?_)⟩⟩
          · rw [if_pos b2] at hN
            refine ⟨_, rfl, _, rfl, baseV k st, rfl, base.sz (by omega), _, _, rfl, rfl, "x", 120, _, rfl, rfl, c120, by omega, by omega, baseV k st, _, rfl, rfl, sl (n := 11) (m := 11) base ((sht_rep (c := 120) (n := (8 - ((baseV k st).length : Int)).toNat) (by decide)).le (by omega)) (by omega), ?_⟩
            have hq := q _ (Same.refl H)
            rw [hN] at hq
            exact hq
          · rw [if_neg b2] at hN
            refine ⟨_, rfl, _, rfl, .inl ⟨_, rfl, _, _, rfl, rfl, (by show (0 : Int) < 4; decide), "x", 120, _, rfl, rfl, c120, by omega, by omega, baseV k st, _, rfl, rfl, sl base (sht_rep (by decide)) (by omega), ?_⟩⟩
            have hq := q _ (Same.refl H)
            rw [hN] at hq
            exact hq
        · refine ⟨_, rfl, rfl, _, rfl, ifI (fun h => absurd h a3) (fun _ => ?_)⟩
          refine ⟨_, rfl, ?_⟩
          have hq := q _ (Same.refl H)
          rw [show nameV k st = ⟨#[oneV k st]⟩ by unfold nameV; rw [if_neg (by omega), if_neg (by omega), if_neg a1, if_neg a2, if_neg a3]] at hq
          exact hq
end
end Kx

namespace Kx
open PySem PySem.Spec PyProof.Rows L2 NdefX Kr Ke Kn Kg StX Kz SkE
theorem hu65 {k : Nat} {A : Around} (r : Room k A) : A.units + 65 < cLine := by have := r.un; omega
theorem pd_mono {α β : Type} {F G : α → β → Prop} (h : ∀ a b, F a b → G a b) : ∀ {xs : List α} {ys : List β}, Paired F xs ys → Paired G xs ys
  | _, _, .nil => .nil
  | _, _, .cons a r => .cons (h _ _ a) (pd_mono h r)
theorem pd_len {α β : Type} {F : α → β → Prop} : ∀ {xs : List α} {ys : List β}, Paired F xs ys → xs.length = ys.length
  | _, _, .nil => rfl
  | _, _, .cons a r => by rw [List.length_cons, List.length_cons, pd_len r]
theorem pd_get {α β : Type} {F : α → β → Prop} : ∀ {xs : List α} {ys : List β}, Paired F xs ys → ∀ {i : Nat} {x : α}, xs[i]? = some x → ∃ y, ys[i]? = some y ∧ F x y
  | _, _, .nil, i, x, h => by simp at h
  | _, _, .cons (a := a) (b := b) f r, 0, x, h => ⟨b, rfl, by have e : a = x := by simpa using h
                                                              exact e ▸ f⟩
  | _, _, .cons f r, i + 1, x, h => by
    obtain ⟨y, h1, h2⟩ := pd_get r (i := i) (x := x) (by simpa using h)
    exact ⟨y, by simpa using h1, h2⟩
theorem txt_flat (zs : List Str) : (zs.map V.str).all flatV = true := by
  rw [List.all_eq_true]
  intro x hx
  obtain ⟨z, _, rfl⟩ := List.mem_map.mp hx
  rfl
theorem inV_txt (z : Str) (zs : List Str) : inV (.str z) (zs.map V.str) = decide (z ∈ zs) := by
  show (zs.map V.str).any (fun y => eqV y (.str z)) = _
  rw [List.any_map]
  by_cases h : z ∈ zs
  · rw [decide_eq_true h, List.any_eq_true]
    exact ⟨z, h, beq_self_eq_true z⟩
  · rw [decide_eq_false h, List.any_eq_false]
    intro y hy e
    have e' : (y == z) = true := e
    exact h (beq_iff_eq.mp e' ▸ hy)
theorem at_last {l : List Str} {e : Str} (h : l.getLast? = some e) : atI (l.map V.str) (-1) = some (.str e) := by
  have hne : l ≠ [] := fun z => by rw [z] at h; cases h
  have e2 : l = l.dropLast ++ [e] := by
    have h1 := List.dropLast_concat_getLast hne
    rw [List.getLast?_eq_some_getLast hne] at h
    rw [← Option.some.inj h]
    exact h1.symm
  rw [e2, List.map_append]
  exact atI_last _ _
theorem str_get {zs : List Str} {j : Nat} {x : V} (h : (zs.map V.str)[j]? = some x) : ∃ y, zs[j]? = some y ∧ x = .str y := by
  rw [List.getElem?_map] at h
  cases e : zs[j]? with
  | none => rw [e] at h; cases h
  | some n => rw [e] at h; exact ⟨n, rfl, (Option.some.inj h).symm⟩
theorem take_one {α : Type} {zs : List α} {j : Nat} {y : α} (h : zs[j]? = some y) : zs.take (j + 1) = zs.take j ++ [y] := by
  rw [List.take_add_one, h]
  rfl
theorem cut_take {zs : List Str} {k : Nat} (h : k ≤ zs.length) : cutV (zs.map V.str) none (some (k : Int)) = (zs.take k).map V.str := by
  unfold cutV
  rw [HT.sIx_none, HT.sIx_nat, List.drop_zero, Nat.sub_zero, List.length_map, Nat.min_eq_left h, List.map_take]
theorem eqv_nil2 (p : List Str) : PyData.eqv (.list (tD p)) (.list []) = decide (p = []) := by
  have := eqv_txts p []
  simp only [PyData.eqv]
  exact this
theorem nd_push {α : Type} {l : List α} {x : α} (h : l.Nodup) (hx : x ∉ l) : (l ++ [x]).Nodup := by
  rw [List.nodup_append]
  refine ⟨h, by simp, fun a ha b hb e => ?_⟩
  rw [List.mem_singleton.mp hb] at e
  exact hx (e ▸ ha)
theorem eqv_lst (p q : List Str) : PyData.eqv (.list (tD p)) (.list (tD q)) = decide (p = q) := by
  have := eqv_txts p q
  simp only [PyData.eqv]
  exact this
theorem cutV_map (zs : List Str) (lo hi : Option Int) : ∃ ys : List Str, cutV (zs.map V.str) lo hi = ys.map V.str ∧ ∀ y ∈ ys, y ∈ zs := by
  unfold cutV
  rw [← List.map_drop, ← List.map_take]
  exact ⟨_, rfl, fun y hy => List.mem_of_mem_drop (List.mem_of_mem_take hy)⟩
theorem cut_drop {zs : List Str} : cutV (zs.map V.str) (some 1) none = (zs.drop 1).map V.str := by
  unfold cutV
  have h : HT.sIx (zs.map V.str).length 0 (some 1) = min 1 zs.length := by rw [List.length_map]; exact HT.sIx_nat _ _ 1
  rw [h, HT.sIx_none]
  cases zs with
  | nil => rfl
  | cons z zs =>
    rw [show min 1 (z :: zs).length = 1 by rw [List.length_cons]; omega, List.length_map, List.length_cons]
    show ((zs.map V.str).take _) = zs.map V.str
    rw [List.take_of_length_le]
    rw [List.length_map]
    omega
def bitV (mask : Int) (j : Nat) : Bool := decide (mask / 2 ^ j % 2 = 1)
def pickV (mask : Int) (n : Nat) (st : Int) : List Str := ((List.range n).filter (bitV mask)).map fun j : Nat => nameV (j : Int) st
theorem pick_succ (mask : Int) (n : Nat) (st : Int) : pickV mask (n + 1) st = if bitV mask n = true then pickV mask n st ++ [nameV (n : Int) st] else pickV mask n st := by
  unfold pickV
  rw [List.range_succ, List.filter_append, List.map_append]
  by_cases h : bitV mask n = true
  · rw [if_pos h, List.filter_cons_of_pos h]
    rfl
  · rw [if_neg h, List.filter_cons_of_neg h]
    simp
theorem pick_len (mask : Int) (n : Nat) (st : Int) : (pickV mask n st).length ≤ n := by
  unfold pickV
  rw [List.length_map]
  have := List.length_filter_le (bitV mask) (List.range n)
  rw [List.length_range] at this
  exact this
theorem pick_mem {mask : Int} {n : Nat} {st : Int} {z : Str} (h : z ∈ pickV mask n st) : ∃ j, j < n ∧ z = nameV (j : Int) st := by
  unfold pickV at h
  obtain ⟨j, hj, e⟩ := List.mem_map.mp h
  exact ⟨j, List.mem_range.mp (List.mem_filter.mp hj).1, e.symm⟩
def spPicked : Sp := fun vs H Q _ => ∃ (mask : Int) (n : Nat) (st : Int), vs = [.int mask, .int (n : Int), .int st] ∧ 0 ≤ mask ∧ n ≤ 16 ∧ 0 ≤ st ∧ st < 70000 ∧ ∀ p H', Same H H' → H p = none → H' p = some (.lst ((pickV mask n st).map V.str)) → Q (.ref p) H'
abbrev s_picked : Stmt := topS 8
abbrev N_picked : List Str := ["_law_mask", "_law_many", "_law_style", "_law_picked_here", "_law_j"]
theorem sc_picked : FnScope N_picked ["_law_mask", "_law_many", "_law_style"] (defScope s_picked) := ⟨rfl, rfl, rfl, by decide +kernel, rfl, by decide +kernel, by decide +kernel⟩
section
variable {P : Program} {w : World} {K : PySem.W.Frag} {mg : Str → Option Value} {base : Heap}
theorem ok_picked {f : Addr} {fd : FuncData} (F : Fun K "_law_picked" "_law_picked" s_picked f fd) (T : TxS mg) (C_named : Cal P w K mg base "_law_named" 1 spNamed) : FnOk P w K mg base CX0 2 f fd ["_law_mask", "_law_many", "_law_style"] spPicked := by
  refine F.ok sc_picked (fun vs H Q E h => ?_) (fun cdv A outer s H vs Q E hr h => ?_)
  · obtain ⟨mask, n, st, rfl, _⟩ := h
    rfl
  · obtain ⟨mask, n, st, rfl, h0, hn, s0, s1, q⟩ := h
    refine ⟨_, (pss_cons (ps_set (i := 3) sc_picked.nd rfl (Or.inl rfl) (pe_lst pa_nil))
      (pss_cons (ps_for PassesOwn.never rfl (pi_range1 (by rfl) T.m_range (pa_cons (pv 1) pa_nil)) (pg_name (i := 4) sc_picked.nd rfl (Or.inl rfl))
        (pss_one (ps_if (pt_cmpR op_eq (pe_op op_mod (pe_callTy call_int1 (by rfl) T.m_int (by decide +kernel) (pa_cons (pe_op op_shr (pv 0) (pv 4)) pa_nil)) pe_int) pe_int (nomark _))
          (pss_one (ps_expr (pe_bm PySem.F.plainAttrs_list PySem.F.slot_list_append PySem.F.type_list_append mt_append (pv 3) (pa_cons (pe_cal C_named (hr.mono (by decide)) (by rfl) (pa_cons (pv 4) (pa_cons (pv 2) pa_nil))) pa_nil))))
          pss_nil)))
      (pss_one (ps_ret (pv 3))))), ?_⟩
    refine ⟨by show 0 ≤ sizeLine; decide, fun l nl => ?_⟩
    refine ⟨_, rfl, (n : Int), rfl, by omega, by omega, ?_⟩
    refine for_range (lo := 0) (n := ((n : Int)).toNat) (fun i σ H1 => ∃ x4 : Option V, σ = [some (.int mask), some (.int (n : Int)), some (.int st), some (.ref l), x4] ∧ Same H H1 ∧ H1 l = some (.lst ((pickV mask i st).map V.str)))
      ⟨none, rfl, same_upd nl, upd_same⟩ ?_ ?_
    · rintro i σ H1 hi ⟨x4, rfl, sm, el⟩
      have hi' : i < n := by omega
      have hpl := pick_len mask i st
      refine ⟨_, rfl, _, rfl, mask, _, rfl, rfl, by omega, .inl ⟨_, rfl, _, _, rfl, rfl, (by show (0 : Int) < 2; decide), rfl, _, rfl, ifI (fun hb => ?_) (fun hb => ?_)⟩⟩
      · have hb' : bitV mask i = true := decide_eq_true (by rw [show ((0 : Int) + (i : Int)).toNat = i by omega] at hb; exact hb)
        refine ⟨_, rfl, .inl ⟨rfl, _, .inl (.inl el)⟩, _, rfl, _, rfl, _, st, rfl, by omega, by omega, s0, s1, fun H2 s2 => ?_⟩
        have el2 := s2 _ _ el
        refine ⟨l, _, _, rfl, rfl, el2, sz8 (by rw [List.length_map]; omega), ?_⟩
        refine ⟨_, rfl, same_mut (sm.trans s2) nl, ?_⟩
        rw [upd_same, pick_succ, if_pos hb', List.map_append, Int.zero_add]
        rfl
      · have hb' : ¬ bitV mask i = true := fun h => hb (by
          have := of_decide_eq_true h
          rw [show ((0 : Int) + (i : Int)).toNat = i by omega]
          exact this)
        refine ⟨_, rfl, sm, ?_⟩
        rw [pick_succ, if_neg hb']
        exact el
    · rintro σ H1 ⟨x4, rfl, sm, el⟩
      exact ⟨_, rfl, q l H1 sm nl (by rw [Int.toNat_natCast] at el; exact el)⟩
end
end Kx

namespace Kx
open PySem PySem.Spec PyProof.Rows L2 NdefX Kr Ke Kn Kg StX Kz SkE
theorem for_enum {K : PySem.W.Frag} {a : Addr} {xs : List V} {g : TG} {tb : TS} {D : Ends} {σ : L2.St} {H : Hp} (Pv : Nat → L2.St → Hp → Prop) (h0 : Pv 0 σ H) (hl : ∀ i σ H, i ≤ xs.length → Pv i σ H → SqL K H a xs)
    (hs : ∀ i x T σ H, xs[i]? = some x → Pv i σ H → H T = none → g (.ref T) σ (upd H T (.tup [.int ((i : Nat) : Int), x])) fun σ2 H2 => tb { D with nx := Pv (i + 1), ct := Pv (i + 1), bk := D.nx } σ2 H2) (hd : ∀ σ H, Pv xs.length σ H → D.nx σ H) :
    ∃ W : Nat → Nat → L2.St → Hp → Prop, (∃ m, W 0 m σ H) ∧ ∀ i m σ H, W i m σ H →
      ((Ite K a).stop i H ∧ D.nx σ H) ∨ ((Ite K a).go i H ∧ ∃ N : L2.St → Hp → Prop, (∀ σ' H', N σ' H' → ∃ m', m' < m ∧ W (i + 1) m' σ' H') ∧ ∀ x H', (Ite K a).yld i H x H' → g x σ H' fun σ2 H2 => tb { D with nx := N, ct := N, bk := D.nx } σ2 H2) := by
  refine ⟨fun i m σ H => m = xs.length - i ∧ i ≤ xs.length ∧ Pv i σ H, ⟨_, rfl, Nat.zero_le _, h0⟩, ?_⟩
  rintro i m σ H ⟨rfl, hi, p⟩
  have sq := hl i σ H hi p
  by_cases lt : i < xs.length
  · refine .inr ⟨⟨xs, xs[i], sq, List.getElem?_eq_getElem lt⟩, Pv (i + 1), fun σ' H' p' => ⟨_, by omega, rfl, lt, p'⟩, fun x H' yl => ?_⟩
    obtain ⟨T, y, rfl, hT, rfl, hy⟩ := yl
    exact hs i y T σ H (hy xs sq) p hT
  · have e : i = xs.length := by omega
    subst e
    exact .inl ⟨⟨xs, sq, Nat.le_refl _⟩, hd σ H p⟩
/-! ### groups in the heap -/
def TxAt (H : Hp) (x : V) (zs : List Str) : Prop := ∃ t : Addr, x = .ref t ∧ H t = some (.lst (zs.map V.str))
theorem TxAt.same {H H' : Hp} (s : Same H H') {x : V} {zs : List Str} (h : TxAt H x zs) : TxAt H' x zs := let ⟨t, e, g⟩ := h; ⟨t, e, s _ _ g⟩
def Grs (H : Hp) (a : Addr) (gs : List (List Str)) : Prop := ∃ xs, H a = some (.lst xs) ∧ Paired (TxAt H) xs gs
theorem Grs.same {H H' : Hp} {a : Addr} {gs : List (List Str)} (h : Grs H a gs) (s : Same H H') : Grs H' a gs := let ⟨xs, e, p⟩ := h; ⟨xs, s _ _ e, pd_mono (fun _ _ z => z.same s) p⟩
theorem pd_at {α β : Type} {F : α → β → Prop} : ∀ {xs : List α} {ys : List β}, Paired F xs ys → ∀ {i : Nat} {y : β}, ys[i]? = some y → ∃ x, xs[i]? = some x ∧ F x y
  | _, _, .nil, i, x, h => by simp at h
  | _, _, .cons (a := a) (b := b) f r, 0, y, h => ⟨a, rfl, by have e : b = y := by simpa using h
                                                              exact e ▸ f⟩
  | _, _, .cons f r, i + 1, y, h => by
    obtain ⟨x, h1, h2⟩ := pd_at r (i := i) (y := y) (by simpa using h)
    exact ⟨x, by simpa using h1, h2⟩
/-- groups of few short names -/
def GOk (gs : List (List Str)) : Prop := gs.length ≤ 60 ∧ ∀ g ∈ gs, g.length ≤ 20
def spUnc : Sp := fun vs H Q _ => ∃ (a c : Addr) (gs : List (List Str)) (ch : List Str), vs = [.ref a, .ref c] ∧ Grs H a gs ∧ GOk gs ∧ H c = some (.lst (ch.map V.str)) ∧
  (∀ (k : Nat) (g : List Str) H', Same H H' → gs[k]? = some g → (∀ z ∈ g, z ∉ ch) → Q (.int (k : Int)) H') ∧ (∀ H', Same H H' → Hits ch gs → Q .non H')
abbrev s_uncovered : Stmt := topS 3
abbrev N_uncovered : List Str := ["groups", "chosen", "found", "at", "group", "name"]
theorem sc_uncovered : FnScope N_uncovered ["groups", "chosen"] (defScope s_uncovered) := ⟨rfl, rfl, rfl, by decide +kernel, rfl, by decide +kernel, by decide +kernel⟩
section
variable {P : Program} {w : World} {K : PySem.W.Frag} {mg : Str → Option Value} {base : Heap}
theorem ok_uncovered {f : Addr} {fd : FuncData} (F : Fun K "_uncovered" "_uncovered" s_uncovered f fd) (T : TxS mg) : FnOk P w K mg base CX0 1 f fd ["groups", "chosen"] spUnc := by
  refine F.ok sc_uncovered (fun vs H Q E h => ?_) (fun cdv A outer s H vs Q E hr h => ?_)
  · obtain ⟨a, c, gs, ch, rfl, _⟩ := h
    rfl
  · obtain ⟨a, c, gs, ch, rfl, ⟨xs, ea, hp⟩, ⟨hg1, hg2⟩, ec, qk, qn⟩ := h
    refine ⟨_, (pss_cons (ps_set (i := 2) sc_uncovered.nd rfl (Or.inl rfl) pe_non)
      (pss_cons (ps_for PassesOwn.never rfl (pi_enum (by rfl) T.m_enumerate (pa_cons (pv 0) pa_nil)) (pg_tup rfl (pgs_cons (pg_name (i := 3) sc_uncovered.nd rfl (Or.inl rfl)) (pgs_cons (pg_name (i := 4) sc_uncovered.nd rfl (Or.inl rfl)) pgs_nil)))
        (pss_cons (ps_if (pt_val (pe_callB (cr_any rfl) (by rfl) T.m_any (by decide +kernel) (pa_cons (pe_lc (own := [("name", 5)]) (g := gName 5) (tt := tYes) rfl sc_uncovered.nd (pi_list (pv 4)) (blkOk_by (own := [("name", 5)]) (N := N_uncovered) (sc := defScope s_uncovered) (by decide +kernel)) (fun _ _ _ _ _ => pg_name (i := 5) sc_uncovered.nd rfl (Or.inl rfl)) (fun _ _ _ _ _ => pts_nil) (fun _ _ _ _ _ => (pe_cmpR (show OpR _ (compareOp .In) (rIn K false) from op_in_seq) (pv 5) (pv 1) (by rfl)))) pa_nil)))
          (pss_one ps_continue)
          pss_nil)
        (pss_one (ps_if (PW.pt (pw_or (pt_cmpR op_isN (pv 2) pe_non (nomark _)) (pw_or1 (pt_cmpR op_lt (pe_callB call_len_seq (by rfl) T.m_len (by decide +kernel) (pa_cons (pv 4) pa_nil)) (pe_callB call_len_seq (by rfl) T.m_len (by decide +kernel) (pa_cons (pe_ix ix_list (pv 0) (pv 2) (fun _ _ => rfl)) pa_nil)) (nomark _)))))
          (pss_one (ps_set (i := 2) sc_uncovered.nd rfl (Or.inl rfl) (pv 3)))
          pss_nil))))
      (pss_one (ps_ret (pv 2))))), ?_⟩
    have hxl := pd_len hp
    refine ⟨_, rfl, a, _, rfl, .inl (.inl ea), ?_⟩
    refine for_enum (xs := xs) (fun i σ Hx => ∃ (v : V) (x3 x4 : Option V), σ = [some (.ref a), some (.ref c), some v, x3, x4, none] ∧ Same H Hx ∧ ((v = .non ∧ Hits ch (gs.take i)) ∨ ∃ (k : Nat) (g : List Str), v = .int (k : Int) ∧ gs[k]? = some g ∧ ∀ z ∈ g, z ∉ ch))
      ⟨.non, none, none, rfl, Same.refl _, .inl ⟨rfl, fun g hg => by simp at hg⟩⟩ (fun i σ Hx _ ⟨_, _, _, _, sx, _⟩ => .inl (.inl (sx _ _ ea))) ?_ ?_
    · rintro i x T' σ Hx hx ⟨v, x3, x4, rfl, sx, hv⟩ nT
      obtain ⟨g, hgi, t, rfl, et⟩ := pd_get hp hx
      have hi : i < gs.length := (List.getElem?_eq_some_iff.mp hgi).1
      have hgl := hg2 g (List.mem_of_getElem? hgi)
      have sT : Same Hx (upd Hx T' (.tup [.int ((i : Nat) : Int), V.ref t])) := same_upd nT
      refine ⟨T', _, rfl, .inl (.inl upd_same), rfl, _, _, rfl, _, _, rfl, rfl, ?_⟩
      have s1 := sx.trans sT
      have et1 := s1 _ _ et
      generalize upd Hx T' (.tup [.int ((i : Nat) : Int), V.ref t]) = H1 at s1 et1 ⊢
      refine ⟨_, rfl, t, rfl, ⟨_, .inl (.inl et1)⟩, fun D nD => ?_⟩
      refine lc_list (xs := g.map V.str) (fun j H3 => Same H1 H3 ∧ H3 D = some (.lst (((g.take j).map fun z => decide (z ∈ ch)).map V.bl)))
        ⟨same_upd nD, upd_same⟩ (fun j H3 _ ⟨s3, _⟩ => .inl (.inl (s3 _ _ et1))) ?_ ?_
      · rintro j y H3 hy ⟨s3, eD⟩
        obtain ⟨z, hz, rfl⟩ := str_get hy
        refine ⟨rfl, _, rfl, _, rfl, c, _, rfl, .inl (.inl (.inl (s3 _ _ (s1 _ _ ec)))), rfl, txt_flat ch, ?_⟩
        rw [if_neg Bool.false_ne_true, inV_txt]
        refine ⟨_, eD, sz8 (by rw [List.length_map, List.length_map, List.length_take]; omega), same_mut s3 nD, ?_⟩
        rw [upd_same, take_one hz, List.map_append, List.map_append]
        rfl
      rintro H3 ⟨s3, eD⟩
      rw [List.length_map, List.take_length] at eD
      refine ⟨D, _, rfl, .inl (.inl eD), ?_⟩
      have hany : ((g.map fun z => decide (z ∈ ch)).any id) = decide (∃ z ∈ g, z ∈ ch) := by
        rw [Bool.eq_iff_iff, List.any_map, List.any_eq_true, decide_eq_true_iff]
        constructor
        · rintro ⟨z, h1, h2⟩; exact ⟨z, h1, of_decide_eq_true h2⟩
        · rintro ⟨z, h1, h2⟩; exact ⟨z, h1, decide_eq_true h2⟩
      rw [hany]
      have s13 := s1.trans s3
      refine ⟨_, rfl, iteB (fun hh => ?_) (fun hh => ?_)⟩
      · have hh' : ∃ z ∈ g, z ∈ ch := of_decide_eq_true hh
        refine ⟨v, _, _, rfl, s13, hv.imp (fun h => ⟨h.1, fun g' hg' => ?_⟩) id⟩
        rw [take_one hgi] at hg'
        rcases List.mem_append.mp hg' with hg' | hg'
        · exact h.2 g' hg'
        · rw [List.mem_singleton.mp hg']; exact hh'
      · have hh' : ∀ z ∈ g, z ∉ ch := fun z hz hc => of_decide_eq_false hh ⟨z, hz, hc⟩
        have new : ∀ x4 : Option V, ∃ (v : V) (x3' x4' : Option V), ([some (.ref a), some (.ref c), some (.int ((i : Nat) : Int)), some (.int ((i : Nat) : Int)), some (.ref t), none] : L2.St) = [some (.ref a), some (.ref c), some v, x3', x4', none] ∧ Same H H3 ∧ ((v = .non ∧ Hits ch (gs.take (i + 1))) ∨ ∃ (k : Nat) (g : List Str), v = .int (k : Int) ∧ gs[k]? = some g ∧ ∀ z ∈ g, z ∉ ch) :=
          fun _ => ⟨_, _, _, rfl, s13, .inr ⟨i, g, rfl, hgi, hh'⟩⟩
        rcases hv with ⟨rfl, hvh⟩ | ⟨k, gk, rfl, hk, hkn⟩
        · exact ⟨_, rfl, rfl, _, rfl, iteB (fun _ => ⟨_, rfl, new none⟩) (fun h => absurd rfl (of_decide_eq_false h))⟩
        · refine ⟨_, rfl, rfl, _, rfl, iteB (fun h => absurd (of_decide_eq_true h) (by intro e; cases e)) (fun _ => ?_)⟩
          obtain ⟨xk, hxk, tk, rfl, etk⟩ := pd_at hp hk
          refine ⟨_, rfl, t, _, rfl, .inl (.inl (.inl (s3 _ _ et1))), _, rfl, _, rfl, a, _, (k : Int), _, rfl, rfl, .inl (.inl (s13 _ _ ea)), atI_nat hxk, tk, _, rfl, .inl (.inl (.inl (s13 _ _ etk))), _, _, rfl, rfl, _, rfl, iteB (fun _ => ⟨_, rfl, new none⟩) (fun _ => ⟨_, _, _, rfl, s13, .inr ⟨k, gk, rfl, hk, hkn⟩⟩)⟩
    · rintro σ Hx ⟨v, x3, x4, rfl, sx, hv⟩
      rcases hv with ⟨rfl, hvh⟩ | ⟨k, gk, rfl, hk, hkn⟩
      · rw [hxl, List.take_length] at hvh
        exact ⟨_, rfl, qn Hx sx hvh⟩
      · exact ⟨_, rfl, qk k gk Hx sx hk hkn⟩
end
end Kx

namespace Kx
open PySem PySem.Spec PyProof.Rows L2 NdefX Kr Ke Kn Kg StX Kz SkE
def spGroups (K : PySem.W.Frag) : Sp := fun vs H Q _ => ∃ (p : Addr) (ms : List Int) (m most : Nat) (st : Int), vs = [.ref p, .int (m : Int), .int st, .int (most : Int)] ∧ SqL K H p (ms.map V.int) ∧ Pool ms ∧ m ≤ 8 ∧ most ≤ 50 ∧ 0 ≤ st ∧ st < 70000 ∧
  ∀ (a : Addr) (gs : List (List Str)) H', Same H H' → H a = none → Grs H' a gs → gs.length ≤ most → (∀ g ∈ gs, g ≠ [] ∧ g.length ≤ m ∧ ∀ z ∈ g, ∃ j : Nat, j < m ∧ z = nameV (j : Int) st) → Q (.ref a) H'
abbrev s_groups_of : Stmt := topS 9
abbrev N_groups_of : List Str := ["_law_pool", "_law_many", "_law_style", "_law_most", "_law_groups", "_law_k", "_law_draw", "_law_group"]
theorem sc_groups_of : FnScope N_groups_of ["_law_pool", "_law_many", "_law_style", "_law_most"] (defScope s_groups_of) := ⟨rfl, rfl, rfl, by decide +kernel, rfl, by decide +kernel, by decide +kernel⟩
def spHits : Sp := fun vs H Q _ => ∃ (n a : Addr) (ns : List Str) (gs : List (List Str)), vs = [.ref n, .ref a] ∧ H n = some (.lst (ns.map V.str)) ∧ Grs H a gs ∧ ∀ H', Same H H' → Q (.bl (hitsB ns gs)) H'
abbrev s_hits : Stmt := topS 10
abbrev N_hits : List Str := ["_law_names", "_law_groups", "_law_group", "_law_hit", "_law_name"]
theorem sc_hits : FnScope N_hits ["_law_names", "_law_groups"] (defScope s_hits) := ⟨rfl, rfl, rfl, by decide +kernel, rfl, by decide +kernel, by decide +kernel⟩
def spLeast : Sp := fun vs H Q _ => ∃ (a : Addr) (gs : List (List Str)) (m : Nat) (st : Int), vs = [.ref a, .int (m : Int), .int st] ∧ Grs H a gs ∧ m ≤ 7 ∧ 0 ≤ st ∧ st < 70000 ∧
  ∀ (l : Nat) H', Same H H' → l ≤ m → (l = m ∨ ∃ mask : Nat, Hits (pickV (mask : Int) m st) gs ∧ l = (pickV (mask : Int) m st).length) → (∀ mask : Nat, mask < 2 ^ m → Hits (pickV (mask : Int) m st) gs → l ≤ (pickV (mask : Int) m st).length) → Q (.int (l : Int)) H'
abbrev s_least : Stmt := topS 11
abbrev N_least : List Str := ["_law_groups", "_law_many", "_law_style", "_law_least_here", "_law_mask", "_law_names"]
theorem sc_least : FnScope N_least ["_law_groups", "_law_many", "_law_style"] (defScope s_least) := ⟨rfl, rfl, rfl, by decide +kernel, rfl, by decide +kernel, by decide +kernel⟩
section
variable {P : Program} {w : World} {K : PySem.W.Frag} {mg : Str → Option Value} {base : Heap}
theorem ok_groups_of {f : Addr} {fd : FuncData} (F : Fun K "_law_groups_of" "_law_groups_of" s_groups_of f fd) (T : TxS mg) (C_nth : Cal P w K mg base "_law_nth" 1 (spNth K)) (C_picked : Cal P w K mg base "_law_picked" 2 spPicked) : FnOk P w K mg base CX0 3 f fd ["_law_pool", "_law_many", "_law_style", "_law_most"] (spGroups K) := by
  refine F.ok sc_groups_of (fun vs H Q E h => ?_) (fun cdv A outer s H vs Q E hr h => ?_)
  · obtain ⟨p, ms, m, most, st, rfl, _⟩ := h
    rfl
  · obtain ⟨p, ms, m, most, st, rfl, hS, hP, hm, hmo, s0, s1, q⟩ := h
    refine ⟨_, (pss_cons (ps_set (i := 4) sc_groups_of.nd rfl (Or.inl rfl) (pe_lst pa_nil))
      (pss_cons (ps_for PassesOwn.never rfl (pi_range1 (by rfl) T.m_range (pa_cons (pe_op op_mod (pe_callTy call_int1 (by rfl) T.m_int (by decide +kernel) (pa_cons (pe_ix ix_list (pv 0) pe_int (fun _ _ => rfl)) pa_nil)) (pe_op op_add (pv 3) pe_int)) pa_nil)) (pg_name (i := 5) sc_groups_of.nd rfl (Or.inl rfl))
        (pss_cons (ps_set (i := 6) sc_groups_of.nd rfl (Or.inl rfl) (pe_cal C_nth (hr.mono (by decide)) (by rfl) (pa_cons (pv 0) (pa_cons (pe_op op_add pe_int (pv 5)) pa_nil))))
        (pss_cons (ps_set (i := 7) sc_groups_of.nd rfl (Or.inl rfl) (pe_cal C_picked (hr.mono (by decide)) (by rfl) (pa_cons (pv 6) (pa_cons (pv 1) (pa_cons (pv 2) pa_nil)))))
        (C8.pss_cut (ps_if (pt_cmpR op_eq (pe_op op_mod (pe_op op_fdiv (pe_callTy call_int1 (by rfl) T.m_int (by decide +kernel) (pa_cons (pv 6) pa_nil)) pe_int) pe_int) pe_int (nomark _))
          (pss_one (ps_set (i := 7) sc_groups_of.nd rfl (Or.inl rfl) (pe_revL (pv 7))))
          pss_nil)
        (pss_one (ps_if (pt_cmpR (op_neD hr.units) (pv 7) (pe_lst pa_nil) (nomark _))
          (pss_one (ps_expr (pe_bm PySem.F.plainAttrs_list PySem.F.slot_list_append PySem.F.type_list_append mt_append (pv 4) (pa_cons (pv 7) pa_nil))))
          pss_nil))))))
      (pss_one (ps_ret (pv 4))))), ?_⟩
    have hlo := hP.lo
    have r1 := (getD_rg hP.rg (i := 1) (by omega)).2
    obtain ⟨r1a, r1b⟩ := r1
    have a1 : atI (ms.map V.int) 1 = some (.int (ms.getD 1 0)) := at_pool (by decide) (by omega)
    generalize ms.getD 1 0 = d1 at r1a r1b a1 ⊢
    refine ⟨by show 0 ≤ sizeLine; decide, fun l nl => ?_⟩
    have sl0 : Same H (upd H l (.lst [])) := same_upd nl
    have b0 := Int.emod_nonneg d1 (show (most : Int) + 1 ≠ 0 by omega)
    have b1 := Int.emod_lt_of_pos d1 (show 0 < (most : Int) + 1 by omega)
    refine ⟨_, rfl, p, _, 1, _, rfl, rfl, sl0.seq hS, a1, .inl ⟨_, rfl, _, rfl, _, _, rfl, rfl, _, _, rfl, rfl, (by show (0 : Int) < (most : Int) + 1; omega), _, rfl, by omega, by omega, ?_⟩⟩
    refine for_range (lo := 0) (n := (d1 % ((most : Int) + 1)).toNat) (fun i σ H1 => ∃ (x5 x6 x7 : Option V) (xs : List V) (gs : List (List Str)), σ = [some (.ref p), some (.int (m : Int)), some (.int st), some (.int (most : Int)), some (.ref l), x5, x6, x7] ∧ Same H H1 ∧ H1 l = some (.lst xs) ∧ Paired (TxAt H1) xs gs ∧ (∀ t, V.ref t ∈ xs → t ≠ l) ∧ gs.length ≤ i ∧ ∀ g ∈ gs, g ≠ [] ∧ g.length ≤ m ∧ ∀ z ∈ g, ∃ j : Nat, j < m ∧ z = nameV (j : Int) st)
      ⟨none, none, none, [], [], rfl, sl0, upd_same, .nil, fun t ht => (by cases ht), Nat.le_refl _, fun g hg => (by cases hg)⟩ ?_ ?_
    · rintro i σ H1 hi ⟨x5, x6, x7, xs, gs, rfl, sm, el, hp, hne, hgl, hgs⟩
      have hd := nthV_rg hP (k := 3 + (0 + (i : Int))) (by omega)
      obtain ⟨hd0, hd1⟩ := hd
      refine ⟨_, rfl, _, rfl, _, _, rfl, rfl, p, ms, _, rfl, sm.seq hS, hP, by omega, by omega, ?_⟩
      generalize nthV ms (3 + (0 + (i : Int))) = dr at hd0 hd1 ⊢
      refine ⟨_, rfl, _, rfl, _, rfl, dr, m, st, rfl, hd0, by omega, s0, s1, fun gr H2 s2 ngr egr => ?_⟩
      have hpk : ∀ z ∈ pickV dr m st, ∃ j : Nat, j < m ∧ z = nameV (j : Int) st := fun z hz => pick_mem hz
      have hpl := pick_len dr m st
      generalize pickV dr m st = g0 at egr hpk hpl ⊢
      refine ⟨fun σ H' => ∃ (r : Addr) (g : List Str), σ = [some (.ref p), some (.int (m : Int)), some (.int st), some (.int (most : Int)), some (.ref l), some (.int (0 + (i : Int))), some (.int dr), some (.ref r)] ∧ Same H1 H' ∧ H' r = some (.lst (g.map V.str)) ∧ r ≠ l ∧ g.length ≤ m ∧ ∀ z ∈ g, ∃ j : Nat, j < m ∧ z = nameV (j : Int) st, ?_, ?_⟩
      · have hrl : gr ≠ l := fun e => by rw [e, el] at ngr; cases ngr
        refine ⟨_, rfl, .inl ⟨_, rfl, _, _, rfl, rfl, ⟨by decide, by decide⟩, _, _, rfl, rfl, (by show (0 : Int) < 2; decide), rfl, _, rfl, ifI (fun _ => ?_) (fun _ => ⟨gr, g0, rfl, s2, egr, hrl, hpl, hpk⟩)⟩⟩
        refine ⟨_, rfl, gr, _, rfl, .inl (.inl egr), fun r nr => ⟨r, g0.reverse, rfl, s2.trans (same_upd nr), by rw [upd_same, List.map_reverse], (fun e => by rw [e, s2 _ _ el] at nr; cases nr), by rw [List.length_reverse]; exact hpl, fun z hz => hpk z (List.mem_reverse.mp hz)⟩⟩
      rintro σ H3 ⟨r, g, rfl, s3, er, hrl, hgl2, hgk⟩
      have el3 := s3 _ _ el
      have hgS : ∀ z ∈ g, Sht z 20 := fun z hz => by
        obtain ⟨j, hj, rfl⟩ := hgk z hz
        exact (name_facts (by omega) (by omega)).1
      refine ⟨_, rfl, by show 0 ≤ sizeLine; decide, fun e ne => ?_⟩
      have se := same_upd (o := .lst []) ne
      refine ⟨.list (tD g), .list [], .lst (.inl (.inl (se _ _ er))) (dp_txts g), .lst (.inl (.inl upd_same)) .nil, shp_txts hgS, by decide, _, rfl, ?_⟩
      rw [eqv_nil2]
      have s4 := s3.trans se
      have el4 := se _ _ el3
      have hp4 : Paired (TxAt (upd H3 e (.lst []))) xs gs := pd_mono (fun _ _ z => z.same s4) hp
      refine iteB (fun hb => ?_) (fun hb => ?_)
      · have hg0 : g ≠ [] := by simpa using hb
        refine ⟨_, rfl, .inl ⟨rfl, _, .inl (.inl el4)⟩, _, rfl, l, _, _, rfl, rfl, el4, sz8 (by have := pd_len hp; omega), ?_⟩
        have mutP : Paired (TxAt (upd (upd H3 e (.lst [])) l (.lst (xs ++ [.ref r])))) xs gs := by
          have key : ∀ {xs : List V} {gs : List (List Str)}, Paired (TxAt (upd H3 e (.lst []))) xs gs → (∀ t, V.ref t ∈ xs → t ≠ l) → ∀ o, Paired (TxAt (upd (upd H3 e (.lst [])) l o)) xs gs := by
            intro xs gs hp
            induction hp with
            | nil => intro _ _; exact .nil
            | cons h _ ih =>
              intro hne o
              obtain ⟨t, rfl, et⟩ := h
              exact .cons ⟨t, rfl, by rw [upd_ne (hne t List.mem_cons_self)]; exact et⟩ (ih (fun t ht => hne t (List.mem_cons_of_mem _ ht)) o)
          exact key hp4 hne _
        refine ⟨_, _, _, _, gs ++ [g], rfl, same_mut (sm.trans s4) nl, upd_same, .snoc mutP ⟨r, rfl, by rw [upd_ne hrl]; exact se _ _ er⟩, fun t ht => ?_, by rw [List.length_append]; show gs.length + 1 ≤ i + 1; omega, fun g' hg' => ?_⟩
        · rcases List.mem_append.mp ht with ht | ht
          · exact hne t ht
          · have e1 := List.mem_singleton.mp ht
            injection e1 with e1
            rw [e1]; exact hrl
        · rcases List.mem_append.mp hg' with hg' | hg'
          · exact hgs g' hg'
          · rw [List.mem_singleton.mp hg']; exact ⟨hg0, hgl2, hgk⟩
      · exact ⟨_, _, _, xs, gs, rfl, sm.trans s4, el4, hp4, hne, by omega, hgs⟩
    · rintro σ H1 ⟨x5, x6, x7, xs, gs, rfl, sm, el, hp, hne, hgl, hgs⟩
      exact ⟨_, rfl, q l gs H1 sm nl ⟨xs, el, hp⟩ (by omega) hgs⟩
theorem ok_hits {f : Addr} {fd : FuncData} (F : Fun K "_law_hits" "_law_hits" s_hits f fd) (T : TxS mg) : FnOk P w K mg base CX0 1 f fd ["_law_names", "_law_groups"] spHits := by
  refine F.ok sc_hits (fun vs H Q E h => ?_) (fun cdv A outer s H vs Q E hr h => ?_)
  · obtain ⟨n, a, ns, gs, rfl, _⟩ := h
    rfl
  · obtain ⟨n, a, ns, gs, rfl, en, ⟨xs, ea, hp⟩, q⟩ := h
    refine ⟨_, (pss_cons (ps_for PassesOwn.never rfl (pi_list (pv 1)) (pg_name (i := 2) sc_hits.nd rfl (Or.inl rfl))
        (pss_cons (ps_set (i := 3) sc_hits.nd rfl (Or.inl rfl) pe_bl)
        (pss_cons (ps_for PassesOwn.never rfl (pi_list (pv 2)) (pg_name (i := 4) sc_hits.nd rfl (Or.inl rfl))
          (pss_one (ps_if (pt_cmpR op_in_seq (pv 4) (pv 0) (by rfl))
            (pss_one (ps_set (i := 3) sc_hits.nd rfl (Or.inl rfl) pe_bl))
            pss_nil)))
        (pss_one (ps_if (pt_not (pt_val (pv 3)))
          (pss_one (ps_ret pe_bl))
          pss_nil)))))
      (pss_one (ps_ret pe_bl))), ?_⟩
    have hxl := pd_len hp
    refine ⟨_, rfl, a, rfl, ⟨_, .inl (.inl ea)⟩, ?_⟩
    refine for_list (xs := xs) (fun i σ Hx => ∃ x2 x3 x4 : Option V, σ = [some (.ref n), some (.ref a), x2, x3, x4] ∧ Hx = H ∧ Hits ns (gs.take i))
      ⟨none, none, none, rfl, rfl, fun g hg => by simp at hg⟩ (fun i σ Hx _ ⟨_, _, _, _, e, _⟩ => by rw [e]; exact .inl (.inl ea)) ?_ ?_
    · rintro i x σ Hx hx ⟨x2, x3, x4, rfl, rfl, hh⟩
      obtain ⟨g, hg, t, rfl, et⟩ := pd_get hp hx
      refine ⟨_, rfl, t, rfl, ⟨_, .inl (.inl et)⟩, ?_⟩
      refine for_list (xs := g.map V.str) (fun j σ Hy => ∃ x4 : Option V, σ = [some (.ref n), some (.ref a), some (.ref t), some (.bl (decide (∃ z ∈ g.take j, z ∈ ns))), x4] ∧ Hy = Hx)
        ⟨x4, by simp, rfl⟩ (fun j σ Hy _ ⟨_, _, e⟩ => by rw [e]; exact .inl (.inl et)) ?_ ?_
      · rintro j y σ Hy hy ⟨x4, rfl, rfl⟩
        obtain ⟨z, hz, rfl⟩ := str_get hy
        refine ⟨_, rfl, _, rfl, n, _, rfl, .inl (.inl (.inl en)), rfl, txt_flat ns, _, rfl, ?_⟩
        rw [if_neg Bool.false_ne_true, inV_txt]
        refine iteB (fun h1 => ?_) (fun h1 => ?_)
        · have h1' : z ∈ ns := of_decide_eq_true h1
          refine ⟨some (.str z), ?_, rfl⟩
          rw [decide_eq_true (show ∃ z ∈ g.take (j + 1), z ∈ ns from ⟨z, by rw [take_one hz]; exact List.mem_append_right _ List.mem_cons_self, h1'⟩)]
          rfl
        · have h1' : z ∉ ns := of_decide_eq_false h1
          refine ⟨some (.str z), ?_, rfl⟩
          have e : (∃ y ∈ g.take (j + 1), y ∈ ns) ↔ ∃ y ∈ g.take j, y ∈ ns := by
            rw [take_one hz]
            constructor
            · rintro ⟨y, hy, hn⟩
              rcases List.mem_append.mp hy with hy | hy
              · exact ⟨y, hy, hn⟩
              · rw [List.mem_singleton.mp hy] at hn; exact absurd hn h1'
            · rintro ⟨y, hy, hn⟩; exact ⟨y, List.mem_append_left _ hy, hn⟩
          rw [decide_eq_decide.mpr e]
          rfl
      · rintro σ Hy ⟨x4, rfl, rfl⟩
        rw [List.length_map, List.take_length]
        refine ⟨_, rfl, _, rfl, iteB (fun hb => ?_) (fun hb => ?_)⟩
        · have hb' : ¬ ∃ z ∈ g, z ∈ ns := by simpa using hb
          have e : hitsB ns gs = false := by
            cases h : hitsB ns gs with
            | false => rfl
            | true => exact absurd (hitsB_iff.mp h g (List.mem_of_getElem? hg)) hb'
          have := q Hy (Same.refl _)
          rw [e] at this
          exact this
        · have hb' : ∃ z ∈ g, z ∈ ns := by
            by_cases h : ∃ z ∈ g, z ∈ ns
            · exact h
            · rw [decide_eq_false h] at hb; cases hb
          refine ⟨_, _, _, rfl, rfl, fun g' hg' => ?_⟩
          rw [take_one hg] at hg'
          rcases List.mem_append.mp hg' with hg' | hg'
          · exact hh g' hg'
          · rw [List.mem_singleton.mp hg']; exact hb'
    · rintro σ Hx ⟨x2, x3, x4, rfl, rfl, hh⟩
      rw [hxl, List.take_length] at hh
      have := q Hx (Same.refl _)
      rw [hitsB_iff.mpr hh] at this
      exact this
theorem ok_least {f : Addr} {fd : FuncData} (F : Fun K "_law_least" "_law_least" s_least f fd) (T : TxS mg) (C_picked : Cal P w K mg base "_law_picked" 2 spPicked) (C_hits : Cal P w K mg base "_law_hits" 1 spHits) : FnOk P w K mg base CX0 3 f fd ["_law_groups", "_law_many", "_law_style"] spLeast := by
  refine F.ok sc_least (fun vs H Q E h => ?_) (fun cdv A outer s H vs Q E hr h => ?_)
  · obtain ⟨a, gs, m, st, rfl, _⟩ := h
    rfl
  · obtain ⟨a, gs, m, st, rfl, hG, hm, s0, s1, q⟩ := h
    refine ⟨_, (pss_cons (ps_set (i := 3) sc_least.nd rfl (Or.inl rfl) (pv 1))
      (pss_cons (ps_for PassesOwn.never rfl (pi_range1 (by rfl) T.m_range (pa_cons pe_int pa_nil)) (pg_name (i := 4) sc_least.nd rfl (Or.inl rfl))
        (pss_one (ps_if (pt_cmpR op_eq (pe_callTy call_int1 (by rfl) T.m_int (by decide +kernel) (pa_cons (pe_op op_shr (pv 4) (pv 1)) pa_nil)) pe_int (nomark _))
          (pss_cons (ps_set (i := 5) sc_least.nd rfl (Or.inl rfl) (pe_cal C_picked (hr.mono (by decide)) (by rfl) (pa_cons (pv 4) (pa_cons (pv 1) (pa_cons (pv 2) pa_nil)))))
          (pss_one (ps_if (PW.pt (pw_and (pt_cmpR op_lt (pe_callB call_len_seq (by rfl) T.m_len (by decide +kernel) (pa_cons (pv 5) pa_nil)) (pv 3) (nomark _)) (pw_and1 (pt_val (pe_cal C_hits (hr.mono (by decide)) (by rfl) (pa_cons (pv 5) (pa_cons (pv 0) pa_nil)))))))
            (pss_one (ps_set (i := 3) sc_least.nd rfl (Or.inl rfl) (pe_callB call_len_seq (by rfl) T.m_len (by decide +kernel) (pa_cons (pv 5) pa_nil))))
            pss_nil)))
          pss_nil)))
      (pss_one (ps_ret (pv 3))))), ?_⟩
    refine ⟨_, rfl, ?_⟩
    refine ⟨128, rfl, by decide, by decide, ?_⟩
    refine for_range (lo := 0) (n := 128) (fun i σ Hx => ∃ (x4 x5 : Option V) (l : Nat), σ = [some (.ref a), some (.int (m : Int)), some (.int st), some (.int (l : Int)), x4, x5] ∧ Same H Hx ∧ l ≤ m ∧ (l = m ∨ ∃ mask : Nat, Hits (pickV (mask : Int) m st) gs ∧ l = (pickV (mask : Int) m st).length) ∧ ∀ mask : Nat, mask < i → mask < 2 ^ m → Hits (pickV (mask : Int) m st) gs → l ≤ (pickV (mask : Int) m st).length)
      ⟨none, none, m, rfl, Same.refl _, Nat.le_refl _, .inl rfl, fun mask h => absurd h (Nat.not_lt_zero _)⟩ ?_ ?_
    · rintro i σ Hx hi ⟨x4, x5, l, rfl, sx, hlm, hl, hmin⟩
      have hdiv : ((0 : Int) + (i : Int)) / 2 ^ ((m : Int)).toNat = ((i / 2 ^ m : Nat) : Int) := by
        rw [Int.zero_add, Int.toNat_natCast, Int.natCast_ediv, Int.natCast_pow]
        rfl
      refine ⟨_, rfl, _, rfl, _, _, rfl, rfl, by omega, .inl ⟨_, rfl, ?_⟩⟩
      refine ⟨rfl, _, rfl, ifI (fun h0 => ?_) (fun h0 => ?_)⟩
      · refine ⟨_, rfl, _, rfl, _, rfl, 0 + (i : Int), m, st, rfl, by omega, by omega, s0, s1, fun pk H2 s2 npk epk => ?_⟩
        rw [Int.zero_add] at epk
        have hG2 := (hG.same sx).same s2
        have upto : (Hits (pickV (i : Int) m st) gs → l ≤ (pickV (i : Int) m st).length) → ∀ mask : Nat, mask < i + 1 → mask < 2 ^ m → Hits (pickV (mask : Int) m st) gs → l ≤ (pickV (mask : Int) m st).length := fun h mask h1 h2 h3 => by
          by_cases e : mask = i
          · subst e; exact h h3
          · exact hmin mask (by omega) h2 h3
        refine ⟨_, rfl, pk, _, rfl, .inl (.inl (.inl epk)), _, rfl, _, _, rfl, rfl, _, rfl, iteB (fun hlt => ?_) (fun hlt => ?_)⟩
        · have hlt' : (pickV (i : Int) m st).length < l := by have := of_decide_eq_true hlt; rw [List.length_map] at this; omega
          refine ⟨_, rfl, _, rfl, pk, a, _, gs, rfl, epk, hG2, fun H3 s3 => ⟨_, rfl, ?_⟩⟩
          refine iteB (fun hh => ?_) (fun hh => ?_)
          · have hh' := hitsB_iff.mp hh
            refine ⟨_, rfl, pk, _, rfl, .inl (.inl (.inl (s3 _ _ epk))), ?_⟩
            rw [List.length_map]
            refine ⟨_, _, (pickV (i : Int) m st).length, rfl, (sx.trans s2).trans s3, by omega, .inr ⟨i, hh', rfl⟩, fun mask h1 h2 h3 => ?_⟩
            by_cases e : mask = i
            · subst e; exact Nat.le_refl _
            · have := hmin mask (by omega) h2 h3
              omega
          · exact ⟨_, _, l, rfl, (sx.trans s2).trans s3, hlm, hl, upto fun h => by rw [hitsB_iff.mpr h] at hh; cases hh⟩
        · have hlt' : ¬ (pickV (i : Int) m st).length < l := by have := of_decide_eq_false hlt; rw [List.length_map] at this; omega
          exact ⟨_, _, l, rfl, sx.trans s2, hlm, hl, upto fun _ => by omega⟩
      · refine ⟨_, _, l, rfl, sx, hlm, hl, fun mask h1 h2 h3 => ?_⟩
        by_cases e : mask = i
        · subst e
          exfalso
          apply h0
          show ((0 : Int) + (mask : Int)) / 2 ^ ((m : Int)).toNat = 0
          rw [hdiv, Nat.div_eq_of_lt h2]
          rfl
        · exact hmin mask (by omega) h2 h3
    · rintro σ Hx ⟨x4, x5, l, rfl, sx, hlm, hl, hmin⟩
      have h2m : 2 ^ m ≤ 128 := Nat.pow_le_pow_right (n := 2) (by decide) (show m ≤ 7 from hm)
      exact ⟨_, rfl, q l Hx sx hlm hl fun mask h1 h2 => hmin mask (by omega) h1 h2⟩
end
end Kx

namespace Kx
open PySem PySem.Spec PyProof.Rows L2 NdefX Kr Ke Kn Kg StX Kz SkE
/-- a list of texts elsewhere than l -/
def TxD (l : Addr) (H : Hp) (x : V) (zs : List Str) : Prop := ∃ t : Addr, x = .ref t ∧ t ≠ l ∧ H t = some (.lst (zs.map V.str))
theorem TxD.at' {l : Addr} {H : Hp} {x : V} {zs : List Str} (h : TxD l H x zs) : TxAt H x zs := let ⟨t, e, _, g⟩ := h; ⟨t, e, g⟩
theorem txd_same {l : Addr} {H H' : Hp} (s : Same H H') {xs : List V} {gs : List (List Str)} (h : Paired (TxD l H) xs gs) : Paired (TxD l H') xs gs := pd_mono (fun _ _ ⟨t, e, n, g⟩ => ⟨t, e, n, s _ _ g⟩) h
theorem txd_mut {l : Addr} {H : Hp} {o : HO} {xs : List V} {gs : List (List Str)} (h : Paired (TxD l H) xs gs) : Paired (TxD l (upd H l o)) xs gs := pd_mono (fun _ _ ⟨t, e, n, g⟩ => ⟨t, e, n, by rw [upd_ne n]; exact g⟩) h
theorem txd_grs {l : Addr} {H : Hp} {xs : List V} {gs : List (List Str)} (h : Paired (TxD l H) xs gs) : Paired (TxAt H) xs gs := pd_mono (fun _ _ z => z.at') h
theorem grs_push {H0 Hx : Hp} {l t : Addr} {xs : List V} {gs : List (List Str)} {g : List Str} (sm : Same H0 Hx) (nl : H0 l = none) (el : Hx l = some (.lst xs)) (hp : Paired (TxD l Hx) xs gs) (nt : Hx t = none) :
    (upd Hx t (.lst (g.map V.str))) l = some (.lst xs) ∧ Same H0 (upd (upd Hx t (.lst (g.map V.str))) l (.lst (xs ++ [.ref t]))) ∧ Paired (TxD l (upd (upd Hx t (.lst (g.map V.str))) l (.lst (xs ++ [.ref t])))) (xs ++ [.ref t]) (gs ++ [g]) := by
  have h1 : Same Hx (upd Hx t (.lst (g.map V.str))) := same_upd nt
  have htl : t ≠ l := fun z => by rw [z, el] at nt; cases nt
  exact ⟨h1 _ _ el, same_mut (sm.trans h1) nl, .snoc (txd_mut (txd_same h1 hp)) ⟨t, rfl, htl, (upd_ne htl).trans upd_same⟩⟩
theorem pd_set {α β : Type} {F : α → β → Prop} : ∀ {xs : List α} {ys : List β} (j : Nat) {x : α} {y : β}, Paired F xs ys → F x y → Paired F (xs.set j x) (ys.set j y)
  | _, _, _, _, _, .nil, _ => .nil
  | _, _, 0, _, _, .cons f r, h => .cons h r
  | _, _, j + 1, _, _, .cons f r, h => .cons f (pd_set j r h)
theorem cut_take7 {ns : List Str} (h : ns.length = 8) : cutV (ns.map V.str) none (some 7) = (ns.take 7).map V.str := cut_take (k := 7) (by omega)
theorem cut_drop7 {ns : List Str} (h : ns.length = 8) : cutV (ns.map V.str) (some 7) none = (ns.drop 7).map V.str := by
  unfold cutV
  have e : HT.sIx (ns.map V.str).length 0 (some 7) = min 7 ns.length := by rw [List.length_map]; exact HT.sIx_nat _ _ 7
  rw [e, HT.sIx_none, h, List.length_map, h]
  show ((ns.map V.str).drop 7).take 1 = _
  rw [← List.map_drop, List.take_of_length_le]
  rw [List.length_map, List.length_drop, h]
  decide
def tDD (gs : List (List Str)) : List PyData := gs.map fun g => .list (tD g)
theorem dp_grs {K : PySem.W.Frag} {H : Hp} : ∀ {xs : List V} {gs : List (List Str)}, Paired (TxAt H) xs gs → DpAll K H xs (tDD gs)
  | _, _, .nil => .nil
  | _, _, .cons h r => by
    obtain ⟨t, rfl, e⟩ := h
    exact .cons (.lst (.inl (.inl e)) (dp_txts _)) (dp_grs r)
theorem eqvA_tdd : ∀ gs : List (List Str), PyData.eqvAll (tDD gs) (tDD gs) = true
  | [] => rfl
  | g :: r => by
    have h := eqvA_tdd r
    have h1 := eqv_lst g g
    simp only [tDD] at h
    simp only [tDD, List.map_cons, PyData.eqvAll, h, h1, decide_true, Bool.and_self]
theorem eqv_tdd (gs : List (List Str)) : PyData.eqv (.list (tDD gs)) (.list (tDD gs)) = true := by
  have := eqvA_tdd gs
  simp only [PyData.eqv]
  exact this
theorem lay_tdd : ∀ {gs : List (List Str)} {n : Nat}, (∀ g ∈ gs, ∀ z ∈ g, Sht z n) → PyData.canLayAll0 (tDD gs) = true
  | [], _, _ => rfl
  | g :: gs, n, h => by
    have h1 := lay_tdd (gs := gs) (n := n) fun y hy => h y (List.mem_cons_of_mem _ hy)
    have h2 := lay_txts (h g List.mem_cons_self)
    simp only [tDD] at h1
    simp only [tDD, List.map_cons, PyData.canLayAll0, PyData.canLay0, h1, h2, Bool.and_self]
theorem dep_tdd : ∀ gs : List (List Str), PyData.depthAll (tDD gs) ≤ 1
  | [] => by decide
  | g :: gs => by
    have h1 := dep_tdd gs
    have h2 := dep_txts g
    simp only [tDD] at h1
    simp only [tDD, List.map_cons, PyData.depthAll, PyData.depth, h2]
    omega
theorem shp_tdd {gs : List (List Str)} {n : Nat} (h : ∀ g ∈ gs, ∀ z ∈ g, Sht z n) : SeqAt.shaped (.list (tDD gs)) = true := by
  unfold SeqAt.shaped
  rw [Bool.and_eq_true]
  refine ⟨by simp only [PyData.canLay0, lay_tdd h], decide_eq_true ?_⟩
  have := dep_tdd gs
  simp only [PyData.depth]
  omega
/-- any choice of the first m names is some mask's -/
theorem mask_of : ∀ (m : Nat) (f : Nat → Bool), ∃ mask : Nat, mask < 2 ^ m ∧ ∀ j, j < m → decide (mask / 2 ^ j % 2 = 1) = f j
  | 0, f => ⟨0, by decide, fun j h => absurd h (Nat.not_lt_zero j)⟩
  | m + 1, f => by
    obtain ⟨x, hx, hf⟩ := mask_of m fun j => f (j + 1)
    obtain ⟨b, hb, hb1⟩ : ∃ b : Nat, b < 2 ∧ decide (b = 1) = f 0 := by
      cases h : f 0 with
      | true => exact ⟨1, by decide, rfl⟩
      | false => exact ⟨0, by decide, rfl⟩
    refine ⟨2 * x + b, by rw [Nat.pow_succ]; omega, fun j hj => ?_⟩
    cases j with
    | zero =>
      rw [Nat.pow_zero, Nat.div_one, ← hb1, show (2 * x + b) % 2 = b by omega]
    | succ j =>
      rw [Nat.pow_succ, Nat.mul_comm (2 ^ j) 2, ← Nat.div_div_eq_div_mul, show (2 * x + b) / 2 = x by omega]
      exact hf j (by omega)
theorem bitV_nat (mask j : Nat) : bitV (mask : Int) j = decide (mask / 2 ^ j % 2 = 1) := by
  have e : (mask : Int) / 2 ^ j % 2 = ((mask / 2 ^ j % 2 : Nat) : Int) := by
    rw [Int.natCast_emod, Int.natCast_ediv, Int.natCast_pow]
    rfl
  unfold bitV
  rw [e]
  by_cases h : mask / 2 ^ j % 2 = 1
  · rw [h]; rfl
  · rw [decide_eq_false h]
    exact decide_eq_false fun z => h (by omega)
theorem names_nd {st : Int} {l : List Nat} (h : l.Nodup) (hl : ∀ j ∈ l, j < 16) : (l.map fun j : Nat => nameV (j : Int) st).Nodup := by
  rw [List.nodup_iff_pairwise_ne, List.pairwise_map]
  refine List.Pairwise.imp_of_mem ?_ (List.nodup_iff_pairwise_ne.mp h)
  intro x y hx hy hne e
  have hx' := hl x hx
  have hy' := hl y hy
  have := (name_facts (k := (x : Int)) (st := st) (by omega) (by omega)).2.2 (y : Int) (by omega) (by omega) e
  omega
theorem pick_nd (mask : Int) {m : Nat} (hm : m ≤ 16) (st : Int) : (pickV mask m st).Nodup :=
  names_nd (List.Pairwise.filter _ List.nodup_range) fun j hj => by have := List.mem_range.mp (List.mem_filter.mp hj).1; omega
theorem least_mask {zs : List Str} {gs : List (List Str)} {m : Nat} {st : Int} (hm : m ≤ 16) (hh : Hits zs gs) (hin : ∀ z ∈ zs, ∃ g ∈ gs, z ∈ g) (hgs : ∀ g ∈ gs, ∀ z ∈ g, ∃ j : Nat, j < m ∧ z = nameV (j : Int) st) :
    ∃ mask : Nat, mask < 2 ^ m ∧ Hits (pickV (mask : Int) m st) gs ∧ (pickV (mask : Int) m st).length ≤ zs.length := by
  obtain ⟨mask, hlt, hf⟩ := mask_of m fun j => decide (nameV (j : Int) st ∈ zs)
  have hmem : ∀ z, z ∈ zs → z ∈ pickV (mask : Int) m st := fun z hz => by
    obtain ⟨g, hg, hzg⟩ := hin z hz
    obtain ⟨j, hj, rfl⟩ := hgs g hg z hzg
    exact List.mem_map.mpr ⟨j, List.mem_filter.mpr ⟨List.mem_range.mpr hj, by rw [bitV_nat, hf j hj]; exact decide_eq_true hz⟩, rfl⟩
  have hsub : ∀ z ∈ pickV (mask : Int) m st, z ∈ zs := fun z hz => by
    unfold pickV at hz
    obtain ⟨j, hj, rfl⟩ := List.mem_map.mp hz
    obtain ⟨h1, h2⟩ := List.mem_filter.mp hj
    rw [bitV_nat, hf j (List.mem_range.mp h1)] at h2
    exact of_decide_eq_true h2
  exact ⟨mask, hlt, hh.mono hmem, nd_le (pick_nd _ hm st) hsub⟩
theorem all_hit {gs : List (List Str)} {m : Nat} {st : Int} (hgs : ∀ g ∈ gs, g ≠ [] ∧ g.length ≤ m ∧ ∀ z ∈ g, ∃ j : Nat, j < m ∧ z = nameV (j : Int) st) : Hits ((List.range m).map fun j : Nat => nameV (j : Int) st) gs := fun g hg => by
  obtain ⟨h1, _, h3⟩ := hgs g hg
  obtain ⟨z, hz⟩ := List.exists_mem_of_ne_nil g h1
  obtain ⟨j, hj, e⟩ := h3 z hz
  exact ⟨z, hz, List.mem_map.mpr ⟨j, List.mem_range.mpr hj, e.symm⟩⟩
end Kx

namespace Kx
open PySem PySem.Spec PyProof.Rows L2 NdefX Kr Ke Kn Kg StX Kz SkE
/-- kept, but for the lists at M -/
def SameX (M : List Addr) (H H' : Hp) : Prop := ∀ a o, H a = some o → (a ∈ M → ∀ xs, o ≠ HO.lst xs) → H' a = some o
section
variable {M N : List Addr} {H H' H1 H2 : Hp} {gs : List (List Str)}
theorem SameX.of (s : Same H H') : SameX M H H' := fun a o e _ => s a o e
theorem SameX.mono (s : SameX M H H') (h : ∀ a ∈ M, a ∈ N) : SameX N H H' := fun a o e c => s a o e fun m => c (h a m)
theorem SameX.trans (s : SameX M H H1) (t : SameX M H1 H2) : SameX M H H2 := fun a o e c => t a o (s a o e c) c
theorem SameX.tup (s : SameX M H H') {a : Addr} {xs : List V} (e : H a = some (.tup xs)) : H' a = some (.tup xs) := s _ _ e fun _ _ z => by cases z
theorem SameX.off (s : SameX M H H') {a : Addr} {o : HO} (n : a ∉ M) (e : H a = some o) : H' a = some o := s _ _ e fun m => absurd m n
theorem SameX.mut {l : Addr} {xs ys : List V} (e : H l = some (.lst xs)) : SameX [l] H (upd H l (.lst ys)) := fun a o ea c => by
  by_cases h : a = l
  · subst h
    rw [e] at ea
    cases ea
    exact absurd rfl (c (List.mem_singleton.mpr rfl) xs)
  · rw [upd_ne h]
    exact ea
def Brs (R : List Str → V → List Addr → Prop) (H : Hp) (ch : List Str) : List V → List Str → List Addr → Prop
  | [], [], L => L = []
  | b :: bs, z :: zs, L => ∃ (tb : Addr) (w : V) (L1 L2 : List Addr), b = V.ref tb ∧ H tb = some (HO.tup [V.str z, w]) ∧ R (ch ++ [z]) w L1 ∧ Brs R H ch bs zs L2 ∧ L = L1 ++ L2
  | [], _ :: _, _ => False
  | _ :: _, [], _ => False
/-- a tree of cases, with the places of its lists -/
def RT (gs : List (List Str)) (H : Hp) : Nat → List Str → V → List Addr → Prop
  | 0, ch, v, L => ∃ (t l : Addr) (k : Nat) (g : List Str), v = V.ref t ∧ H t = some (HO.tup [V.int (k : Int), V.ref l]) ∧ gs[k]? = some g ∧ (∀ z ∈ g, z ∉ ch) ∧ H l = some (HO.lst []) ∧ L = [l]
  | n + 1, ch, v, L => ∃ (t l : Addr) (k : Nat) (g : List Str) (bs : List V) (L' : List Addr), v = V.ref t ∧ H t = some (HO.tup [V.int (k : Int), V.ref l]) ∧ gs[k]? = some g ∧ (∀ z ∈ g, z ∉ ch) ∧ H l = some (HO.lst bs) ∧ Brs (RT gs H n) H ch bs g L' ∧ L = l :: L'
theorem Brs.keep {R R' : List Str → V → List Addr → Prop} {ch : List Str} (hR : ∀ ch v L, R ch v L → (∀ a ∈ L, a ∉ M) → R' ch v L) (s : SameX M H H') : ∀ {bs : List V} {zs : List Str} {L : List Addr}, Brs R H ch bs zs L → (∀ a ∈ L, a ∉ M) → Brs R' H' ch bs zs L
  | [], [], _, h, _ => h
  | b :: bs, z :: zs, L, h, d => by
    obtain ⟨tb, w, L1, L2, rfl, et, hr, hb, rfl⟩ := h
    exact ⟨tb, w, L1, L2, rfl, s.tup et, hR _ _ _ hr (fun a ha => d a (List.mem_append_left _ ha)), Brs.keep hR s hb (fun a ha => d a (List.mem_append_right _ ha)), rfl⟩
  | [], _ :: _, _, h, _ => False.elim h
  | _ :: _, [], _, h, _ => False.elim h
theorem RT.keep (s : SameX M H H') : ∀ (n : Nat) (ch : List Str) (v : V) (L : List Addr), RT gs H n ch v L → (∀ a ∈ L, a ∉ M) → RT gs H' n ch v L
  | 0, ch, v, L, h, d => by
    obtain ⟨t, l, k, g, rfl, et, hk, hn, el, rfl⟩ := h
    exact ⟨t, l, k, g, rfl, s.tup et, hk, hn, s.off (d l List.mem_cons_self) el, rfl⟩
  | n + 1, ch, v, L, h, d => by
    obtain ⟨t, l, k, g, bs, L', rfl, et, hk, hn, el, hb, rfl⟩ := h
    exact ⟨t, l, k, g, bs, L', rfl, s.tup et, hk, hn, s.off (d l List.mem_cons_self) el, Brs.keep (fun ch v L h d => RT.keep s n ch v L h d) s hb (fun a ha => d a (List.mem_cons_of_mem _ ha)), rfl⟩
theorem Brs.occ {R : List Str → V → List Addr → Prop} {ch : List Str} (hR : ∀ ch v L, R ch v L → ∀ a ∈ L, ∃ xs, H a = some (HO.lst xs)) : ∀ {bs : List V} {zs : List Str} {L : List Addr}, Brs R H ch bs zs L → ∀ a ∈ L, ∃ xs, H a = some (HO.lst xs)
  | [], [], _, h, a, ha => by rw [show _ = [] from h] at ha; cases ha
  | b :: bs, z :: zs, L, h, a, ha => by
    obtain ⟨tb, w, L1, L2, rfl, et, hr, hb, rfl⟩ := h
    rcases List.mem_append.mp ha with ha | ha
    · exact hR _ _ _ hr a ha
    · exact Brs.occ hR hb a ha
  | [], _ :: _, _, h, _, _ => False.elim h
  | _ :: _, [], _, h, _, _ => False.elim h
theorem RT.occ : ∀ (n : Nat) (ch : List Str) (v : V) (L : List Addr), RT gs H n ch v L → ∀ a ∈ L, ∃ xs, H a = some (HO.lst xs)
  | 0, ch, v, L, h, a, ha => by
    obtain ⟨t, l, k, g, rfl, et, hk, hn, el, rfl⟩ := h
    rw [List.mem_singleton.mp ha]
    exact ⟨_, el⟩
  | n + 1, ch, v, L, h, a, ha => by
    obtain ⟨t, l, k, g, bs, L', rfl, et, hk, hn, el, hb, rfl⟩ := h
    rcases List.mem_cons.mp ha with rfl | ha
    · exact ⟨_, el⟩
    · exact Brs.occ (fun ch v L h => RT.occ n ch v L h) hb a ha
theorem Brs.len {R : List Str → V → List Addr → Prop} {ch : List Str} : ∀ {bs : List V} {zs : List Str} {L : List Addr}, Brs R H ch bs zs L → bs.length = zs.length
  | [], [], _, _ => rfl
  | b :: bs, z :: zs, L, h => by
    obtain ⟨tb, w, L1, L2, rfl, et, hr, hb, rfl⟩ := h
    rw [List.length_cons, List.length_cons, Brs.len hb]
  | [], _ :: _, _, h => False.elim h
  | _ :: _, [], _, h => False.elim h
theorem Brs.snoc {R : List Str → V → List Addr → Prop} {ch : List Str} {tb : Addr} {z : Str} {w : V} {L1 : List Addr} (et : H tb = some (HO.tup [V.str z, w])) (hr : R (ch ++ [z]) w L1) : ∀ {bs : List V} {zs : List Str} {L : List Addr}, Brs R H ch bs zs L → Brs R H ch (bs ++ [V.ref tb]) (zs ++ [z]) (L ++ L1)
  | [], [], L, h => by
    rw [show L = [] from h]
    exact ⟨tb, w, L1, [], rfl, et, hr, rfl, by rw [List.append_nil]; rfl⟩
  | b :: bs, y :: zs, L, h => by
    obtain ⟨tb', w', L1', L2, rfl, et', hr', hb, rfl⟩ := h
    exact ⟨tb', w', L1', L2 ++ L1, rfl, et', hr', Brs.snoc et hr hb, by rw [List.append_assoc]⟩
  | [], _ :: _, _, h => False.elim h
  | _ :: _, [], _, h => False.elim h
theorem RT.ref : ∀ {n : Nat} {ch : List Str} {v : V} {L : List Addr}, RT gs H n ch v L → ∃ t : Addr, v = V.ref t
  | 0, _, _, _, h => let ⟨t, _, _, _, e, _⟩ := h; ⟨t, e⟩
  | _ + 1, _, _, _, h => let ⟨t, _, _, _, _, _, e, _⟩ := h; ⟨t, e⟩
end
def spRefut (n : Nat) : Sp := fun vs H Q _ => ∃ (a c : Addr) (gs : List (List Str)) (ch : List Str), vs = [.ref a, .int (n : Int), .ref c] ∧ Grs H a gs ∧ GOk gs ∧ H c = some (.lst (ch.map V.str)) ∧ ch.length + n ≤ 100 ∧
  (∀ (v : V) (L : List Addr) H', Same H H' → RT gs H' n ch v L → L.Nodup → (∀ x ∈ L, H x = none) → NoC gs ch n → Q v H') ∧ (∀ H', Same H H' → ¬ NoC gs ch n → Q .non H')
abbrev s_refut : Stmt := topS 2
abbrev N_refut : List Str := ["groups", "size", "chosen", "at", "branches", "name", "below"]
theorem sc_refut : FnScope N_refut ["groups", "size", "chosen"] (defScope s_refut) := ⟨rfl, rfl, rfl, by decide +kernel, rfl, by decide +kernel, by decide +kernel⟩
abbrev s_refutation : Stmt := topS 1
abbrev N_refutation : List Str := ["groups", "size"]
theorem sc_refutation : FnScope N_refutation ["groups", "size"] (defScope s_refutation) := ⟨rfl, rfl, rfl, by decide +kernel, rfl, by decide +kernel, by decide +kernel⟩
def spRefutA : Sp := fun vs H Q E => ∃ n, n ≤ 8 ∧ spRefut n vs H Q E
def spRefutation : Sp := fun vs H Q _ => ∃ (a : Addr) (gs : List (List Str)) (n : Nat), vs = [.ref a, .int (n : Int)] ∧ Grs H a gs ∧ GOk gs ∧ n ≤ 8 ∧
  (∀ (v : V) (L : List Addr) H', Same H H' → RT gs H' n [] v L → L.Nodup → (∀ x ∈ L, H x = none) → NoC gs [] n → Q v H') ∧ (∀ H', Same H H' → ¬ NoC gs [] n → Q .non H')
section
variable {P : Program} {w : World} {K : PySem.W.Frag} {mg : Str → Option Value} {base : Heap}
theorem ok_refut {n : Nat} {sp' : Sp} {f : Addr} {fd : FuncData} (F : Fun K "_refutation" "_refutation" s_refut f fd) (T : TxS mg) (C_uncovered : Cal P w K mg base "_uncovered" 1 spUnc) (C_refut : Cal P w K mg base "_refutation" (n + 1) sp') (hn : ∀ m, n = m + 1 → sp' = spRefut m) : FnOk P w K mg base CX0 (n + 2) f fd ["groups", "size", "chosen"] (spRefut n) := by
  refine F.ok sc_refut (fun vs H Q E h => ?_) (fun cdv A outer s H vs Q E hr h => ?_)
  · obtain ⟨a, c, gs, ch, rfl, _⟩ := h
    rfl
  · obtain ⟨a, c, gs, ch, rfl, hG, hok, ec, hl, qc, qn⟩ := h
    refine ⟨_, (C8.pss_cut (ps_set (i := 3) sc_refut.nd rfl (Or.inl rfl) (pe_cal C_uncovered (hr.mono (by omega)) (by rfl) (pa_cons (pv 0) (pa_cons (pv 2) pa_nil))))
      (pss_cons (ps_if (pt_cmpR op_isN (pv 3) pe_non (nomark _))
        (pss_one (ps_ret pe_non))
        pss_nil)
      (pss_cons (ps_if (pt_cmpR op_eq (pv 1) pe_int (nomark _))
        (pss_one (ps_ret (pe_tup (pa_cons (pv 3) (pa_cons (pe_lst pa_nil) pa_nil)))))
        pss_nil)
      (pss_cons (ps_set (i := 4) sc_refut.nd rfl (Or.inl rfl) (pe_lst pa_nil))
      (pss_cons (ps_for PassesOwn.never rfl (pi_list (pe_ix ix_list (pv 0) (pv 3) (fun _ _ => rfl))) (pg_name (i := 5) sc_refut.nd rfl (Or.inl rfl))
        (C8.pss_cut (ps_set (i := 6) sc_refut.nd rfl (Or.inl rfl) (pe_cal C_refut (hr.mono (by omega)) (by rfl) (pa_cons (pv 0) (pa_cons (pe_op op_sub (pv 1) pe_int) (pa_cons (pe_lst (pa_star (pv 2) (pa_cons (pv 5) pa_nil))) pa_nil)))))
        (pss_cons (ps_if (pt_cmpR op_isN (pv 6) pe_non (nomark _))
          (pss_one (ps_ret pe_non))
          pss_nil)
        (pss_one (ps_expr (pe_bm PySem.F.plainAttrs_list PySem.F.slot_list_append PySem.F.type_list_append mt_append (pv 4) (pa_cons (pe_tup (pa_cons (pv 5) (pa_cons (pv 6) pa_nil))) pa_nil)))))))
      (pss_one (ps_ret (pe_tup (pa_cons (pv 3) (pa_cons (pv 4) pa_nil)))))))))), ?_⟩
    refine ⟨fun σ Hx => ∃ v : V, σ = [some (.ref a), some (.int (n : Int)), some (.ref c), some v, none, none, none] ∧ Same H Hx ∧ ((v = .non ∧ Hits ch gs) ∨ ∃ (k : Nat) (g : List Str), v = .int (k : Int) ∧ gs[k]? = some g ∧ ∀ z ∈ g, z ∉ ch), ?_, ?_⟩
    · exact ⟨_, rfl, _, rfl, a, c, gs, ch, rfl, hG, hok, ec, fun k g H' s' h1 h2 => ⟨_, rfl, s', .inr ⟨k, g, rfl, h1, h2⟩⟩, fun H' s' h => ⟨_, rfl, s', .inl ⟨rfl, h⟩⟩⟩
    rintro σ H1 ⟨v, rfl, s1, hv⟩
    rcases hv with ⟨rfl, hh⟩ | ⟨k, g, rfl, hk, hng⟩
    · exact ⟨_, rfl, rfl, _, rfl, iteB (fun _ => qn H1 s1 fun h => h [] (Nat.zero_le _) (by rw [List.append_nil]; exact hh)) (fun h => absurd rfl (of_decide_eq_false h))⟩
    · refine ⟨_, rfl, rfl, _, rfl, iteB (fun h => absurd (of_decide_eq_true h) (by intro e; cases e)) (fun _ => ?_)⟩
      have hgm := List.mem_of_getElem? hk
      refine ⟨_, rfl, rfl, _, rfl, ifI (fun h0 => ?_) (fun h0 => ?_)⟩
      · have hn0 : n = 0 := by omega
        subst hn0
        refine ⟨_, rfl, by show 0 ≤ sizeLine; decide, fun l nl => ⟨by show 2 ≤ sizeLine; decide, fun t nt => ?_⟩⟩
        exact qc (.ref t) [l] _ (s1.trans ((same_upd nl).trans (same_upd nt))) ⟨t, l, k, g, rfl, upd_same, hk, hng, (same_upd nt) _ _ upd_same, rfl⟩ (by simp) (fun x hx => by rw [List.mem_singleton.mp hx]; exact s1.free nl) (noc_zero hgm hng)
      · obtain ⟨m, rfl⟩ : ∃ m, n = m + 1 := ⟨n - 1, by omega⟩
        have hsp := hn m rfl
        subst hsp
        refine ⟨by show 0 ≤ sizeLine; decide, fun B nB => ?_⟩
        have sB : Same H1 (upd H1 B (.lst [])) := same_upd nB
        obtain ⟨xs, ea, hp⟩ := (hG.same s1).same sB
        obtain ⟨x, hx, t, rfl, et⟩ := pd_at hp hk
        refine ⟨_, rfl, _, rfl, a, _, (k : Int), _, rfl, rfl, .inl (.inl ea), atI_nat hx, t, rfl, ⟨_, .inl (.inl et)⟩, ?_⟩
        have et1 : H1 t = some (.lst (g.map V.str)) := by
          obtain ⟨xs', ea', hp'⟩ := hG.same s1
          obtain ⟨x', hx', t', e', et'⟩ := pd_at hp' hk
          have q1 := sB _ _ ea'
          rw [ea] at q1
          cases q1
          rw [hx] at hx'
          cases hx'
          cases e'
          exact et'
        refine for_list (xs := g.map V.str) (fun j σ Hx => ∃ (x5 x6 : Option V) (bs : List V) (L : List Addr), σ = [some (.ref a), some (.int ((m + 1 : Nat) : Int)), some (.ref c), some (.int (k : Int)), some (.ref B), x5, x6] ∧ Same H1 Hx ∧ Hx B = some (.lst bs) ∧ Brs (RT gs Hx m) Hx ch bs (g.take j) L ∧ L.Nodup ∧ (∀ x ∈ L, H1 x = none ∧ x ≠ B) ∧ ∀ z ∈ g.take j, NoC gs (ch ++ [z]) m)
          ⟨none, none, [], [], rfl, sB, upd_same, rfl, .nil, (fun x hx => by cases hx), fun z hz => by simp at hz⟩ (fun j σ Hx _ ⟨_, _, _, _, _, sx, _⟩ => .inl (.inl (sx _ _ et1))) ?_ ?_
        · rintro j y σ Hx hy ⟨x5, x6, bs, L, rfl, sx, eB, hb, hnd, hfr, hno⟩
          obtain ⟨z, hz, rfl⟩ := str_get hy
          have hzm := List.mem_of_getElem? hz
          refine ⟨fun σ H' => ∃ v : V, σ = [some (.ref a), some (.int ((m + 1 : Nat) : Int)), some (.ref c), some (.int (k : Int)), some (.ref B), some (.str z), some v] ∧ Same Hx H' ∧ ((v = .non ∧ ¬ NoC gs (ch ++ [z]) m) ∨ ∃ L1 : List Addr, RT gs H' m (ch ++ [z]) v L1 ∧ L1.Nodup ∧ (∀ x ∈ L1, Hx x = none) ∧ NoC gs (ch ++ [z]) m), ?_, ?_⟩
          · refine ⟨_, rfl, _, rfl, _, _, rfl, rfl, _, rfl, c, _, rfl, .inr (.inl (.inl (sx _ _ (s1 _ _ ec)))), _, rfl, sz9 (by rw [List.length_append, List.length_map]; show ch.length + 1 ≤ 100000; omega), fun l nl => ?_⟩
            have sl2 : Same Hx (upd Hx l (.lst ((ch ++ [z]).map V.str))) := same_upd nl
            have e1 : ch.map V.str ++ [V.str z] = (ch ++ [z]).map V.str := by rw [List.map_append]; rfl
            rw [e1]
            refine ⟨a, l, gs, ch ++ [z], ?_, ((hG.same s1).same sx).same sl2, hok, upd_same, by rw [List.length_append]; show ch.length + 1 + m ≤ 100; omega, fun v L1 H' s' h1 h2 h3 h4 => ⟨_, rfl, sl2.trans s', .inr ⟨L1, h1, h2, fun x hx => sl2.free (h3 x hx), h4⟩⟩, fun H' s' hc => ⟨_, rfl, sl2.trans s', .inl ⟨rfl, hc⟩⟩⟩
            have e2 : ((m + 1 : Nat) : Int) - 1 = (m : Int) := by omega
            show [V.ref a, V.int (((m + 1 : Nat) : Int) - 1), V.ref l] = _
            rw [e2]
          rintro σ H2 ⟨v, rfl, s2, hv⟩
          rcases hv with ⟨rfl, hnc⟩ | ⟨L1, hrt, hnd1, hfr1, hnc⟩
          · refine ⟨_, rfl, rfl, _, rfl, iteB (fun _ => ?_) (fun h => absurd rfl (of_decide_eq_false h))⟩
            refine qn H2 ((s1.trans sx).trans s2) fun h => hnc fun ns hl hh => h (z :: ns) (by rw [List.length_cons]; omega) ?_
            rw [List.append_assoc] at hh
            exact hh
          · obtain ⟨tv, rfl⟩ := hrt.ref
            refine ⟨_, rfl, rfl, _, rfl, iteB (fun h => absurd (of_decide_eq_true h) (by intro e; cases e)) (fun _ => ?_)⟩
            have eB2 := s2 _ _ eB
            refine ⟨_, rfl, .inl ⟨rfl, _, .inl (.inl eB2)⟩, _, rfl, _, rfl, by show 2 ≤ sizeLine; decide, fun tb ntb => ?_⟩
            have st : Same H2 (upd H2 tb (.tup [.str z, .ref tv])) := same_upd ntb
            have hbl := hb.len
            rw [List.length_take] at hbl
            have hgl := hok.2 g hgm
            refine ⟨B, _, _, rfl, rfl, st _ _ eB2, sz8 (by omega), ?_⟩
            have htB : tb ≠ B := fun e => by rw [e, eB2] at ntb; cases ntb
            have k2 : SameX [B] H2 (upd (upd H2 tb (.tup [.str z, .ref tv])) B (.lst (bs ++ [.ref tb]))) := (SameX.of st).trans (SameX.mut (st _ _ eB2))
            have kx : SameX [B] Hx (upd (upd H2 tb (.tup [.str z, .ref tv])) B (.lst (bs ++ [.ref tb]))) := (SameX.of s2).trans k2
            have hL1B : ∀ x ∈ L1, x ∉ [B] := fun x hx e => by
              have := hfr1 x hx
              rw [List.mem_singleton.mp e, eB] at this
              cases this
            refine ⟨_, _, bs ++ [.ref tb], L ++ L1, rfl, same_mut ((sx.trans s2).trans st) nB, upd_same, ?_, ?_, ?_, ?_⟩
            · rw [take_one hz]
              exact Brs.snoc ((upd_ne htB).trans upd_same) (RT.keep k2 _ _ _ _ hrt hL1B) (Brs.keep (fun ch v L h d => RT.keep kx _ ch v L h d) kx hb fun x hx e => (hfr x hx).2 (List.mem_singleton.mp e))
            · rw [List.nodup_append]
              refine ⟨hnd, hnd1, fun x hx y hy e => ?_⟩
              obtain ⟨ys, ey⟩ := Brs.occ (fun ch v L h => RT.occ m ch v L h) hb x hx
              have := hfr1 y hy
              rw [← e, ey] at this
              cases this
            · intro x hx
              rcases List.mem_append.mp hx with hx | hx
              · exact hfr x hx
              · exact ⟨sx.free (hfr1 x hx), fun e => hL1B x hx (by rw [e]; exact List.mem_singleton.mpr rfl)⟩
            · intro y hy
              rw [take_one hz] at hy
              rcases List.mem_append.mp hy with hy | hy
              · exact hno y hy
              · rw [List.mem_singleton.mp hy]; exact hnc
        · rintro σ Hx ⟨x5, x6, bs, L, rfl, sx, eB, hb, hnd, hfr, hno⟩
          rw [List.length_map, List.take_length] at hno hb
          refine ⟨_, rfl, _, rfl, by show 2 ≤ sizeLine; decide, fun t' nt => ?_⟩
          have st := same_upd (o := .tup [.int (k : Int), .ref B]) nt
          refine qc (.ref t') (B :: L) _ ((s1.trans sx).trans st) ⟨t', B, k, g, bs, L, rfl, upd_same, hk, hng, st _ _ eB, Brs.keep (M := []) (fun ch v L h d => RT.keep (M := []) (SameX.of st) _ ch v L h d) (SameX.of st) hb (fun x _ e => by cases e), rfl⟩ (List.nodup_cons.mpr ⟨fun h => (hfr B h).2 rfl, hnd⟩) (fun x hx => ?_) (noc_step hgm hng hno)
          rcases List.mem_cons.mp hx with rfl | hx
          · exact s1.free nB
          · exact s1.free (hfr x hx).1
theorem rfn_all {f : Addr} {fd : FuncData} {ps : List Str} (F : ∀ n, n ≤ 8 → FnOk P w K mg base CX0 10 f fd ps (spRefut n)) : FnOk P w K mg base CX0 10 f fd ps spRefutA :=
  ⟨fun vs H Q E ⟨n, hn, h⟩ => (F n hn).len vs H Q E h, fun A outer s H args us vs Q E hr e0 hb r ⟨n, hn, h⟩ => (F n hn).run A outer s H args us vs Q E hr e0 hb r h⟩
theorem refut_all {f : Addr} {fd : FuncData} (F : Fun K "_refutation" "_refutation" s_refut f fd) (T : TxS mg) (C_unc : Cal P w K mg base "_uncovered" 1 spUnc) (b : Binds K fd ["groups", "size", "chosen"] []) (g : mg "_refutation" = some (.ref f)) (kp : PySem.W.keepIn K (.ref f) = true) :
    ∀ n, FnOk P w K mg base CX0 (n + 2) f fd ["groups", "size", "chosen"] (spRefut n)
  | 0 => ok_refut (n := 0) (sp' := fun _ _ _ _ => False) F T C_unc ⟨f, fd, _, F.ok (k := 0) (sp := fun _ _ _ _ => False) sc_refut (fun vs H Q E h => h.elim) (fun cdv A outer s H vs Q E hr h => h.elim), b, g, kp⟩ (fun m h => by omega)
  | n + 1 => ok_refut (n := n + 1) (sp' := spRefut n) F T C_unc ⟨f, fd, _, refut_all F T C_unc b g kp n, b, g, kp⟩ (fun m h => by rw [show n = m by omega])
theorem ok_refutation {f : Addr} {fd : FuncData} (F : Fun K "refutation" "refutation" s_refutation f fd) (T : TxS mg) (C_refut : Cal P w K mg base "_refutation" 10 spRefutA) : FnOk P w K mg base CX0 11 f fd ["groups", "size"] spRefutation := by
  refine F.ok sc_refutation (fun vs H Q E h => ?_) (fun cdv A outer s H vs Q E hr h => ?_)
  · obtain ⟨a, gs, n, rfl, _⟩ := h
    rfl
  · obtain ⟨a, gs, n, rfl, hG, hok, hn, qc, qn⟩ := h
    refine ⟨_, (pss_one (ps_ret (pe_cal C_refut (hr.mono (by decide)) (by rfl) (pa_cons (pv 0) (pa_cons (pv 1) (pa_cons (pe_lst pa_nil) pa_nil)))))), ?_⟩
    refine ⟨_, rfl, _, rfl, by show 0 ≤ sizeLine; decide, fun c nc => ?_⟩
    have sc := same_upd (o := .lst []) nc
    exact ⟨n, hn, a, c, gs, [], rfl, hG.same sc, hok, upd_same, by show 0 + n ≤ 100; omega, fun v L H' s' h1 h2 h3 h4 => qc v L H' (sc.trans s') h1 h2 (fun x hx => sc.free (h3 x hx)) h4, fun H' s' h => qn H' (sc.trans s') h⟩
end
end Kx

namespace Kx
open PySem PySem.Spec PyProof.Rows L2 NdefX Kr Ke Kn Kg StX Kz SkE
/-- the groups, none of them among the places L -/
def GrsX (L : List Addr) (H : Hp) (a : Addr) (gs : List (List Str)) : Prop := ∃ xs, a ∉ L ∧ H a = some (.lst xs) ∧ Paired (fun x zs => ∃ t : Addr, x = V.ref t ∧ t ∉ L ∧ H t = some (.lst (zs.map V.str))) xs gs
theorem GrsX.keep {L : List Addr} {H H' : Hp} {a : Addr} {gs : List (List Str)} (h : GrsX L H a gs) (s : SameX L H H') : GrsX L H' a gs := by
  obtain ⟨xs, na, ea, hp⟩ := h
  exact ⟨xs, na, s.off na ea, pd_mono (fun _ _ ⟨t, e, nt, et⟩ => ⟨t, e, nt, s.off nt et⟩) hp⟩
theorem GrsX.sub {L M : List Addr} {H : Hp} {a : Addr} {gs : List (List Str)} (h : GrsX L H a gs) (s : ∀ x ∈ M, x ∈ L) : GrsX M H a gs := by
  obtain ⟨xs, na, ea, hp⟩ := h
  exact ⟨xs, fun m => na (s _ m), ea, pd_mono (fun _ _ ⟨t, e, nt, et⟩ => ⟨t, e, fun m => nt (s _ m), et⟩) hp⟩
theorem Grs.x {L : List Addr} {H H' : Hp} {a : Addr} {gs : List (List Str)} (h : Grs H a gs) (s : Same H H') (f : ∀ x ∈ L, H x = none) : GrsX L H' a gs := by
  obtain ⟨xs, ea, hp⟩ := h
  have off : ∀ {t : Addr} {o : HO}, H t = some o → t ∉ L := fun e m => by rw [f _ m] at e; cases e
  exact ⟨xs, off ea, s _ _ ea, pd_mono (fun _ _ ⟨t, e, et⟩ => ⟨t, e, off et, s _ _ et⟩) hp⟩
theorem RT.node {gs : List (List Str)} {H : Hp} : ∀ {n : Nat} {ch : List Str} {v : V} {L : List Addr}, RT gs H n ch v L → ∃ (t l : Addr) (k : Nat) (g : List Str) (bs : List V) (L' : List Addr), v = V.ref t ∧ H t = some (HO.tup [V.int (k : Int), V.ref l]) ∧ gs[k]? = some g ∧ (∀ z ∈ g, z ∉ ch) ∧ H l = some (HO.lst bs) ∧ L = l :: L' ∧ (n = 0 → bs = []) ∧ ∀ m, n = m + 1 → Brs (RT gs H m) H ch bs g L'
  | 0, ch, v, L, h => by
    obtain ⟨t, l, k, g, e, et, hk, hn, el, eL⟩ := h
    exact ⟨t, l, k, g, [], [], e, et, hk, hn, el, eL, fun _ => rfl, fun m hm => by omega⟩
  | n + 1, ch, v, L, h => by
    obtain ⟨t, l, k, g, bs, L', e, et, hk, hn, el, hb, eL⟩ := h
    exact ⟨t, l, k, g, bs, L', e, et, hk, hn, el, eL, (fun h => by omega), fun m hm => by cases hm; exact hb⟩
def spRefs (n : Nat) : Sp := fun vs H Q _ => ∃ (v : V) (ag c : Addr) (gs : List (List Str)) (ch : List Str) (L : List Addr), vs = [v, .ref ag, .int (n : Int), .ref c] ∧ RT gs H n ch v L ∧ L.Nodup ∧ GrsX L H ag gs ∧ GOk gs ∧ H c = some (.lst (ch.map V.str)) ∧ c ∉ L ∧ ch.length + n ≤ 100 ∧ ∀ H', SameX L H H' → Q (.bl true) H'
def spRefsA : Sp := fun vs H Q E => ∃ n, n ≤ 8 ∧ spRefs n vs H Q E
abbrev s_refutes : Stmt := topS 12
abbrev N_refutes : List Str := ["_law_told", "_law_groups", "_law_size", "_law_chosen", "_law_group", "_law_k", "_law_branch"]
theorem sc_refutes : FnScope N_refutes ["_law_told", "_law_groups", "_law_size", "_law_chosen"] (defScope s_refutes) := ⟨rfl, rfl, rfl, by decide +kernel, rfl, by decide +kernel, by decide +kernel⟩
section
variable {P : Program} {w : World} {K : PySem.W.Frag} {mg : Str → Option Value} {base : Heap}
theorem ok_refutes {n : Nat} {sp' : Sp} {f : Addr} {fd : FuncData} (F : Fun K "_law_refutes" "_law_refutes" s_refutes f fd) (T : TxS mg) (C_hits : Cal P w K mg base "_law_hits" 1 spHits) (C_refutes : Cal P w K mg base "_law_refutes" (n + 1) sp') (hn : ∀ m, n = m + 1 → sp' = spRefs m) : FnOk P w K mg base CX0 (n + 2) f fd ["_law_told", "_law_groups", "_law_size", "_law_chosen"] (spRefs n) := by
  refine F.ok sc_refutes (fun vs H Q E h => ?_) (fun cdv A outer s H vs Q E hr h => ?_)
  · obtain ⟨v, ag, c, gs, ch, L, rfl, _⟩ := h
    rfl
  · obtain ⟨v, ag, c, gs, ch, L, rfl, hrt, hnd, hG, hok, ec, hcL, hl, q⟩ := h
    refine ⟨_, (pss_cons (ps_if (PW.pt (pw_or (pt_not (pt_val (pe_callB call_isi (by rfl) T.m_isinstance (by decide +kernel) (pa_cons (pv 0) (pa_cons (pe_bltn (v := .ty "tuple") (by rfl) T.m_tuple (by decide +kernel) rfl) pa_nil))))) (pw_or (pt_cmpR op_ne (pe_callB call_len_seq (by rfl) T.m_len (by decide +kernel) (pa_cons (pv 0) pa_nil)) pe_int (nomark _)) (pw_or1 (pt_not (pt_val (pe_callB call_isi (by rfl) T.m_isinstance (by decide +kernel) (pa_cons (pe_ix ix_tup (pv 0) pe_int (fun _ _ => rfl)) (pa_cons (pe_bltn (v := .ty "list") (by rfl) T.m_list (by decide +kernel) rfl) pa_nil)))))))))
        (pss_one (ps_ret pe_bl))
        pss_nil)
      (pss_cons (ps_if (PW.pt (pw_or (pt_not (pt_val (pe_callB call_isi (by rfl) T.m_isinstance (by decide +kernel) (pa_cons (pe_ix ix_tup (pv 0) pe_int (fun _ _ => rfl)) (pa_cons (pe_bltn (v := .ty "int") (by rfl) T.m_int (by decide +kernel) rfl) pa_nil))))) (pw_or1 (pt_val (pe_callB call_isi (by rfl) T.m_isinstance (by decide +kernel) (pa_cons (pe_ix ix_tup (pv 0) pe_int (fun _ _ => rfl)) (pa_cons (pe_bltn (v := .ty "bool") (by rfl) T.m_bool (by decide +kernel) rfl) pa_nil)))))))
        (pss_one (ps_ret pe_bl))
        pss_nil)
      (pss_cons (ps_if (PW.pt (pw_or (pt_cmpR op_lt (pe_ix ix_tup (pv 0) pe_int (fun _ _ => rfl)) pe_int (nomark _)) (pw_or1 (pt_cmpR op_ge (pe_ix ix_tup (pv 0) pe_int (fun _ _ => rfl)) (pe_callB call_len_seq (by rfl) T.m_len (by decide +kernel) (pa_cons (pv 1) pa_nil)) (nomark _)))))
        (pss_one (ps_ret pe_bl))
        pss_nil)
      (pss_cons (ps_set (i := 4) sc_refutes.nd rfl (Or.inl rfl) (pe_ix ix_list (pv 1) (pe_ix ix_tup (pv 0) pe_int (fun _ _ => rfl)) (fun _ _ => rfl)))
      (pss_cons (ps_if (pt_val (pe_cal C_hits (hr.mono (by omega)) (by rfl) (pa_cons (pv 3) (pa_cons (pe_lst (pa_cons (pv 4) pa_nil)) pa_nil))))
        (pss_one (ps_ret pe_bl))
        pss_nil)
      (pss_cons (ps_if (pt_cmpR op_eq (pv 2) pe_int (nomark _))
        (pss_cons (ps_if (pt_cmpR (op_neD hr.units) (pe_ix ix_tup (pv 0) pe_int (fun _ _ => rfl)) (pe_lst pa_nil) (nomark _))
          (pss_one (ps_ret pe_bl))
          pss_nil)
        (pss_cons (ps_expr (pe_bm PySem.F.plainAttrs_list PySem.F.slot_list_append PySem.F.type_list_append mt_append (pe_ix ix_tup (pv 0) pe_int (fun _ _ => rfl)) (pa_cons pe_str pa_nil)))
        (pss_one (ps_ret pe_bl))))
        pss_nil)
      (pss_cons (ps_if (pt_cmpR op_ne (pe_callB call_len_seq (by rfl) T.m_len (by decide +kernel) (pa_cons (pe_ix ix_tup (pv 0) pe_int (fun _ _ => rfl)) pa_nil)) (pe_callB call_len_seq (by rfl) T.m_len (by decide +kernel) (pa_cons (pv 4) pa_nil)) (nomark _))
        (pss_one (ps_ret pe_bl))
        pss_nil)
      (pss_cons (ps_for PassesOwn.never rfl (pi_range1 (by rfl) T.m_range (pa_cons (pe_callB call_len_seq (by rfl) T.m_len (by decide +kernel) (pa_cons (pv 4) pa_nil)) pa_nil)) (pg_name (i := 5) sc_refutes.nd rfl (Or.inl rfl))
        (pss_cons (ps_set (i := 6) sc_refutes.nd rfl (Or.inl rfl) (pe_ix ix_list (pe_ix ix_tup (pv 0) pe_int (fun _ _ => rfl)) (pv 5) (fun _ _ => rfl)))
        (pss_cons (ps_if (PW.pt (pw_or (pt_not (pt_val (pe_callB call_isi (by rfl) T.m_isinstance (by decide +kernel) (pa_cons (pv 6) (pa_cons (pe_bltn (v := .ty "tuple") (by rfl) T.m_tuple (by decide +kernel) rfl) pa_nil))))) (pw_or (pt_cmpR op_ne (pe_callB call_len_seq (by rfl) T.m_len (by decide +kernel) (pa_cons (pv 6) pa_nil)) pe_int (nomark _)) (pw_or1 (pt_cmpR op_ne (pe_ix ix_tup (pv 6) pe_int (fun _ _ => rfl)) (pe_ix ix_list (pv 4) (pv 5) (fun _ _ => rfl)) (nomark _))))))
          (pss_one (ps_ret pe_bl))
          pss_nil)
        (pss_one (ps_if (pt_not (pt_val (pe_cal C_refutes (hr.mono (by omega)) (by rfl) (pa_cons (pe_ix ix_tup (pv 6) pe_int (fun _ _ => rfl)) (pa_cons (pv 1) (pa_cons (pe_op op_sub (pv 2) pe_int) (pa_cons (pe_op op_cat (pv 3) (pe_lst (pa_cons (pe_ix ix_list (pv 4) (pv 5) (fun _ _ => rfl)) pa_nil))) pa_nil)))))))
          (pss_one (ps_ret pe_bl))
          pss_nil)))))
      (pss_cons (ps_expr (pe_bm PySem.F.plainAttrs_list PySem.F.slot_list_append PySem.F.type_list_append mt_append (pe_ix ix_tup (pv 0) pe_int (fun _ _ => rfl)) (pa_cons pe_str pa_nil)))
      (pss_one (ps_ret pe_bl))))))))))), ?_⟩
    obtain ⟨t, l, k, g, bs, L', rfl, et, hk, hng, el, rfl, hb0, hbS⟩ := hrt.node
    obtain ⟨gx, hna, eg, hgp⟩ := id hG
    have hgxl : gx.length = gs.length := pd_len hgp
    have hgm := List.mem_of_getElem? hk
    have hkl : k < gs.length := (List.getElem?_eq_some_iff.mp hk).1
    obtain ⟨x, hx, tg, rfl, ntg, etg⟩ := pd_at hgp hk
    refine ⟨_, rfl, .ref t, .ty "tuple", .type "tuple", .type "tuple", true, rfl, .ty "tuple", .base (.tup et), kit_ty (by decide +kernel), _, rfl, iteF ?_⟩
    refine ⟨_, rfl, t, _, rfl, .inr (.inl (.inl et)), rfl, _, rfl, iteB (fun h => (by simp at h)) (fun _ => ?_)⟩
    refine ⟨_, rfl, t, _, 1, .ref l, rfl, rfl, .inl (.inl et), atI_nat (j := 1) rfl, .ref l, .ty "list", .type "list", .type "list", true, rfl, .ty "list", .base (.lst el), kit_ty (by decide +kernel), _, rfl, iteF ?_⟩
    refine ⟨_, rfl, t, _, 0, .int (k : Int), rfl, rfl, .inl (.inl et), atI_nat (j := 0) rfl, .int (k : Int), .ty "int", .type "int", .type "int", true, rfl, .ty "int", .base (.int _), kit_ty (by decide +kernel), _, rfl, iteF ?_⟩
    refine ⟨_, rfl, t, _, 0, .int (k : Int), rfl, rfl, .inl (.inl et), atI_nat (j := 0) rfl, .int (k : Int), .ty "bool", .type "int", .type "bool", false, rfl, .ty "bool", .base (.int _), kit_ty (by decide +kernel), _, rfl, iteF ?_⟩
    refine ⟨_, rfl, t, _, 0, .int (k : Int), rfl, rfl, .inl (.inl et), atI_nat (j := 0) rfl, _, _, rfl, rfl, _, rfl, iteB (fun h => absurd (of_decide_eq_true h) (by omega)) (fun _ => ?_)⟩
    refine ⟨_, rfl, t, _, 0, .int (k : Int), rfl, rfl, .inl (.inl et), atI_nat (j := 0) rfl, _, rfl, ag, gx, rfl, .inl (.inl (.inl eg)), _, _, rfl, rfl, _, rfl, iteB (fun h => absurd (of_decide_eq_true h) (by omega)) (fun _ => ?_)⟩
    refine ⟨_, rfl, _, rfl, t, _, 0, .int (k : Int), rfl, rfl, .inl (.inl et), atI_nat (j := 0) rfl, ag, gx, (k : Int), .ref tg, rfl, rfl, .inl (.inl eg), atI_nat hx, ?_⟩
    refine ⟨_, rfl, _, rfl, by show 1 ≤ sizeLine; decide, fun d nd => ?_⟩
    have sd := same_upd (o := .lst [V.ref tg]) nd
    refine ⟨c, d, ch, [g], rfl, sd _ _ ec, ⟨_, upd_same, .cons ⟨tg, rfl, sd _ _ etg⟩ .nil⟩, fun H1 s1' => ⟨_, rfl, ?_⟩⟩
    have hhf : hitsB ch [g] = false := by
      cases e : hitsB ch [g] with
      | false => rfl
      | true =>
        obtain ⟨z, hz, hc⟩ := hitsB_iff.mp e g List.mem_cons_self
        exact absurd hc (hng z hz)
    rw [hhf]
    refine iteF ?_
    have s1 := sd.trans s1'
    have et1 := s1 _ _ et
    have el1 := s1 _ _ el
    have etg1 := s1 _ _ etg
    refine ⟨_, rfl, rfl, _, rfl, ifI (fun h0 => ?_) (fun h0 => ?_)⟩
    · have hn0 : n = 0 := by omega
      cases hb0 hn0
      refine ⟨_, rfl, t, _, 1, .ref l, rfl, rfl, .inl (.inl et1), atI_nat (j := 1) rfl, by show 0 ≤ sizeLine; decide, fun u nu => ?_⟩
      have su := same_upd (o := .lst []) nu
      refine ⟨.list (tD []), .list (tD []), .lst (.inl (.inl (su _ _ el1))) (dp_txts []), .lst (.inl (.inl upd_same)) (dp_txts []), (shp_txts (n := 1) fun x hx => (by cases hx)), (shp_txts (n := 1) fun x hx => (by cases hx)), _, rfl, ?_⟩
      rw [eqv_lst, decide_eq_true rfl]
      refine iteF ?_
      refine ⟨_, rfl, t, _, 1, .ref l, rfl, rfl, .inl (.inl (su _ _ et1)), atI_nat (j := 1) rfl, .inl ⟨rfl, _, .inl (.inl (su _ _ el1))⟩, l, _, _, rfl, rfl, su _ _ el1, by show 0 < sizeLine; decide, ?_⟩
      exact q _ (((SameX.of (s1.trans su)).trans (SameX.mut (su _ _ el1))).mono fun a ha => by rw [List.mem_singleton.mp ha]; exact List.mem_cons_self)
    · obtain ⟨m, rfl⟩ : ∃ m, n = m + 1 := ⟨n - 1, by omega⟩
      have hsp := hn m rfl
      subst hsp
      have hb := hbS m rfl
      have hbl := hb.len
      have hgl := hok.2 g hgm
      obtain ⟨hlL, hnd'⟩ := List.nodup_cons.mp hnd
      refine ⟨_, rfl, t, _, 1, .ref l, rfl, rfl, .inl (.inl et1), atI_nat (j := 1) rfl, l, _, rfl, .inl (.inl (.inl el1)), _, rfl, tg, _, rfl, .inl (.inl (.inl etg1)), rfl, _, rfl, iteB (fun h => ?_) (fun _ => ?_)⟩
      · rw [List.length_map, hbl] at h
        simp at h
      refine ⟨_, rfl, tg, _, rfl, .inl (.inl (.inl etg1)), ?_⟩
      rw [List.length_map]
      refine ⟨(g.length : Int), rfl, by omega, by omega, ?_⟩
      have hb1 : Brs (RT gs H1 m) H1 ch bs g L' := Brs.keep (M := []) (fun ch v L h d => RT.keep (M := []) (SameX.of s1) _ ch v L h d) (SameX.of s1) hb (fun x _ e => by cases e)
      refine for_range (lo := 0) (n := Int.toNat (g.length : Int)) (fun i σ Hx => ∃ (x5 x6 : Option V) (Lr : List Addr), σ = [some (.ref t), some (.ref ag), some (.int ((m + 1 : Nat) : Int)), some (.ref c), some (.ref tg), x5, x6] ∧ SameX L' H1 Hx ∧ Brs (RT gs Hx m) Hx ch (bs.drop i) (g.drop i) Lr ∧ Lr.Nodup ∧ ∀ a ∈ Lr, a ∈ L')
        ⟨none, none, L', rfl, SameX.of (Same.refl _), hb1, hnd', fun a h => h⟩ ?_ ?_
      · rintro i σ Hx hi ⟨x5, x6, Lr, rfl, sx, hbr, hndr, hsub⟩
        have hi' : i < g.length := hi
        have hib : i < bs.length := by omega
        rw [List.drop_eq_getElem_cons hi', List.drop_eq_getElem_cons hib] at hbr
        obtain ⟨tb, w, L1, L2, eb, etb, hrt1, hbr2, rfl⟩ := hbr
        have hz : g[i]? = some g[i] := List.getElem?_eq_getElem hi'
        have hbi : bs[i]? = some (.ref tb) := by rw [List.getElem?_eq_getElem hib, eb]
        generalize g[i] = z at hz etb hrt1
        have atz : atI (g.map V.str) (0 + (i : Int)) = some (.str z) := by
          rw [Int.zero_add]
          exact atI_nat (j := i) (by rw [List.getElem?_map, hz]; rfl)
        have atb : atI bs (0 + (i : Int)) = some (.ref tb) := by
          rw [Int.zero_add]
          exact atI_nat hbi
        have etx := sx.tup et1
        have elx := sx.off hlL el1
        have etgx := sx.off (fun h => ntg (List.mem_cons_of_mem _ h)) etg1
        refine ⟨_, rfl, t, _, 1, .ref l, rfl, rfl, .inl (.inl etx), atI_nat (j := 1) rfl, _, rfl, l, bs, _, .ref tb, rfl, rfl, .inl (.inl elx), atb, ?_⟩
        refine ⟨_, rfl, .ref tb, .ty "tuple", .type "tuple", .type "tuple", true, rfl, .ty "tuple", .base (.tup etb), kit_ty (by decide +kernel), _, rfl, iteF ?_⟩
        refine ⟨_, rfl, tb, _, rfl, .inr (.inl (.inl etb)), rfl, _, rfl, iteB (fun h => (by simp at h)) (fun _ => ?_)⟩
        refine ⟨_, rfl, tb, _, 0, .str z, rfl, rfl, .inl (.inl etb), atI_nat (j := 0) rfl, _, rfl, _, rfl, tg, _, _, .str z, rfl, rfl, .inl (.inl etgx), atz, rfl, _, rfl, iteB (fun h => (by simp at h)) (fun _ => ?_)⟩
        refine ⟨_, rfl, tb, _, 1, w, rfl, rfl, .inl (.inl etb), atI_nat (j := 1) rfl, _, rfl, _, rfl, _, _, rfl, rfl, _, rfl, _, rfl, _, rfl, tg, _, _, .str z, rfl, rfl, .inl (.inl etgx), atz, by show 1 ≤ sizeLine; decide, fun d2 nd2 => ?_⟩
        have s2 := same_upd (o := .lst [V.str z]) nd2
        have sH : SameX (l :: L') H Hx := ((SameX.of s1).trans sx).mono fun a h => List.mem_cons_of_mem _ h
        have ecx := sH.off hcL ec
        refine ⟨c, d2, _, _, rfl, rfl, s2 _ _ ecx, upd_same, sz9 (by rw [List.length_map]; show ch.length + 1 ≤ 100000; omega), fun c2 nc2 => ?_⟩
        have e1 : ch.map V.str ++ [V.str z] = (ch ++ [z]).map V.str := by rw [List.map_append]; rfl
        rw [e1]
        have s3 := s2.trans (same_upd (o := .lst ((ch ++ [z]).map V.str)) nc2)
        have hc2 : c2 ∉ L1 := fun h => by
          obtain ⟨ys, ey⟩ := RT.occ _ _ _ _ hrt1 c2 h
          have := s2 _ _ ey
          rw [nc2] at this
          cases this
        have hndp := List.nodup_append.mp hndr
        refine ⟨w, ag, c2, gs, ch ++ [z], L1, ?_, RT.keep (M := []) (SameX.of s3) _ _ _ _ hrt1 (fun x _ e => by cases e), hndp.1, ((hG.keep sH).keep (SameX.of s3)).sub (fun x hx => List.mem_cons_of_mem _ (hsub x (List.mem_append_left _ hx))), hok, upd_same, hc2, by rw [List.length_append]; show ch.length + 1 + m ≤ 100; omega, fun H' s' => ⟨_, rfl, iteF ?_⟩⟩
        · have e2 : ((m + 1 : Nat) : Int) - 1 = (m : Int) := by omega
          show [w, V.ref ag, V.int (((m + 1 : Nat) : Int) - 1), V.ref c2] = _
          rw [e2]
        have sxy : SameX L1 Hx H' := (SameX.of s3).trans s'
        refine ⟨_, _, L2, rfl, sx.trans (sxy.mono fun a h => hsub a (List.mem_append_left _ h)), Brs.keep (fun ch v L h d => RT.keep sxy _ ch v L h d) sxy hbr2 (fun x h1 h2 => hndp.2.2 x h2 x h1 rfl), hndp.2.1, fun a h => hsub a (List.mem_append_right _ h)⟩
      · rintro σ Hx ⟨x5, x6, Lr, rfl, sx, _⟩
        have etx := sx.tup et1
        have elx := sx.off hlL el1
        refine ⟨_, rfl, t, _, 1, .ref l, rfl, rfl, .inl (.inl etx), atI_nat (j := 1) rfl, .inl ⟨rfl, _, .inl (.inl elx)⟩, l, _, _, rfl, rfl, elx, sz8 (by omega), ?_⟩
        have sH : SameX (l :: L') H Hx := ((SameX.of s1).trans sx).mono fun a h => List.mem_cons_of_mem _ h
        exact q _ (sH.trans ((SameX.mut elx).mono fun a ha => by rw [List.mem_singleton.mp ha]; exact List.mem_cons_self))
theorem rfs_all {f : Addr} {fd : FuncData} {ps : List Str} (F : ∀ n, n ≤ 8 → FnOk P w K mg base CX0 10 f fd ps (spRefs n)) : FnOk P w K mg base CX0 10 f fd ps spRefsA :=
  ⟨fun vs H Q E ⟨n, hn, h⟩ => (F n hn).len vs H Q E h, fun A outer s H args us vs Q E hr e0 hb r ⟨n, hn, h⟩ => (F n hn).run A outer s H args us vs Q E hr e0 hb r h⟩
theorem refs_all {f : Addr} {fd : FuncData} (F : Fun K "_law_refutes" "_law_refutes" s_refutes f fd) (T : TxS mg) (C_hits : Cal P w K mg base "_law_hits" 1 spHits) (b : Binds K fd ["_law_told", "_law_groups", "_law_size", "_law_chosen"] []) (g : mg "_law_refutes" = some (.ref f)) (kp : PySem.W.keepIn K (.ref f) = true) :
    ∀ n, FnOk P w K mg base CX0 (n + 2) f fd ["_law_told", "_law_groups", "_law_size", "_law_chosen"] (spRefs n)
  | 0 => ok_refutes (n := 0) (sp' := fun _ _ _ _ => False) F T C_hits ⟨f, fd, _, F.ok (k := 0) (sp := fun _ _ _ _ => False) sc_refutes (fun vs H Q E h => h.elim) (fun cdv A outer s H vs Q E hr h => h.elim), b, g, kp⟩ (fun m h => by omega)
  | n + 1 => ok_refutes (n := n + 1) (sp' := spRefs n) F T C_hits ⟨f, fd, _, refs_all F T C_hits b g kp n, b, g, kp⟩ (fun m h => by rw [show n = m by omega])
end
end Kx

namespace Kx
open PySem PySem.Spec PyProof.Rows L2 NdefX Kr Ke Kn Kg StX Kz SkE
def FrR (H : Hp) (x : V) (_ : List Str) : Prop := ∃ t : Addr, x = V.ref t ∧ H t = none
theorem grs_fresh {L : List Addr} {H0 H : Hp} {D : Addr} (hL : ∀ x ∈ L, ∃ ys, H0 x = some (HO.lst ys)) (nD : H0 D = none) : ∀ {xs : List V} {gs : List (List Str)}, Paired (TxD D H) xs gs → Paired (FrR H0) xs gs → Paired (fun x zs => ∃ t : Addr, x = V.ref t ∧ t ∉ L ∧ H t = some (.lst (zs.map V.str))) xs gs
  | _, _, .nil, _ => .nil
  | _, _, .cons h r, .cons h' r' => by
    obtain ⟨t, rfl, _, et⟩ := h
    obtain ⟨t', e, nt⟩ := h'
    cases e
    exact .cons ⟨t, rfl, (fun m => by obtain ⟨ys, ey⟩ := hL t m; rw [nt] at ey; cases ey), et⟩ (grs_fresh hL nD r r')
theorem same_of_x {L : List Addr} {H0 H H' : Hp} (s : Same H0 H) (x : SameX L H H') (f : ∀ a ∈ L, H0 a = none) : Same H0 H' := fun a o e => x a o (s a o e) fun m => by rw [f a m] at e; cases e
def spWideR : Sp := fun vs H Q _ => ∃ (n : Addr) (ns : List Str) (at_ : Int), vs = [.ref n, .int at_] ∧ H n = some (.lst (ns.map V.str)) ∧ ns.length = 8 ∧ ns.Nodup ∧ (∀ z ∈ ns, Sht z 20) ∧ 0 ≤ at_ ∧ at_ < 48 ∧ ∀ H', Same H H' → Q (.bl true) H'
abbrev s_wide_right : Stmt := topS 13
abbrev N_wide_right : List Str := ["_law_names", "_law_at", "_law_singles", "_law_wide", "_law_name", "_law_k", "_law_group"]
theorem sc_wide_right : FnScope N_wide_right ["_law_names", "_law_at"] (defScope s_wide_right) := ⟨rfl, rfl, rfl, by decide +kernel, rfl, by decide +kernel, by decide +kernel⟩
section
variable {P : Program} {w : World} {K : PySem.W.Frag} {mg : Str → Option Value} {base : Heap}
theorem ok_wide_right {f : Addr} {fd : FuncData} (F : Fun K "_law_wide_right" "_law_wide_right" s_wide_right f fd) (T : TxS mg) (C_refutation : Cal P w K mg base "refutation" 11 spRefutation) (C_refutes : Cal P w K mg base "_law_refutes" 10 spRefsA) : FnOk P w K mg base CX0 12 f fd ["_law_names", "_law_at"] spWideR := by
  refine F.ok sc_wide_right (fun vs H Q E h => ?_) (fun cdv A outer s H vs Q E hr h => ?_)
  · obtain ⟨n, ns, at_, rfl, _⟩ := h
    rfl
  · obtain ⟨n, ns, at_, rfl, en, hl8, hnd, hsh, a0, a1, q⟩ := h
    refine ⟨_, (pss_cons (ps_setLc (i := 2) rfl sc_wide_right.nd rfl rfl (sw_true rfl rfl rfl (by decide +kernel)) (pi_list (pv 0)) (blkOk_by (own := [("_law_name", 4)]) (N := N_wide_right) (sc := defScope s_wide_right) (by decide +kernel)) (fun _ _ _ _ _ => pg_name (i := 4) sc_wide_right.nd rfl (Or.inl rfl)) (fun _ _ _ _ _ => pts_nil) (fun _ _ _ _ _ => (pe_lst (pa_cons (pv 4) pa_nil))))
      (pss_cons (ps_if (pt_cmpR op_notN (pe_cal C_refutation (hr.mono (by decide)) (by rfl) (pa_cons (pv 2) (pa_cons pe_int pa_nil))) pe_non (nomark _))
        (pss_one (ps_ret pe_bl))
        pss_nil)
      (pss_cons (ps_if (pt_not (pt_val (pe_cal C_refutes (hr.mono (by decide)) (by rfl) (pa_cons (pe_cal C_refutation (hr.mono (by decide)) (by rfl) (pa_cons (pv 2) (pa_cons pe_int pa_nil))) (pa_cons (pe_lc (own := [("_law_name", 4)]) (g := gName 4) (tt := tYes) rfl sc_wide_right.nd (pi_list (pv 0)) (blkOk_by (own := [("_law_name", 4)]) (N := N_wide_right) (sc := defScope s_wide_right) (by decide +kernel)) (fun _ _ _ _ _ => pg_name (i := 4) sc_wide_right.nd rfl (Or.inl rfl)) (fun _ _ _ _ _ => pts_nil) (fun _ _ _ _ _ => (pe_lst (pa_cons (pv 4) pa_nil)))) (pa_cons pe_int (pa_cons (pe_lst pa_nil) pa_nil)))))))
        (pss_one (ps_ret pe_bl))
        pss_nil)
      (pss_cons (ps_setLc (i := 3) rfl sc_wide_right.nd rfl rfl (sw_true rfl rfl rfl (by decide +kernel)) (pi_range1 (by rfl) T.m_range (pa_cons pe_int pa_nil)) (blkOk_by (own := [("_law_k", 5)]) (N := N_wide_right) (sc := defScope s_wide_right) (by decide +kernel)) (fun _ _ _ _ _ => pg_name (i := 5) sc_wide_right.nd rfl (Or.inl rfl)) (fun _ _ _ _ _ => pts_nil) (fun _ _ _ _ _ => (show PE _ _ (tRevL K _) from pe_revL (show PE _ _ (tSl (rSlL K) _ _ _) from pe_slice sl_list (pv 0) po_none (po_some pe_int)))))
      (pss_cons (ps_asg (pe_slice sl_list (pv 0) (po_some pe_int) po_none) (pg_sub (pv 3) (pv 1) set_list))
      (pss_cons (ps_if (pt_cmpR op_notN (pe_cal C_refutation (hr.mono (by decide)) (by rfl) (pa_cons (pe_lc (own := [("_law_group", 6)]) (g := gName 6) (tt := tYes) rfl sc_wide_right.nd (pi_list (pv 3)) (blkOk_by (own := [("_law_group", 6)]) (N := N_wide_right) (sc := defScope s_wide_right) (by decide +kernel)) (fun _ _ _ _ _ => pg_name (i := 6) sc_wide_right.nd rfl (Or.inl rfl)) (fun _ _ _ _ _ => pts_nil) (fun _ _ _ _ _ => (pe_callTy (show CallR _ (.type "list") (fun xs H Q => ∃ p ys, xs = [V.ref p] ∧ (SqL K H p ys ∨ SqT K H p ys) ∧ ∀ l : Addr, H l = none → Q (V.ref l) (upd H l (HO.lst ys))) from call_list_of) (by rfl) T.m_list (by decide +kernel) (pa_cons (pv 6) pa_nil)))) (pa_cons pe_int pa_nil))) pe_non (nomark _))
        (pss_one (ps_ret pe_bl))
        pss_nil)
      (pss_one (ps_ret (pe_cal C_refutes (hr.mono (by decide)) (by rfl) (pa_cons (pe_cal C_refutation (hr.mono (by decide)) (by rfl) (pa_cons (pe_lc (own := [("_law_group", 6)]) (g := gName 6) (tt := tYes) rfl sc_wide_right.nd (pi_list (pv 3)) (blkOk_by (own := [("_law_group", 6)]) (N := N_wide_right) (sc := defScope s_wide_right) (by decide +kernel)) (fun _ _ _ _ _ => pg_name (i := 6) sc_wide_right.nd rfl (Or.inl rfl)) (fun _ _ _ _ _ => pts_nil) (fun _ _ _ _ _ => (pe_callTy (show CallR _ (.type "list") (fun xs H Q => ∃ p ys, xs = [V.ref p] ∧ (SqL K H p ys ∨ SqT K H p ys) ∧ ∀ l : Addr, H l = none → Q (V.ref l) (upd H l (HO.lst ys))) from call_list_of) (by rfl) T.m_list (by decide +kernel) (pa_cons (pv 6) pa_nil)))) (pa_cons pe_int pa_nil))) (pa_cons (pv 3) (pa_cons pe_int (pa_cons (pe_lst pa_nil) pa_nil))))))))))))), ?_⟩
    refine ⟨_, rfl, n, rfl, ⟨_, .inl (.inl en)⟩, fun D nD => ?_⟩
    refine lc_list (xs := ns.map V.str) (fun i H3 => ∃ xs, Same H H3 ∧ H3 D = some (.lst xs) ∧ Paired (TxD D H3) xs ((ns.take i).map fun z => [z]) ∧ xs.length = i)
      ⟨[], same_upd nD, upd_same, .nil, rfl⟩ (fun i H3 _ ⟨_, s3, _⟩ => .inl (.inl (s3 _ _ en))) ?_ ?_
    · rintro i y H3 hy ⟨xs, s3, eD, hp, hxl⟩
      obtain ⟨z, hz, rfl⟩ := str_get hy
      have hi : i < ns.length := (List.getElem?_eq_some_iff.mp hz).1
      refine ⟨rfl, _, rfl, by show 1 ≤ sizeLine; decide, fun t nt => ?_⟩
      obtain ⟨p1, p2, p3⟩ := grs_push (g := [z]) s3 nD eD hp nt
      refine ⟨xs, p1, sz8 (by omega), xs ++ [.ref t], p2, upd_same, ?_, by rw [List.length_append, hxl]; rfl⟩
      rw [take_one hz, List.map_append]
      exact p3
    rintro H1 ⟨xs, s1, eD, hp, hxl⟩
    rw [List.length_map] at hp hxl
    rw [List.take_length] at hp
    have hG : Grs H1 D (ns.map fun z => [z]) := ⟨xs, eD, txd_grs hp⟩
    have hN1 : Hits ns (ns.map fun z => [z]) := fun g hg => by
      obtain ⟨z, hz, rfl⟩ := List.mem_map.mp hg
      exact ⟨z, List.mem_cons_self, hz⟩
    have hok1 : GOk (ns.map fun z => [z]) := ⟨by rw [List.length_map]; omega, fun g hg => by obtain ⟨z, _, rfl⟩ := List.mem_map.mp hg; show 1 ≤ 20; decide⟩
    have hno7 : NoC (ns.map fun z => [z]) [] 7 := fun ms hml hh => by
      have := nd_le hnd (m := ms) fun z hz => by
        obtain ⟨y, hy, hc⟩ := hh [z] (List.mem_map.mpr ⟨z, hz, rfl⟩)
        rw [List.mem_singleton.mp hy] at hc
        exact hc
      omega
    refine ⟨_, rfl, D, _, 8, rfl, hG, hok1, by decide, fun v L H' s' h1 h2 h3 h4 => absurd (show Hits ([] ++ ns) _ from hN1) (h4 ns (by omega)), fun H2 s2 _ => ?_⟩
    refine ⟨rfl, _, rfl, iteB (fun h => (by simp at h)) (fun _ => ?_)⟩
    refine ⟨_, rfl, D, _, 7, rfl, hG.same s2, hok1, by decide, fun v L H3 s3 hrt hndL hfr _ => ?_, fun H' s' hc => absurd hno7 hc⟩
    have s23 := (s1.trans s2).trans s3
    have en3 := s23 _ _ en
    refine ⟨_, rfl, n, rfl, ⟨_, .inl (.inl en3)⟩, fun D2 nD2 => ?_⟩
    refine lc_list (xs := ns.map V.str) (fun i Hq => ∃ xs, Same H3 Hq ∧ Hq D2 = some (.lst xs) ∧ Paired (TxD D2 Hq) xs ((ns.take i).map fun z => [z]) ∧ Paired (FrR H3) xs ((ns.take i).map fun z => [z]) ∧ xs.length = i)
      ⟨[], same_upd nD2, upd_same, .nil, .nil, rfl⟩ (fun i Hq _ ⟨_, sq, _⟩ => .inl (.inl (sq _ _ en3))) ?_ ?_
    · rintro i y Hq hy ⟨xs, sq, eD, hp, hf, hxl⟩
      obtain ⟨z, hz, rfl⟩ := str_get hy
      have hi : i < ns.length := (List.getElem?_eq_some_iff.mp hz).1
      refine ⟨rfl, _, rfl, by show 1 ≤ sizeLine; decide, fun t nt => ?_⟩
      obtain ⟨p1, p2, p3⟩ := grs_push (g := [z]) sq nD2 eD hp nt
      refine ⟨xs, p1, sz8 (by omega), xs ++ [.ref t], p2, upd_same, ?_, ?_, by rw [List.length_append, hxl]; rfl⟩
      · rw [take_one hz, List.map_append]
        exact p3
      · rw [take_one hz, List.map_append]
        exact .snoc hf ⟨t, rfl, sq.free nt⟩
    rintro Hq ⟨xs2, sq, eD2, hp2, hf2, _⟩
    rw [List.length_map, List.take_length] at hp2 hf2
    refine ⟨by show 0 ≤ sizeLine; decide, fun c nc => ?_⟩
    have sc := same_upd (o := .lst []) nc
    have hocc := RT.occ _ _ _ _ hrt
    have offL : ∀ {x : Addr}, H3 x = none → x ∉ L := fun e m => by obtain ⟨ys, ey⟩ := hocc _ m; rw [e] at ey; cases ey
    refine ⟨7, by decide, v, D2, c, _, [], L, rfl, RT.keep (M := []) (SameX.of (sq.trans sc)) _ _ _ _ hrt (fun x _ e => by cases e), hndL, GrsX.keep (show GrsX L Hq D2 _ from ⟨xs2, offL nD2, eD2, grs_fresh hocc nD2 hp2 hf2⟩) (SameX.of sc), hok1, upd_same, offL (sq.free nc), by decide, fun H4 x4 => ⟨_, rfl, iteF ?_⟩⟩
    have s4 : Same H H4 := same_of_x ((s1.trans s2).trans (s3.trans (sq.trans sc))) x4 fun x hx => (s1.trans s2).free (hfr x hx)
    have en4 := s4 _ _ en
    clear x4 hocc offL hf2 hp2 eD2 nc sc sq hrt hfr hG hp eD
    refine ⟨48, rfl, by decide, by decide, fun W nW => ?_⟩
    refine lc_range (lo := 0) (n := Int.toNat 48) (fun i H5 => ∃ xs, Same H4 H5 ∧ H5 W = some (.lst xs) ∧ Paired (TxD W H5) xs (List.replicate i (ns.take 7).reverse) ∧ xs.length = i)
      ⟨[], same_upd nW, upd_same, .nil, rfl⟩ ?_ ?_
    · rintro i H5 hi ⟨xs, s5, eW, hpW, hxl⟩
      have hi48 : i < 48 := hi
      refine ⟨rfl, _, rfl, 7, rfl, n, _, rfl, .inl (.inl (s5 _ _ en4)), fun c nc => ?_⟩
      rw [cut_take7 hl8]
      have sc := same_upd (o := .lst ((ns.take 7).map V.str)) nc
      refine ⟨c, _, rfl, .inl (.inl upd_same), fun t nt => ?_⟩
      rw [← List.map_reverse]
      obtain ⟨p1, p2, p3⟩ := grs_push (g := (ns.take 7).reverse) (s5.trans sc) nW (sc _ _ eW) (txd_same sc hpW) nt
      refine ⟨xs, p1, sz8 (by omega), xs ++ [.ref t], p2, upd_same, ?_, by rw [List.length_append, hxl]; rfl⟩
      rw [List.replicate_succ']
      exact p3
    rintro H5 ⟨wxs, s5, eW, hpW, hwl⟩
    have hpW' : Paired (TxD W H5) wxs (List.replicate 48 (ns.take 7).reverse) := hpW
    have hwl' : wxs.length = 48 := hwl
    -- one group is another
    have en5 := s5 _ _ en4
    refine ⟨_, rfl, 7, rfl, n, _, rfl, .inl (.inl en5), fun c nc => ?_⟩
    rw [cut_drop7 hl8]
    have sc := same_upd (o := .lst ((ns.drop 7).map V.str)) nc
    obtain ⟨j, hj⟩ : ∃ j : Nat, at_ = (j : Int) := ⟨at_.toNat, by omega⟩
    subst hj
    have hcW : c ≠ W := fun e => by rw [e, eW] at nc; cases nc
    have nW4 : H4 W = none := nW
    refine ⟨_, rfl, _, rfl, W, _, _, j, rfl, rfl, sc _ _ eW, ?_, ?_⟩
    · unfold ixN
      rw [if_pos (by omega), if_pos (by omega)]
      simp
    have s6 : Same H4 (upd (upd H5 c (.lst ((ns.drop 7).map V.str))) W (.lst (wxs.set j (.ref c)))) := same_mut (s5.trans sc) nW4
    have eW6 : (upd (upd H5 c (.lst ((ns.drop 7).map V.str))) W (.lst (wxs.set j (.ref c)))) W = some (.lst (wxs.set j (.ref c))) := upd_same
    have hp6 : Paired (TxD W (upd (upd H5 c (.lst ((ns.drop 7).map V.str))) W (.lst (wxs.set j (.ref c))))) (wxs.set j (.ref c)) ((List.replicate 48 (ns.take 7).reverse).set j (ns.drop 7)) :=
      pd_set j (txd_mut (txd_same sc hpW')) ⟨c, rfl, hcW, (upd_ne hcW).trans upd_same⟩
    generalize upd (upd H5 c (.lst ((ns.drop 7).map V.str))) W (.lst (wxs.set j (.ref c))) = H6 at s6 eW6 hp6 ⊢
    obtain ⟨n0, n7, hn0, hn7, hd7, h0in, hne07⟩ : ∃ n0 n7 : Str, n0 ∈ ns ∧ n7 ∈ ns ∧ ns.drop 7 = [n7] ∧ n0 ∈ ns.take 7 ∧ ∀ z ∈ ns.take 7, z ≠ n7 := by
      match ns, hl8, hnd with
      | [b0, b1, b2, b3, b4, b5, b6, b7], _, hnd =>
        refine ⟨b0, b7, by simp, by simp, rfl, by simp, fun z hz e => ?_⟩
        have h := List.nodup_append.mp (show ([b0, b1, b2, b3, b4, b5, b6] ++ [b7]).Nodup from hnd)
        exact h.2.2 z hz b7 List.mem_cons_self e
    have hgm : ∀ g ∈ (List.replicate 48 (ns.take 7).reverse).set j (ns.drop 7), g = (ns.take 7).reverse ∨ g = ns.drop 7 := fun g hg => by
      rcases List.mem_or_eq_of_mem_set hg with h | h
      · exact .inl (List.mem_replicate.mp h).2
      · exact .inr h
    have hg7 : ns.drop 7 ∈ (List.replicate 48 (ns.take 7).reverse).set j (ns.drop 7) := by
      refine List.mem_iff_getElem?.mpr ⟨j, ?_⟩
      rw [List.getElem?_set_self (by rw [List.length_replicate]; omega)]
    have hgr : (ns.take 7).reverse ∈ (List.replicate 48 (ns.take 7).reverse).set j (ns.drop 7) := by
      by_cases h0 : j = 0
      · refine List.mem_iff_getElem?.mpr ⟨1, ?_⟩
        rw [List.getElem?_set_ne (by omega), List.getElem?_replicate, if_pos (by decide)]
      · refine List.mem_iff_getElem?.mpr ⟨0, ?_⟩
        rw [List.getElem?_set_ne (by omega), List.getElem?_replicate, if_pos (by decide)]
    have hgw : ((List.replicate 48 (ns.take 7).reverse).set j (ns.drop 7)).length = 48 := by rw [List.length_set, List.length_replicate]
    have hgl : ∀ g ∈ (List.replicate 48 (ns.take 7).reverse).set j (ns.drop 7), g.length ≤ 20 := fun g hg => by
      rcases hgm g hg with rfl | rfl
      · rw [List.length_reverse, List.length_take]; omega
      · rw [List.length_drop]; omega
    have hN2 : Hits [n0, n7] ((List.replicate 48 (ns.take 7).reverse).set j (ns.drop 7)) := fun g hg => by
      rcases hgm g hg with rfl | rfl
      · exact ⟨n0, List.mem_reverse.mpr h0in, List.mem_cons_self⟩
      · exact ⟨n7, by rw [hd7]; exact List.mem_cons_self, List.mem_cons_of_mem _ List.mem_cons_self⟩
    generalize hGW : (List.replicate 48 (ns.take 7).reverse).set j (ns.drop 7) = gw at hp6 hgm hg7 hgr hgw hgl hN2
    generalize wxs.set j (.ref c) = wx at eW6 hp6
    have hwxl : wx.length = 48 := (pd_len hp6).trans hgw
    have hokW : GOk gw := ⟨by omega, hgl⟩
    have hno1 : NoC gw [] 1 := fun ms hml hh => by
      obtain ⟨y7, hy7, hy7c⟩ := hh _ hg7
      rw [hd7] at hy7
      rw [List.mem_singleton.mp hy7] at hy7c
      obtain ⟨yr, hyr, hyrc⟩ := hh _ hgr
      have hyne : yr ≠ n7 := hne07 yr (List.mem_reverse.mp hyr)
      have hge2 := nd_le (l := [yr, n7]) (m := ms) (List.nodup_cons.mpr ⟨fun h => hyne (List.mem_singleton.mp h), by simp⟩) fun z hz => by
        rcases List.mem_cons.mp hz with rfl | hz
        · exact hyrc
        · rw [List.mem_singleton.mp hz]; exact hy7c
      have e2 : ([yr, n7] : List Str).length = 2 := rfl
      omega
    refine ⟨_, rfl, W, rfl, ⟨_, .inl (.inl (eW6))⟩, fun C nC => ?_⟩
    refine lc_list (xs := wx) (fun i H7 => ∃ ys, Same H6 H7 ∧ H7 C = some (.lst ys) ∧ Paired (TxD C H7) ys (gw.take i) ∧ ys.length = i)
      ⟨[], same_upd nC, upd_same, .nil, rfl⟩ (fun i H7 _ ⟨_, s7, _⟩ => .inl (.inl (s7 _ _ (eW6)))) ?_ ?_
    · rintro i y H7 hy ⟨ys, s7, eC, hpC, hyl⟩
      obtain ⟨g, hg, t, rfl, _, et⟩ := pd_get hp6 hy
      have hi : i < wx.length := (List.getElem?_eq_some_iff.mp hy).1
      refine ⟨rfl, _, rfl, t, _, rfl, .inl (.inl (.inl (s7 _ _ et))), fun u nu => ?_⟩
      obtain ⟨p1, p2, p3⟩ := grs_push (g := g) s7 nC eC hpC nu
      refine ⟨ys, p1, sz8 (by omega), ys ++ [.ref u], p2, upd_same, ?_, by rw [List.length_append, hyl]; rfl⟩
      rw [take_one hg]
      exact p3
    rintro H7 ⟨cxs, s7, eC, hpC, hcl⟩
    rw [hwxl] at hpC
    rw [List.take_of_length_le (by omega)] at hpC
    refine ⟨C, gw, 2, rfl, ⟨cxs, eC, txd_grs hpC⟩, hokW, by decide, fun v L H' s' h1 h2 h3 h4 => absurd (show Hits ([] ++ [n0, n7]) _ from hN2) (h4 [n0, n7] (show 2 ≤ 2 from Nat.le_refl _)), fun H8 s8 _ => ?_⟩
    refine ⟨rfl, _, rfl, iteB (fun h => (by simp at h)) (fun _ => ?_)⟩
    have s68 := s7.trans s8
    have eW8 := s68 _ _ eW6
    have hp8 := txd_same s68 hp6
    clear hpC hcl eC
    refine ⟨_, rfl, W, rfl, ⟨_, .inl (.inl (eW8))⟩, fun C2 nC2 => ?_⟩
    refine lc_list (xs := wx) (fun i H7 => ∃ ys, Same H8 H7 ∧ H7 C2 = some (.lst ys) ∧ Paired (TxD C2 H7) ys (gw.take i) ∧ ys.length = i)
      ⟨[], same_upd nC2, upd_same, .nil, rfl⟩ (fun i H7 _ ⟨_, s7, _⟩ => .inl (.inl (s7 _ _ (eW8)))) ?_ ?_
    · rintro i y H7 hy ⟨ys, s7, eC, hpC, hyl⟩
      obtain ⟨g, hg, t, rfl, _, et⟩ := pd_get hp8 hy
      have hi : i < wx.length := (List.getElem?_eq_some_iff.mp hy).1
      refine ⟨rfl, _, rfl, t, _, rfl, .inl (.inl (.inl (s7 _ _ et))), fun u nu => ?_⟩
      obtain ⟨p1, p2, p3⟩ := grs_push (g := g) s7 nC2 eC hpC nu
      refine ⟨ys, p1, sz8 (by omega), ys ++ [.ref u], p2, upd_same, ?_, by rw [List.length_append, hyl]; rfl⟩
      rw [take_one hg]
      exact p3
    rintro H9 ⟨cxs2, s9, eC2, hpC2, hcl2⟩
    rw [hwxl] at hpC2
    rw [List.take_of_length_le (by omega)] at hpC2
    refine ⟨C2, gw, 1, rfl, ⟨cxs2, eC2, txd_grs hpC2⟩, hokW, by decide, fun v2 L2 H10 s10 hrt hndL hfr _ => ?_, fun H' s' hc => absurd hno1 hc⟩
    refine ⟨_, rfl, by show 0 ≤ sizeLine; decide, fun c nc => ?_⟩
    have sc := same_upd (o := .lst []) nc
    have hGW9 : Grs H9 W gw := ⟨wx, s9 _ _ eW8, txd_grs (txd_same s9 hp8)⟩
    have hcL : c ∉ L2 := fun m => by obtain ⟨ys, ey⟩ := RT.occ _ _ _ _ hrt c m; rw [nc] at ey; cases ey
    refine ⟨1, by decide, v2, W, c, gw, [], L2, rfl, RT.keep (M := []) (SameX.of sc) _ _ _ _ hrt (fun x _ e => by cases e), hndL, hGW9.x (s10.trans sc) hfr, hokW, upd_same, hcL, by decide, fun H11 x11 => q _ ?_⟩
    exact same_of_x ((s4.trans s6).trans ((s68.trans s9).trans (s10.trans sc))) x11 fun x hx => ((s4.trans s6).trans (s68.trans s9)).free (hfr x hx)
end
end Kx

namespace Kx
open PySem PySem.Spec PyProof.Rows L2 NdefX Kr Ke Kn Kg StX Kz SkE
abbrev s_law : Stmt := topS 14
abbrev N_law : List Str := ["_law_script", "_law_pool", "_law_many", "_law_style", "_law_groups", "_law_least_here", "_law_size", "_law_k", "_law_handed", "_law_told", "_law_j", "_law_group"]
theorem sc_law : FnScope N_law ["_law_script"] (defScope s_law) := ⟨rfl, rfl, rfl, by decide +kernel, rfl, by decide +kernel, by decide +kernel⟩
def spLaw (K : PySem.W.Frag) : Sp := fun vs H Q _ => ∃ (a : Addr) (ns : List Int), vs = [.ref a] ∧ SqL K H a (ns.map V.int) ∧ ns.length ≤ 63 ∧ ∀ H', Q (.bl true) H'
/-- names that are told apart, those of the groups first -/
theorem least_some {gs : List (List Str)} {m : Nat} {st : Int} (hm : m ≤ 16) (hgs : ∀ g ∈ gs, ∀ z ∈ g, ∃ j : Nat, j < m ∧ z = nameV (j : Int) st) (ns : List Str) (hh : Hits ns gs) :
    ∃ mask : Nat, mask < 2 ^ m ∧ Hits (pickV (mask : Int) m st) gs ∧ (pickV (mask : Int) m st).length ≤ ns.length := by
  have h2 : Hits (ns.filter fun z => decide (∃ g ∈ gs, z ∈ g)) gs := fun g hg => by
    obtain ⟨z, hz, hc⟩ := hh g hg
    exact ⟨z, hz, List.mem_filter.mpr ⟨hc, decide_eq_true ⟨g, hg, hz⟩⟩⟩
  obtain ⟨mask, h3, h4, h5⟩ := least_mask hm h2 (fun z hz => of_decide_eq_true (List.mem_filter.mp hz).2) hgs
  exact ⟨mask, h3, h4, Nat.le_trans h5 (List.length_filter_le _ _)⟩
section
variable {P : Program} {w : World} {K : PySem.W.Frag} {mg : Str → Option Value} {base : Heap}
theorem ok_law {f : Addr} {fd : FuncData} (F : Fun K "law" "law" s_law f fd) (T : TxS mg) (C_draws_of : Cal P w K mg base "_law_draws_of" 1 (spDraws K)) (C_named : Cal P w K mg base "_law_named" 1 spNamed) (C_groups_of : Cal P w K mg base "_law_groups_of" 3 (spGroups K))
    (C_least : Cal P w K mg base "_law_least" 3 spLeast) (C_wide_right : Cal P w K mg base "_law_wide_right" 12 spWideR) (C_refutation : Cal P w K mg base "refutation" 11 spRefutation) (C_refutes : Cal P w K mg base "_law_refutes" 10 spRefsA) : FnOk P w K mg base CX0 13 f fd ["_law_script"] (spLaw K) := by
  refine F.ok sc_law (fun vs H Q E h => ?_) (fun cdv A outer s H vs Q E hr h => ?_)
  · obtain ⟨a, ns, rfl, _⟩ := h
    rfl
  · obtain ⟨a, ns, rfl, hS, hlen, q⟩ := h
    refine ⟨_, (pss_cons (ps_set (i := 1) sc_law.nd rfl (Or.inl rfl) (pe_cal C_draws_of (hr.mono (by decide)) (by rfl) (pa_cons (pv 0) pa_nil)))
      (pss_cons (ps_set (i := 2) sc_law.nd rfl (Or.inl rfl) (pe_op op_add pe_int (pe_op op_mod (pe_callTy call_int1 (by rfl) T.m_int (by decide +kernel) (pa_cons (pe_ix ix_list (pv 1) pe_int (fun _ _ => rfl)) pa_nil)) pe_int)))
      (pss_cons (ps_set (i := 3) sc_law.nd rfl (Or.inr rfl) (pe_op op_fdiv (pe_callTy call_int1 (by rfl) T.m_int (by decide +kernel) (pa_cons (pe_ix ix_list (pv 1) pe_int (fun _ _ => rfl)) pa_nil)) pe_int))
      (pss_cons (ps_if (pt_not (pt_val (pe_cal C_wide_right (hr.mono (by decide)) (by rfl) (pa_cons (pe_lc (own := [("_law_j", 10)]) (g := gName 10) (tt := tYes) rfl sc_law.nd (pi_range1 (by rfl) T.m_range (pa_cons pe_int pa_nil)) (blkOk_by (own := [("_law_j", 10)]) (N := N_law) (sc := defScope s_law) (by decide +kernel)) (fun _ _ _ _ _ => pg_name (i := 10) sc_law.nd rfl (Or.inl rfl)) (fun _ _ _ _ _ => pts_nil) (fun _ _ _ _ _ => (pe_cal C_named (hr.mono (by decide)) (by rfl) (pa_cons (pv 10) (pa_cons (pv 3) pa_nil))))) (pa_cons (pe_op op_mod (pe_callTy call_int1 (by rfl) T.m_int (by decide +kernel) (pa_cons (pe_ix ix_list (pv 1) pe_int (fun _ _ => rfl)) pa_nil)) pe_int) pa_nil)))))
        (pss_one (ps_ret pe_bl))
        pss_nil)
      (pss_cons (ps_set (i := 4) sc_law.nd rfl (Or.inl rfl) (pe_cal C_groups_of (hr.mono (by decide)) (by rfl) (pa_cons (pv 1) (pa_cons (pv 2) (pa_cons (pv 3) (pa_cons pe_int pa_nil))))))
      (pss_cons (ps_set (i := 5) sc_law.nd rfl (Or.inl rfl) (pe_cal C_least (hr.mono (by decide)) (by rfl) (pa_cons (pv 4) (pa_cons (pv 2) (pa_cons (pv 3) pa_nil)))))
      (pss_cons (ps_for PassesOwn.never rfl (pi_range1 (by rfl) T.m_range (pa_cons (pe_op op_add (pv 2) pe_int) pa_nil)) (pg_name (i := 6) sc_law.nd rfl (Or.inl rfl))
        (pss_one (ps_for PassesOwn.never rfl (pi_range1 (by rfl) T.m_range (pa_cons pe_int pa_nil)) (pg_name (i := 7) sc_law.nd rfl (Or.inl rfl))
          (pss_cons (ps_setLc (i := 8) rfl sc_law.nd rfl rfl (sw_true rfl rfl rfl (by decide +kernel)) (pi_list (pv 4)) (blkOk_by (own := [("_law_group", 11)]) (N := N_law) (sc := defScope s_law) (by decide +kernel)) (fun _ _ _ _ _ => pg_name (i := 11) sc_law.nd rfl (Or.inl rfl)) (fun _ _ _ _ _ => pts_nil) (fun _ _ _ _ _ => (pe_callTy (show CallR _ (.type "list") (fun xs H Q => ∃ p ys, xs = [V.ref p] ∧ (SqL K H p ys ∨ SqT K H p ys) ∧ ∀ l : Addr, H l = none → Q (V.ref l) (upd H l (HO.lst ys))) from call_list_of) (by rfl) T.m_list (by decide +kernel) (pa_cons (pv 11) pa_nil))))
          (pss_cons (ps_set (i := 9) sc_law.nd rfl (Or.inl rfl) (pe_cal C_refutation (hr.mono (by decide)) (by rfl) (pa_cons (pv 8) (pa_cons (pv 6) pa_nil))))
          (pss_cons (ps_if (pt_cmpR (op_neD hr.units) (pv 8) (pv 4) (nomark _))
            (pss_one (ps_ret pe_bl))
            pss_nil)
          (pss_cons (ps_if (PW.pt (pw_and (pt_cmpR op_ge (pv 6) (pv 5) (nomark _)) (pw_and1 (pt_cmpR op_notN (pv 9) pe_non (nomark _)))))
            (pss_one (ps_ret pe_bl))
            pss_nil)
          (pss_one (ps_if (PW.pt (pw_and (pt_cmpR op_lt (pv 6) (pv 5) (nomark _)) (pw_and1 (pt_not (pt_val (pe_cal C_refutes (hr.mono (by decide)) (by rfl) (pa_cons (pv 9) (pa_cons (pv 4) (pa_cons (pv 6) (pa_cons (pe_lst pa_nil) pa_nil))))))))))
            (pss_one (ps_ret pe_bl))
            pss_nil)))))))))
      (pss_one (ps_ret pe_bl))))))))), ?_⟩
    refine ⟨_, rfl, a, ns, rfl, hS, hlen, fun H1 p ms sm np ep hP => ?_⟩
    have hlo := hP.lo
    have r0 := (getD_rg hP.rg (i := 0) (by omega)).2
    have r1 := (getD_rg hP.rg (i := 1) (by omega)).2
    have r2 := (getD_rg hP.rg (i := 2) (by omega)).2
    obtain ⟨r0a, r0b⟩ := r0
    obtain ⟨r1a, r1b⟩ := r1
    obtain ⟨r2a, r2b⟩ := r2
    have a0 : atI (ms.map V.int) 0 = some (.int (ms.getD 0 0)) := at_pool (by decide) (by omega)
    have a1 : atI (ms.map V.int) 1 = some (.int (ms.getD 1 0)) := at_pool (by decide) (by omega)
    have a2 : atI (ms.map V.int) 2 = some (.int (ms.getD 2 0)) := at_pool (by decide) (by omega)
    generalize ms.getD 0 0 = d0 at *
    generalize ms.getD 1 0 = d1 at *
    generalize ms.getD 2 0 = d2 at *
    refine ⟨_, rfl, p, _, 0, _, rfl, rfl, .inl (.inl ep), a0, .inl ⟨_, rfl, _, _, rfl, rfl, (by show (0 : Int) < 6; decide), _, _, rfl, rfl, ?_⟩⟩
    refine ⟨_, rfl, p, _, 0, _, rfl, rfl, .inl (.inl ep), a0, .inl ⟨_, rfl, _, _, rfl, rfl, ⟨by decide, by decide⟩, ?_⟩⟩
    obtain ⟨m, hm⟩ : ∃ m : Nat, 1 + d0 % 6 = (m : Int) := ⟨(1 + d0 % 6).toNat, by omega⟩
    have hm1 : 1 ≤ m ∧ m ≤ 6 := by omega
    have hst : 0 ≤ d0 / 6 ∧ d0 / 6 < 70000 := by omega
    simp only [hm]
    generalize d0 / 6 = st at hst ⊢
    refine ⟨8, rfl, by decide, by decide, fun D nD => ?_⟩
    refine lc_range (lo := 0) (n := Int.toNat 8) (fun i Hx => Same H1 Hx ∧ Hx D = some (.lst (((List.range i).map fun j : Nat => nameV (j : Int) st).map V.str)))
      ⟨same_upd nD, upd_same⟩ ?_ ?_
    · rintro i Hx hi ⟨sx, eD⟩
      have hi8 : i < 8 := hi
      refine ⟨rfl, _, rfl, _, rfl, 0 + (i : Int), st, rfl, by omega, by omega, hst.1, hst.2, fun H2 s2 => ?_⟩
      refine ⟨_, s2 _ _ eD, sz8 (by rw [List.length_map, List.length_map, List.length_range]; omega), same_mut (sx.trans s2) nD, ?_⟩
      rw [upd_same, List.range_succ, List.map_append, List.map_append, Int.zero_add]
      rfl
    rintro Hx ⟨sx, eD⟩
    have eD8 : Hx D = some (.lst (((List.range 8).map fun j : Nat => nameV (j : Int) st).map V.str)) := eD
    have ep2 := sx _ _ ep
    refine ⟨_, rfl, p, _, 2, _, rfl, rfl, .inl (.inl ep2), a2, .inl ⟨_, rfl, _, _, rfl, rfl, (by show (0 : Int) < 48; decide), ?_⟩⟩
    refine ⟨D, _, d2 % 48, rfl, eD8, by rw [List.length_map, List.length_range], names_nd List.nodup_range fun j hj => ?_, fun z hz => ?_, by omega, by omega, fun H4 s4 => ⟨_, rfl, iteF ?_⟩⟩
    · have := List.mem_range.mp hj; omega
    · obtain ⟨j, hj, rfl⟩ := List.mem_map.mp hz
      have := List.mem_range.mp hj
      exact (name_facts (by omega) (by omega)).1
    have ep4 := s4 _ _ ep2
    refine ⟨_, rfl, _, rfl, _, rfl, p, ms, m, 8, st, rfl, .inl (.inl ep4), hP, by omega, by decide, hst.1, hst.2, fun ag gs H5 s5 nag hG hgl hgs => ?_⟩
    refine ⟨_, rfl, _, rfl, _, rfl, ag, gs, m, st, rfl, hG, by omega, hst.1, hst.2, fun l H6 s6 hlm hl1 hl2 => ?_⟩
    have hG6 := hG.same s6
    have hall := all_hit hgs
    have hgk : GOk gs := ⟨by omega, fun g hg => by have := (hgs g hg).2.1; omega⟩
    have hgsh : ∀ g ∈ gs, ∀ z ∈ g, Sht z 20 := fun g hg z hz => by
      obtain ⟨j, hj, rfl⟩ := (hgs g hg).2.2 z hz
      exact (name_facts (by omega) (by omega)).1
    have hlen8 : ((List.range m).map fun j : Nat => nameV (j : Int) st).length = m := by rw [List.length_map, List.length_range]
    obtain ⟨gx, eg, hgp⟩ := id hG6
    have hgxl : gx.length = gs.length := pd_len hgp
    let mk : Option V → Option V → Option V → Option V → L2.St := fun x6 x7 x8 x9 => [some (.ref a), some (.ref p), some (.int (m : Int)), some (.int st), some (.ref ag), some (.int (l : Int)), x6, x7, x8, x9, none, none]
    have hN : ∀ n : Nat, (∃ ns : List Str, ns.length ≤ n ∧ Hits ns gs) ↔ l ≤ n := fun n => by
      constructor
      · rintro ⟨ns, h1, h2⟩
        obtain ⟨mask, h3, h4, h5⟩ := least_some (by omega) (fun g hg => (hgs g hg).2.2) ns h2
        have := hl2 mask h3 h4
        omega
      · intro h
        rcases hl1 with h1 | ⟨mask, h1, h2⟩
        · exact ⟨_, by rw [hlen8]; omega, hall⟩
        · exact ⟨_, by omega, h1⟩
    have hNo : ∀ n : Nat, NoC gs [] n ↔ n < l := fun n => by
      constructor
      · intro h
        refine Nat.lt_of_not_le fun hle => ?_
        obtain ⟨ns, h1, h2⟩ := (hN n).mpr hle
        exact h ns h1 h2
      · intro h ns h1 h2
        have := (hN n).mp ⟨ns, h1, h2⟩
        omega
    refine ⟨_, rfl, _, _, rfl, rfl, (m : Int) + 2, rfl, by omega, by omega, ?_⟩
    refine for_range (lo := 0) (n := Int.toNat ((m : Int) + 2)) (fun i σ Hx => ∃ x6 x7 x8 x9 : Option V, σ = mk x6 x7 x8 x9 ∧ Same H6 Hx) ⟨none, none, none, none, rfl, Same.refl _⟩ ?_ ?_
    · rintro i σ Hx hi ⟨x6, x7, x8, x9, rfl, sx⟩
      have hi' : i < m + 2 := by have := hi; omega
      refine ⟨2, rfl, by decide, by decide, ?_⟩
      refine for_range (lo := 0) (n := 2) (fun j σ Hx => ∃ x7 x8 x9 : Option V, σ = mk (some (.int (0 + (i : Int)))) x7 x8 x9 ∧ Same H6 Hx) ⟨x7, x8, x9, rfl, sx⟩ ?_ ?_
      · rintro j σ Hx hj ⟨x7, x8, x9, rfl, sx⟩
        have egx := sx _ _ eg
        have hgpx : Paired (TxAt Hx) gx gs := pd_mono (fun _ _ z => z.same sx) hgp
        refine ⟨_, rfl, ag, rfl, ⟨_, .inl (.inl egx)⟩, fun C nC => ?_⟩
        refine lc_list (xs := gx) (fun i H7 => ∃ ys, Same Hx H7 ∧ H7 C = some (.lst ys) ∧ Paired (TxD C H7) ys (gs.take i) ∧ ys.length = i)
          ⟨[], same_upd nC, upd_same, .nil, rfl⟩ (fun i H7 _ ⟨_, s7, _⟩ => .inl (.inl (s7 _ _ egx))) ?_ ?_
        · rintro i y H7 hy ⟨ys, s7, eC, hpC, hyl⟩
          obtain ⟨g, hg, t, rfl, et⟩ := pd_get hgpx hy
          have hi : i < gx.length := (List.getElem?_eq_some_iff.mp hy).1
          refine ⟨rfl, _, rfl, t, _, rfl, .inl (.inl (.inl (s7 _ _ et))), fun u nu => ?_⟩
          obtain ⟨p1, p2, p3⟩ := grs_push (g := g) s7 nC eC hpC nu
          refine ⟨ys, p1, sz8 (by omega), ys ++ [.ref u], p2, upd_same, ?_, by rw [List.length_append, hyl]; rfl⟩
          rw [take_one hg]
          exact p3
        rintro H7 ⟨cxs, s7, eC, hpC, hcl⟩
        rw [hgxl] at hpC
        rw [List.take_length] at hpC
        refine ⟨_, rfl, _, rfl, C, gs, i, ?_, ⟨cxs, eC, txd_grs hpC⟩, hgk, by omega, fun v L H8 s8 hrt hndL hfr hno => ?_, fun H8 s8 hyes => ?_⟩
        · show [V.ref C, V.int (0 + (i : Int))] = _
          rw [Int.zero_add]
        · -- no cover with so few names: a tree
          have hlt := (hNo i).mp hno
          obtain ⟨tv, rfl⟩ := hrt.ref
          have s78 := s7.trans s8
          have eC8 := s8 _ _ eC
          have hpC8 : Paired (TxAt H8) cxs gs := pd_mono (fun _ _ z => z.same s8) (txd_grs hpC)
          have eg8 := s78 _ _ egx
          have hgp8 : Paired (TxAt H8) gx gs := pd_mono (fun _ _ z => z.same s78) hgpx
          refine ⟨_, rfl, _, rfl, .list (tDD gs), .list (tDD gs), .lst (.inl (.inl eC8)) (dp_grs hpC8), .lst (.inl (.inl eg8)) (dp_grs hgp8), shp_tdd hgsh, shp_tdd hgsh, _, rfl, ?_⟩
          rw [eqv_tdd]
          refine iteF ?_
          refine ⟨_, rfl, _, rfl, _, _, rfl, rfl, _, rfl, iteB (fun h => absurd (of_decide_eq_true h) (by omega)) (fun _ => ?_)⟩
          refine ⟨_, rfl, _, rfl, _, _, rfl, rfl, _, rfl, iteB (fun _ => ?_) (fun h => absurd (show (0 : Int) + (i : Int) < (l : Int) by omega) (of_decide_eq_false h))⟩
          refine ⟨_, rfl, _, rfl, _, rfl, by show 0 ≤ sizeLine; decide, fun c nc => ?_⟩
          have sc := same_upd (o := .lst []) nc
          have hcL : c ∉ L := fun m => by obtain ⟨ys, ey⟩ := RT.occ _ _ _ _ hrt c m; rw [nc] at ey; cases ey
          have hGx7 : Grs H7 ag gs := ⟨gx, s7 _ _ egx, pd_mono (fun _ _ z => z.same s7) hgpx⟩
          refine ⟨i, by omega, .ref tv, ag, c, gs, [], L, ?_, RT.keep (M := []) (SameX.of sc) _ _ _ _ hrt (fun x _ e => by cases e), hndL, hGx7.x (s8.trans sc) hfr, hgk, upd_same, hcL, by show 0 + i ≤ 100; omega, fun H9 x9 => ⟨_, rfl, iteF ?_⟩⟩
          · show [V.ref tv, V.ref ag, V.int (0 + (i : Int)), V.ref c] = _
            rw [Int.zero_add]
          exact ⟨_, _, _, rfl, same_of_x ((sx.trans s7).trans (s8.trans sc)) x9 fun x hx => (sx.trans s7).free (hfr x hx)⟩
        · -- a cover: None
          have hge : l ≤ i := Nat.le_of_not_lt fun h => hyes ((hNo i).mpr h)
          have s78 := s7.trans s8
          have eC8 := s8 _ _ eC
          have hpC8 : Paired (TxAt H8) cxs gs := pd_mono (fun _ _ z => z.same s8) (txd_grs hpC)
          have eg8 := s78 _ _ egx
          have hgp8 : Paired (TxAt H8) gx gs := pd_mono (fun _ _ z => z.same s78) hgpx
          refine ⟨_, rfl, _, rfl, .list (tDD gs), .list (tDD gs), .lst (.inl (.inl eC8)) (dp_grs hpC8), .lst (.inl (.inl eg8)) (dp_grs hgp8), shp_tdd hgsh, shp_tdd hgsh, _, rfl, ?_⟩
          rw [eqv_tdd]
          refine iteF ?_
          refine ⟨_, rfl, _, rfl, _, _, rfl, rfl, _, rfl, iteB (fun _ => ?_) (fun h => absurd (show (l : Int) ≤ (0 : Int) + (i : Int) by omega) (of_decide_eq_false h))⟩
          refine ⟨_, rfl, rfl, _, rfl, iteB (fun h => (by simp at h)) (fun _ => ?_)⟩
          refine ⟨_, rfl, _, rfl, _, _, rfl, rfl, _, rfl, iteB (fun h => absurd (of_decide_eq_true h) (by omega)) (fun _ => ?_)⟩
          exact ⟨_, _, _, rfl, sx.trans s78⟩
      · rintro σ Hz ⟨x7, x8, x9, rfl, sz⟩
        exact ⟨_, _, _, _, rfl, sz⟩
    · rintro σ Hz ⟨x6, x7, x8, x9, rfl, sz⟩
      exact q _
end
end Kx

namespace Kx
open PySem PySem.Spec PyProof.Rows L2 NdefX Kr Ke Kn Kg StX Kz SkE
theorem all_mk {l : PySem.W.OpenLaw} {w : World} {K : PySem.W.Frag} {h : Heap} {mg : Str → Option Value} {fa f0 f1 f2 f3 f4 f5 f6 f7 f8 f9 f10 f11 f12 : Addr} {fd0 fd1 fd2 fd3 fd4 fd5 fd6 fd7 fd8 fd9 fd10 fd11 fd12 : FuncData} (X : K.In h) (G : h.Ns mainGlobals mg) (hfa : mg "law" = some (.ref fa))
    (d0 : At K "law" s_law f0 fd0)
    (d1 : At K "_law_draws_of" s_draws_of f1 fd1)
    (d2 : At K "_law_nth" s_nth f2 fd2)
    (d3 : At K "_law_named" s_named f3 fd3)
    (d4 : At K "_law_picked" s_picked f4 fd4)
    (d5 : At K "_law_groups_of" s_groups_of f5 fd5)
    (d6 : At K "_law_hits" s_hits f6 fd6)
    (d7 : At K "_law_least" s_least f7 fd7)
    (d8 : At K "_law_refutes" s_refutes f8 fd8)
    (d9 : At K "_law_wide_right" s_wide_right f9 fd9)
    (d10 : At K "refutation" s_refutation f10 fd10)
    (d11 : At K "_refutation" s_refut f11 fd11)
    (d12 : At K "_uncovered" s_uncovered f12 fd12)
    (y0 : ∀ (s : Shared) (v : Value), BindsTo s fd0 ⟨[v], []⟩ [("_law_script", v)])
    (y1 : Binds K fd1 ["_law_script"] [])
    (y2 : Binds K fd2 ["_law_pool", "_law_k"] [])
    (y3 : Binds K fd3 ["_law_k", "_law_style"] [])
    (y4 : Binds K fd4 ["_law_mask", "_law_many", "_law_style"] [])
    (y5 : Binds K fd5 ["_law_pool", "_law_many", "_law_style", "_law_most"] [])
    (y6 : Binds K fd6 ["_law_names", "_law_groups"] [])
    (y7 : Binds K fd7 ["_law_groups", "_law_many", "_law_style"] [])
    (y8 : Binds K fd8 ["_law_told", "_law_groups", "_law_size", "_law_chosen"] [])
    (y9 : Binds K fd9 ["_law_names", "_law_at"] [])
    (y10 : Binds K fd10 ["groups", "size"] [])
    (y11 : Binds K fd11 ["groups", "size", "chosen"] [])
    (y12 : Binds K fd12 ["groups", "chosen"] [])
    (z0 : PySem.W.nsIn K mainGlobals "len" = some none)
    (z1 : PySem.W.nsIn K mainGlobals "abs" = some none)
    (z2 : PySem.W.nsIn K mainGlobals "int" = some none)
    (z3 : PySem.W.nsIn K mainGlobals "range" = some none)
    (z4 : PySem.W.nsIn K mainGlobals "isinstance" = some none)
    (z5 : PySem.W.nsIn K mainGlobals "str" = some none)
    (z6 : PySem.W.nsIn K mainGlobals "list" = some none)
    (z7 : PySem.W.nsIn K mainGlobals "tuple" = some none)
    (z8 : PySem.W.nsIn K mainGlobals "any" = some none)
    (z9 : PySem.W.nsIn K mainGlobals "enumerate" = some none)
    (z10 : PySem.W.nsIn K mainGlobals "bool" = some none) :
    ∃ fd : FuncData, (∀ (s : Shared) (v : Value), BindsTo s fd ⟨[v], []⟩ [("_law_script", v)]) ∧ ∀ base : Heap, K.In base → base.Ns mainGlobals mg → FnOk l.prog w K mg base CX0 13 fa fd ["_law_script"] (spLaw K) := by
  have e := hfa.symm.trans (PySem.W.mg_of X G d0.a)
  cases e
  have T : TxS mg := { m_len := PySem.W.mg_none_of X G z0, m_abs := PySem.W.mg_none_of X G z1, m_int := PySem.W.mg_none_of X G z2, m_range := PySem.W.mg_none_of X G z3, m_isinstance := PySem.W.mg_none_of X G z4, m_str := PySem.W.mg_none_of X G z5, m_list := PySem.W.mg_none_of X G z6, m_tuple := PySem.W.mg_none_of X G z7, m_any := PySem.W.mg_none_of X G z8, m_enumerate := PySem.W.mg_none_of X G z9, m_bool := PySem.W.mg_none_of X G z10 }
  refine ⟨fd0, y0, fun base _ _ => ?_⟩
  have C1 : Cal l.prog w K mg base "_law_draws_of" 1 (spDraws K) := ⟨f1, fd1, _, ok_draws_of d1.F T.toTB, y1, PySem.W.mg_of X G d1.a, d1.F.kp⟩
  have C2 : Cal l.prog w K mg base "_law_nth" 1 (spNth K) := ⟨f2, fd2, _, ok_nth d2.F T.toTB, y2, PySem.W.mg_of X G d2.a, d2.F.kp⟩
  have C3 : Cal l.prog w K mg base "_law_named" 1 spNamed := ⟨f3, fd3, _, ok_named d3.F T, y3, PySem.W.mg_of X G d3.a, d3.F.kp⟩
  have C4 : Cal l.prog w K mg base "_law_picked" 2 spPicked := ⟨f4, fd4, _, ok_picked d4.F T C3, y4, PySem.W.mg_of X G d4.a, d4.F.kp⟩
  have C5 : Cal l.prog w K mg base "_law_groups_of" 3 (spGroups K) := ⟨f5, fd5, _, ok_groups_of d5.F T C2 C4, y5, PySem.W.mg_of X G d5.a, d5.F.kp⟩
  have C6 : Cal l.prog w K mg base "_law_hits" 1 spHits := ⟨f6, fd6, _, ok_hits d6.F T, y6, PySem.W.mg_of X G d6.a, d6.F.kp⟩
  have C7 : Cal l.prog w K mg base "_law_least" 3 spLeast := ⟨f7, fd7, _, ok_least d7.F T C4 C6, y7, PySem.W.mg_of X G d7.a, d7.F.kp⟩
  have C12 : Cal l.prog w K mg base "_uncovered" 1 spUnc := ⟨f12, fd12, _, ok_uncovered d12.F T, y12, PySem.W.mg_of X G d12.a, d12.F.kp⟩
  have C11 : Cal l.prog w K mg base "_refutation" 10 spRefutA := ⟨f11, fd11, _, rfn_all fun n hn => (refut_all d11.F T C12 y11 (PySem.W.mg_of X G d11.a) d11.F.kp n).mono (by omega), y11, PySem.W.mg_of X G d11.a, d11.F.kp⟩
  have C10 : Cal l.prog w K mg base "refutation" 11 spRefutation := ⟨f10, fd10, _, ok_refutation d10.F T C11, y10, PySem.W.mg_of X G d10.a, d10.F.kp⟩
  have C8 : Cal l.prog w K mg base "_law_refutes" 10 spRefsA := ⟨f8, fd8, _, rfs_all fun n hn => (refs_all d8.F T C6 y8 (PySem.W.mg_of X G d8.a) d8.F.kp n).mono (by omega), y8, PySem.W.mg_of X G d8.a, d8.F.kp⟩
  have C9 : Cal l.prog w K mg base "_law_wide_right" 12 spWideR := ⟨f9, fd9, _, ok_wide_right d9.F T C10 C8, y9, PySem.W.mg_of X G d9.a, d9.F.kp⟩
  exact ok_law d0.F T C1 C3 C5 C7 C9 C10 C8
end Kx

open PySem PySem.W PyProof.Rows
set_option maxHeartbeats 0 in
theorem PySem.Challenge.cw_letforget_k10_refutations_holds : PySem.Challenge.rw_letforget_k10_refutations.Holds := by
  w_on; o_law; k_head; (case hw => w_witness2)
  k_fill
  refine L2.walk_of (l := PySem.Challenge.rw_letforget_k10_refutations) (n := 63) (k := 13) (x := "_law_script") (CX := fun _ => L2.CX0) (sp := fun w => Kx.spLaw _) rfl (by decide) rfl ⟨rfl, by decide, by decide⟩ (fun w h Y => PySem.W.kIn_of Y) ?F (fun _ _ a ns hl _ hS => ⟨a, ns, rfl, hS, hl, fun _ => rfl⟩) (fun _ _ _ _ _ h => h)
  case F =>
    intro w mg fa h KX G hmg
    refine' Kx.all_mk (l := PySem.Challenge.rw_letforget_k10_refutations) KX G hmg (Kx.at_mk ?a0 ?l0 ?e0 ?k0)
      (Kx.at_mk ?a1 ?l1 ?e1 ?k1)
      (Kx.at_mk ?a2 ?l2 ?e2 ?k2)
      (Kx.at_mk ?a3 ?l3 ?e3 ?k3)
      (Kx.at_mk ?a4 ?l4 ?e4 ?k4)
      (Kx.at_mk ?a5 ?l5 ?e5 ?k5)
      (Kx.at_mk ?a6 ?l6 ?e6 ?k6)
      (Kx.at_mk ?a7 ?l7 ?e7 ?k7)
      (Kx.at_mk ?a8 ?l8 ?e8 ?k8)
      (Kx.at_mk ?a9 ?l9 ?e9 ?k9)
      (Kx.at_mk ?a10 ?l10 ?e10 ?k10)
      (Kx.at_mk ?a11 ?l11 ?e11 ?k11)
      (Kx.at_mk ?a12 ?l12 ?e12 ?k12)
      (fun s v => .of_eq rfl)
      (.all fun us hl => match us, hl with | [_], _ => rfl)
      (.all fun us hl => match us, hl with | [_, _], _ => rfl)
      (.all fun us hl => match us, hl with | [_, _], _ => rfl)
      (.all fun us hl => match us, hl with | [_, _, _], _ => rfl)
      (.all fun us hl => match us, hl with | [_, _, _, _], _ => rfl)
      (.all fun us hl => match us, hl with | [_, _], _ => rfl)
      (.all fun us hl => match us, hl with | [_, _, _], _ => rfl)
      (.all fun us hl => match us, hl with | [_, _, _, _], _ => rfl)
      (.all fun us hl => match us, hl with | [_, _], _ => rfl)
      (.all fun us hl => match us, hl with | [_, _], _ => rfl)
      (.all fun us hl => match us, hl with | [_, _, _], _ => rfl)
      (.all fun us hl => match us, hl with | [_, _], _ => rfl)
      ?z0
      ?z1
      ?z2
      ?z3
      ?z4
      ?z5
      ?z6
      ?z7
      ?z8
      ?z9
      ?z10
    (case a0 => k_is)
    (case l0 => k_is)
    (case e0 => k_is)
    (case k0 => k_is)
    (case a1 => k_is)
    (case l1 => k_is)
    (case e1 => k_is)
    (case k1 => k_is)
    (case a2 => k_is)
    (case l2 => k_is)
    (case e2 => k_is)
    (case k2 => k_is)
    (case a3 => k_is)
    (case l3 => k_is)
    (case e3 => k_is)
    (case k3 => k_is)
    (case a4 => k_is)
    (case l4 => k_is)
    (case e4 => k_is)
    (case k4 => k_is)
    (case a5 => k_is)
    (case l5 => k_is)
    (case e5 => k_is)
    (case k5 => k_is)
    (case a6 => k_is)
    (case l6 => k_is)
    (case e6 => k_is)
    (case k6 => k_is)
    (case a7 => k_is)
    (case l7 => k_is)
    (case e7 => k_is)
    (case k7 => k_is)
    (case a8 => k_is)
    (case l8 => k_is)
    (case e8 => k_is)
    (case k8 => k_is)
    (case a9 => k_is)
    (case l9 => k_is)
    (case e9 => k_is)
    (case k9 => k_is)
    (case a10 => k_is)
    (case l10 => k_is)
    (case e10 => k_is)
    (case k10 => k_is)
    (case a11 => k_is)
    (case l11 => k_is)
    (case e11 => k_is)
    (case k11 => k_is)
    (case a12 => k_is)
    (case l12 => k_is)
    (case e12 => k_is)
    (case k12 => k_is)
    (case z0 => k_is)
    (case z1 => k_is)
    (case z2 => k_is)
    (case z3 => k_is)
    (case z4 => k_is)
    (case z5 => k_is)
    (case z6 => k_is)
    (case z7 => k_is)
    (case z8 => k_is)
    (case z9 => k_is)
    (case z10 => k_is)
