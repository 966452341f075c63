import PyProof.Rows.All
import Wide.All
import OpenK.AllK
import Wide.FinOn
import HandS.ForExc
import HandS.ExcInit
import HandS.ExcSuper
import HandS.Nested
import HandS.FStr
import KE.KExcSuper
import HandS.ForMost
import HandS.IsInst
import HandS.TupLe
import HandS.Codes
import HandS.FStrTup
import HandS.List
import PyProof.ReprNest
import PyProof.ReprText
import HandS.ExcIs
import HandS.ExcField
import HandS.Words
import PyProof.StrOps2
import KE.KExcIs
import HandS.Strs
import HandS.TupSets
import PyProof.Rows.SetFrom
import PyProof.WalksMore
import HandS.ClsMeth
import HandS.Star
import HandS.Style
import HandS.Deep
import HandS.Comp
import HandS.Exc
import HandS.ExcOwn
import HandS.Iter
import KE.GoesEnumKw
import PyProof.Rows.CallKwBuiltin
import PySem.Challenge.RW_letforget_k04_whole_written_history
import HandS.Text
import HandS.TupAny
import HandS.ExcInitHot
import HandS.ExcCtx
import HandS.HotCalls
import PyProof.StrLoop
import PyProof.TupleIter
set_option Elab.async false
set_option linter.all false
set_option maxRecDepth 100000
set_option maxHeartbeats 4000000
/-! An own error class over ValueError whose __init__ begins with super().__init__(..): its __init__ as a def, its making. -/
namespace Kx
open PySem PySem.Spec PyProof.Rows L2 NdefX
/-- what the written part says of such a class -/
structure SupC (K : PySem.W.Frag) (C : Addr) : Prop where
  oex : OexC K C
  sup : PySem.W.ks_superIn K C C "__init__" = some (some (.builtin "ValueError.__init__"))
  subV : PySem.W.subIn K (.ref C) (.type "ValueError") = some true
  mro : PySem.W.mroIn K C (.ref C) = some true
  opq : PySem.W.nsIn K cStatics "thirdparty.any" = some none
/-- what it says of the __init__: its code's file, the cell of __class__ -/
structure SupF (K : PySem.W.Frag) (P : Program) (C f : Addr) (fd : FuncData) (cda cc : Addr) (me : Str) : Prop where
  fn : ∃ oc od osl, K.lookup f = some ⟨oc, od, .func fd, osl⟩
  head : ∃ ar : Arg, (fd.params.posonlyargs ++ fd.params.args).head? = some ar ∧ ar.arg = me
  code : ∃ (ccl : Value) (cdd : Option Addr) (vs : Array Value) (ccs : Array (Option Value)) (file : Str) (tf : Tok), K.lookup cda = some ⟨ccl, cdd, .fields vs, ccs⟩ ∧ vs[2]? = some (.str file tf) ∧ ((P.main.file : Str) == file) = true
  cell : ∃ (cl : Value) (cld : Option Addr) (csl : Array (Option Value)), K.lookup cc = some ⟨cl, cld, .cell (some (.ref C)), csl⟩
  top : (P.main.scope.names.lookup ("super" : Str)).isSome = false
theorem boot_super : bootBuiltins "super" = some (.type "super") := by decide +kernel
section
variable {X : Cx} {pins : List (Addr × Obj)} {σ : L2.St} {H : Hp} {s : Shared} {a C f cda cc : Addr} {fd : FuncData} {me : Str} {i : Nat} {e : Expr} {es : List Expr} {ta : TA} {p0 p1 p2 p3 p4 : Pos} {body : List Stmt}
/-- ValueError.__init__ bound to such an object, called -/
theorem bw_ok {u : Addr} {us : List Value} {Q : Value → Shared → Prop} {A : Around} {E : Value → Shared → Prop} (T : OexC X.K C) (I : Inv X pins σ H s) (ea : H a = some (exo a C none)) (hu : s.heap.get? u = some (PySem.W.kxs_mw "ValueError.__init__" a)) (hl : us.length ≤ sizeLine) (h : ∀ s', Inv X pins σ H s' → Q .none s') :
    wpAny (model X.prog X.w) A (call (.ref u) us) Q E s := by
  obtain ⟨nm, q, N, bs, bm, sn, sub, ab, col, dd, k0, k1, k2, k3, k5, hC, hbm⟩ := T.cls
  obtain ⟨t1, ho⟩ := exo_at I.hok ea
  have hC' := I.kIn _ _ hC
  obtain ⟨hp, g, d, t, os⟩ := s
  have fin : ∀ h' t2, (∀ b o, b ≠ a → hp.get? b = some o → h'.get? b = some o) → h'.get? a = some (PySem.HandSPX.excO C t2) → Q .none ⟨h', g, d, t, os⟩ := fun h' t2 k hx => by
    have J := I.write (t' := t) (x := a) (e := a) (o := exo a C none) (by rw [ea]; exact True.intro) (.inl rfl) k ⟨_, hx⟩ (exo_ok hx)
    have eu : upd H a (exo a C none) = H := by
      funext b
      by_cases hb : b = a
      · rw [hb, upd_same, ea]
      · rw [upd_ne hb]
    rw [eu] at J
    exact h _ J
  refine wpAny_call (codeAny_of_tree ?_)
  show wpAny _ A.in1 (callAny (.ref u) ⟨us, []⟩) _ _ _
  simp only [callAny]
  refine wpAny_bind (wpAny_load hu ?_)
  simp only [PySem.W.kxs_mw, show (Value.type "method-wrapper" == Value.type "method" || Value.type "method-wrapper" == Value.type "builtin_function_or_method" || Value.type "method-wrapper" == Value.type "method-wrapper") = true by decide, if_true]
  refine PySem.W.KFB.if_so (by decide) ?_
  refine wpAny_bind (PySem.W.check_bound_init F.excBase_ValueError.toExcCallFacts hC' ho rfl ?_)
  refine wpAny_bind (wpAny_pure (wpAny_pure ?_))
  refine ⟨plainId_quiet F.excBase_ValueError.init.plain _, codeAny_builtin F.excBase_ValueError.initEntry ?_⟩
  rw [Around.under_plainId F.excBase_ValueError.init.plain _]
  refine PySem.W.exc_init_tree (cls := .ref C) (t0 := t1) (dv := none) (c2 := .none) (c3 := .none) (b4 := .bool false) ho hl fun h' k e' t' => ?_
  exact fin h' _ k e'
/-- super().__init__(e, ..) as a statement of such an __init__ -/
theorem at_super {pl : Sem Bool} {D : PySem.Flow → Shared → Prop} (T : SupC X.K C) (S : SupF X.K X.prog C f fd cda cc me) (hfu : X.env.func = some f) (hco : X.env.code = .ref cda) (hce : X.env.cells.lookup ("__class__" : Str) = some cc)
    (hks : X.env.kindOf "super" = some .globalImplicit) (hkc : X.env.kindOf "__class__" = some .free) (hka : X.env.kindOf me = some .local) (hm : X.mg "super" = none) (I : Inv X pins σ H s)
    (hN : X.N[i]? = some me) (hσ : σ[i]? = some (some (.ref a))) (ea : H a = some (exo a C none)) (ha : PA X (e :: es) ta)
    (h : ta σ H fun vs H1 => vs.length ≤ 1000 ∧ H1 a = some (exo a C none) ∧ ∀ s', Inv X pins σ H1 s' → D .next s')
    (hi : interactive X.env = false := by rfl) (hs : swapsWith (.Call (.Attribute (.Call (.Name "super" p0) [] [] p1) "__init__" p2) (e :: es) [] p3) none p4.line X.env = pure false := by rfl)
    (he : starEach (e :: es) X.env = (false, eval e X.env) :: starEach es X.env := by rfl) (hpl : (backTo p3 (starEach es X.env)).any (·.1) = false := by rfl)
    (hev : eval (.Call (.Attribute (.Call (.Name "super" p0) [] [] p1) "__init__" p2) (e :: es) [] p3) X.env = (do
      let ov ← attributeBase (.Call (.Name "super" p0) [] [] p1) "__init__" X.env (eval (.Call (.Name "super" p0) [] [] p1) X.env)
      standAt p2.atName
      let (f, first) ← holding [ov] (getMethod ov "__init__" pl)
      callWith p3 f first (backTo p3 (starEach (e :: es) X.env)) []) := by rfl) :
    _root_.PySem.wpAt (model X.prog X.w) X.A (.func body X.env) (exec (.Expr (.Call (.Attribute (.Call (.Name "super" p0) [] [] p1) "__init__" p2) (e :: es) [] p3) p4) X.env) D X.xe s := by
  obtain ⟨oc, od, osl, lkf⟩ := S.fn
  obtain ⟨ar, hhead, hme⟩ := S.head
  obtain ⟨ccl, cdd, vs, ccs, file, tf, lkc, hvs, hfile⟩ := S.code
  obtain ⟨cl, cld, csl, lkcell⟩ := S.cell
  obtain ⟨nm, q, N, bs, bm, sn, sub, ab, col, dd, k0, k1, k2, k3, k5, hC, hbm⟩ := T.oex.cls
  have hcl : PySem.W.clsIn X.K C = some { name := nm, bases := bs, mro := .ref C :: bm, ns := N, qualname := q, hasDict := true, slotNames := sn, subclasses := sub, abstract := ab, collection := col, hasDel := false } := by unfold PySem.W.clsIn; rw [hC] <;> rfl
  have KX := I.kIn
  have hkf : X.env.scope.kind = .function := I.ok.kind
  obtain ⟨t1, ho⟩ := exo_at I.hok ea
  obtain ⟨m, hn, hl⟩ := I.loc
  obtain ⟨u0, r0, lk0⟩ := hl i me (.ref a) hN hσ (.inl hka)
  cases (show u0 = Value.ref a from r0)
  have hm0 : m me = some (.ref a) := by
    rcases lk0 with ⟨_, z⟩ | ⟨z, _⟩
    · exact z
    · rw [hka] at z
      rcases z with z | z <;> cases z
  obtain ⟨mb, hmb1, hmb2⟩ := I.mod.blt
  refine PySem.ks_wpAt_Expr_any ?_ hi hs
  refine PySem.ks_wpAt_MethodCall ?_ hev
  refine PySem.ks_wpAt_super_base hks hkc (by decide) hfu (KX _ _ lkf) rfl hhead hco (KX _ _ lkc) rfl hvs hfile S.top ?_
  refine PySem.W.ks_loadName_global hkf hks (PySem.Calls.loadGlobal_builtin (mb := mb) (by rw [I.ok.glob]; exact I.mod.glob.keeps I.bk) hm (by rw [I.ok.blt]; exact hmb1.keeps I.bk) ((hmb2 _ (by decide +kernel)).trans boot_super) ⟨rfl, ?_⟩)
  refine wpAny_loadName_free hkf hkc hce (v := .ref C) ⟨_, KX _ _ lkcell, rfl⟩ ?_
  rw [hme]
  refine wpAny_loadName_local hkf hka hn hm0 ?_
  obtain ⟨hh, g, d, t, os⟩ := s
  refine ks_wpAny_isType_cls (KX _ _ hC) rfl ⟨rfl, ?_⟩
  have hsub : PySem.W.Looks (model X.prog X.w) hh (isSubtype (.ref C) (.ref C)) true := PySem.W.looks_mroIn KX T.mro
  refine PySem.ks_wpAny_call_super (KX _ _ hC) rfl ho rfl (fun c e => by cases e) hsub (fun h1 e1 k1' => ?_)
  have I1 : Inv X pins σ H ⟨h1, g, d, t, os⟩ := I.kept (h' := h1) (t' := t) k1'
  have hI : PySem.W.Looks (model X.prog X.w) h1 (isInstance (.ref a) (.type "ValueError")) true := (show PySem.W.InstAt h1 a _ C none from ⟨k1' _ _ ho, rfl, rfl, trivial⟩).type.andThen (PySem.W.looks_subIn I1.kIn T.subV)
  have hsup := T.sup
  unfold PySem.W.ks_superIn at hsup
  rw [hcl] at hsup
  refine PySem.W.kxs_getMethod PySem.W.kxs_ValueError e1 (PySem.W.looks_opaque I1.kIn T.opq) (l₀ := .ref C :: bm) ?_ rfl I1.kIn hsup hI ?_ (by decide) ?_
  · exact fun A Q E s k q => wpAny_bind ((PySem.W.looks_clsIn I1.kIn hcl) A _ E s k (wpAny_pure q))
  · exact PySem.W.ks_ne (odx := none) I1.kIn (⟨k1' _ _ ho, rfl, rfl, trivial⟩ : PySem.W.InstAt h1 a _ C none) hcl
  have hsz : h1.objs.size ≤ h1.objs.size := Nat.le_refl _
  have I2 : Inv X pins σ H ⟨h1.push (PySem.W.kxs_mw "ValueError.__init__" a), g, d, t + 1, os⟩ := I1.kept (t' := t + 1) fun b o e => Heap.get?_push_of_some _ e
  have hu : (h1.push (PySem.W.kxs_mw "ValueError.__init__" a)).get? h1.objs.size = some (PySem.W.kxs_mw "ValueError.__init__" a) := Heap.get?_push_size _ rfl
  have fp : FpOk X pins H h1.objs.size := I1.fpOk hsz (I1.hok.fresh hsz)
  have I3 := I2.pinned (fp := [h1.objs.size]) (fun b hb => by rw [List.mem_singleton.mp hb]; exact fp) (fun b hb => by
    rw [List.mem_singleton.mp hb]
    exact ⟨_, hu, fun v z => by cases z⟩)
  refine PySem.W.kxs_callWith (i := "ValueError.__init__") (x := a) (by rw [he]; show (false || (backTo p3 (starEach es X.env)).any (·.1)) = false; rw [hpl]; rfl) ?_
  rw [he]
  refine PySem.Calls.evalArgs_plain ?_
  have har := ha.run p3 _ _ σ H _ I3 h
  rw [he] at har
  refine thn har fun us s4 ⟨vs, H4, I4, r4, hlen, ea4, fin⟩ => ?_
  have pin4 := (I4.pin (h1.objs.size, PySem.W.kxs_mw "ValueError.__init__" a) (List.mem_append_right _ (List.mem_append_right _ (mem_pinsAt (List.mem_singleton.mpr rfl) hu)))).1
  refine ⟨pin4, ?_⟩
  rw [List.nil_append]
  refine bw_ok T.oex I4.unpinned ea4 pin4 ?_ fun s5 I5 => fin s5 I5
  rw [← r4.length, sizeLine_eq]
  omega
end
section
variable {P : Program} {w : World} {K : PySem.W.Frag} {mg : Str → Option Value} {base : Heap} {CX : CXT}
abbrev supSt (p0 p1 p2 p3 p4 : Pos) (e : Expr) : Stmt := .Expr (.Call (.Attribute (.Call (.Name "super" p0) [] [] p1) "__init__" p2) [e] [] p3) p4
/-- THE RULE: such an __init__ keeps its promise, by its one argument's reading and the rest of its body -/
theorem fn_super {k : Nat} {f C cda cc : Addr} {fd : FuncData} {name qual me : Str} {params : Arguments} {p0 p1 p2 p3 p4 : Pos} {e : Expr} {rest : List Stmt} {scope : Scope} {kV doc pm ct : Value} {an : Option Addr} {N ps : List Str} {sp : Sp}
    (S : SupF K P C f fd cda cc me) (T : SupC K C) (hfd : fd = PySem.W.fnX name qual params (supSt p0 p1 p2 p3 p4 e :: rest) scope [("__class__", cc)] .none kV doc pm an (.ref cda) ct) (hcd : PySem.W.codeIn K (.ref cda) qual = true) (NS : NScope N ps ["__class__"] scope) (hm : mg "super" = none)
    (hN : N[0]? = some me) (hps : 0 < ps.length) (hks : scope.names.lookup ("super" : Str) = some .globalImplicit) (hka : scope.names.lookup me = some .local) (len : ∀ vs H Q E, sp vs H Q E → vs.length = ps.length)
    (hbody : ∀ (A : Around) (outer : List Env) (s : Shared) (H : Hp) (vs : List V) (Q : VK) (E : XK), Room k (A.deeper (envF ⟨name, qual, params, supSt p0 p1 p2 p3 p4 e :: rest, scope, [("__class__", cc)], cda⟩ f s.heap.objs.size)) → sp vs H Q E →
      ∃ (a : Addr) (te : TE) (t : TS), vs[0]? = some (.ref a) ∧ H a = some (exo a C none) ∧ PE (ncx CX P w K mg base N ⟨name, qual, params, supSt p0 p1 p2 p3 p4 e :: rest, scope, [("__class__", cc)], cda⟩ f A outer s H E) e te ∧
        PSs (ncx CX P w K mg base N ⟨name, qual, params, supSt p0 p1 p2 p3 p4 e :: rest, scope, [("__class__", cc)], cda⟩ f A outer s H E) rest t ∧
        ∀ R : Hp → Prop, (∀ H1, H1 a = some (exo a C none) → t { nx := fun _ H' => Q .non H', rt := Q } (startF N vs [some (.ref C)]) H1 → R H1) → te (startF N vs [some (.ref C)]) H fun _ H1 => R H1)
    (hev : ∀ env : Env, ∃ pl : Sem Bool, eval (.Call (.Attribute (.Call (.Name "super" p0) [] [] p1) "__init__" p2) [e] [] p3) env = (do
      let ov ← attributeBase (.Call (.Name "super" p0) [] [] p1) "__init__" env (eval (.Call (.Name "super" p0) [] [] p1) env)
      standAt p2.atName
      let (f, first) ← holding [ov] (getMethod ov "__init__" pl)
      callWith p3 f first (backTo p3 (starEach [e] env)) []))
    (hse : ∀ env : Env, starEach [e] env = [(false, eval e env)])
    (hsw : ∀ env : Env, swapsWith (.Call (.Attribute (.Call (.Name "super" p0) [] [] p1) "__init__" p2) [e] [] p3) none p4.line env = pure false) :
    FnOk P w K mg base CX (k + 1) f fd ps sp := by
  refine ⟨len, fun A outer s H args us vs Q E hr e0 hb r hsp => ?_⟩
  subst hfd
  have hl := len _ _ _ _ hsp
  have KX : K.In s.heap := e0.mod.kin.keeps fun b o e => (e0.bs b o e).1
  have lim : s.heap.NoLimit := e0.mod.nolimit.keeps fun b o e => (e0.bs b o e).1
  obtain ⟨oc, od, osl, lk⟩ := S.fn
  obtain ⟨cl, cld, csl, lkcell⟩ := S.cell
  have hcl : s.heap.get? cc = some ⟨cl, cld, .cell (some (.ref C)), csl⟩ := KX _ _ lkcell
  have hHc : H cc = none := (e0.bs _ _ (e0.mod.kin _ _ lkcell)).2
  have one : ∀ (y : Str) (c : Addr), ([(("__class__" : Str), cc)] : List (Str × Addr)).lookup y = some c → y = "__class__" ∧ c = cc := fun y c h => by
    have hm := PySem.mem_of_lookup h
    rw [List.mem_singleton] at hm
    exact ⟨congrArg Prod.fst hm, congrArg Prod.snd hm⟩
  have look1 : ([(("__class__" : Str), cc)] : List (Str × Addr)).lookup ("__class__" : Str) = some cc := by simp [List.lookup]
  have CA : CellsAt [(("__class__" : Str), cc)] ["__class__"] [some (V.ref C)] s.heap H := by
    refine ⟨rfl, fun y c h => ?_, fun x y c h1 h2 => (one x c h1).1.trans (one y c h2).1.symm, fun i y h => ?_⟩
    · rw [(one y c h).2]
      exact ⟨hHc, _, _, hcl, rfl⟩
    · match i, h with
      | 0, h =>
        have e : ("__class__" : Str) = y := Option.some.inj h
        subst e
        refine ⟨cc, look1, fun v hv => ?_⟩
        have ev : V.ref C = v := Option.some.inj (Option.some.inj hv)
        subst ev
        exact ⟨_, rfl, _, hcl, rfl⟩
      | i + 1, h => exact absurd h (by simp)
  refine ks_codeAny_call_defAt hr.depth (KX _ _ lk) rfl lim (PySem.W.codeRec_of KX hcd) rfl hb (fun x hx => NS.nocell x hx) (fun y hy => NS.par _ (List.of_mem_zip hy).1) (fun h₀ hns hk => ?_) NS.co NS.gen NS.kind
  obtain ⟨a, te, t, h0, ea, he, ht, hq⟩ := hbody A outer s H vs Q E (hr.deeper _) hsp
  have I := inv_startN (CX := CX) (mg := mg) (base := base) (f := f) (E := E) (h₁ := h₀) (tk := s.toks + (ps.zip us).length) (F := ⟨name, qual, params, supSt p0 p1 p2 p3 p4 e :: rest, scope, [("__class__", cc)], cda⟩) NS hr.hd e0 hl r CA hns hk
  have hσ : (startF N vs [some (V.ref C)])[0]? = some (some (.ref a)) := by
    unfold startF
    rw [List.getElem?_append_left (by rw [List.length_map]; omega), List.getElem?_map, h0]
    rfl
  have fin : ∀ {σ' : L2.St} {H' : Hp} {s' : Shared} {v : V} {u : Value}, Inv (ncx CX P w K mg base N ⟨name, qual, params, supSt p0 p1 p2 p3 p4 e :: rest, scope, [("__class__", cc)], cda⟩ f A outer s H E) [] σ' H' s' → L2.RelV v u → Q v H' → CE outer P w H s Q u s' :=
    fun {σ' H' s' v u} J rv q => ⟨v, H', J.os, J.bare, J.base, J.hok, rv, q⟩
  obtain ⟨pl, hev⟩ := hev (envF ⟨name, qual, params, supSt p0 p1 p2 p3 p4 e :: rest, scope, [("__class__", cc)], cda⟩ f s.heap.objs.size)
  refine ks_wpAt_execs_cons ?_
  refine at_super (X := ncx CX P w K mg base N ⟨name, qual, params, supSt p0 p1 p2 p3 p4 e :: rest, scope, [("__class__", cc)], cda⟩ f A outer s H E) (pl := pl) (i := 0) (ta := tCons te tNil) T S rfl rfl look1 hks (NS.frk _ (List.mem_singleton.mpr rfl)) hka hm I hN hσ ea (pa_cons he pa_nil (hse _)) ?_ ?_ (hsw _) (hse _) rfl hev
  · refine hq (fun H1 => ([()].length ≤ 1000 ∧ H1 a = some (exo a C none) ∧ ∀ s', _)) fun H1 e1 ht1 => ⟨by decide, e1, fun s' I1 => ?_⟩
    refine wpAt_of_wpAny (wpAny_mono (ht.run [] s' _ H1 _ I1 ht1) (fun fl s' hs => ?_) fun e s' hs => hs)
    cases fl with
    | ret u =>
      obtain ⟨v, σ', H', J, rv, q⟩ := hs
      exact fin J rv q
    | next =>
      obtain ⟨σ', H', J, q⟩ := hs
      exact fin (v := V.non) (u := Value.none) J rfl q
    | brk =>
      obtain ⟨_, _, _, q⟩ := hs
      exact False.elim q
    | cont =>
      obtain ⟨_, _, _, q⟩ := hs
      exact False.elim q
  · show (scope.kind == .module && _) = false
    rw [NS.kind]
    rfl
end
end Kx

namespace Kx
open PySem PySem.Spec PyProof.Rows L2
/-! ### a def as its callers see it; a constant of the module -/
def Cal (P : Program) (w : World) (K : PySem.W.Frag) (mg : Str → Option Value) (base : Heap) (x : Str) (k : Nat) (sp : Sp) : Prop :=
  ∃ (f : Addr) (fd : FuncData) (ps : List Str), FnOk P w K mg base CX0 k f fd ps sp ∧ Binds K fd ps [] ∧ mg x = some (.ref f) ∧ PySem.W.keepIn K (.ref f) = true
theorem pe_cal {X : Cx} {x : Str} {k : Nat} {sp : Sp} {e : Expr} {es : List Expr} {t : TA} {p pos : Pos} (C : Cal X.prog X.w X.K X.mg X.base x k sp) (hr : Room k X.A) (hg : Gl X x) (ha : PA X (e :: es) t)
    (hdb : (x == ("__debug__" : Str)) = false := by decide) (he : starEach (e :: es) X.env = (false, eval e X.env) :: starEach es X.env := by rfl) (hpl : (backTo pos (starEach es X.env)).any (·.1) = false := by rfl) :
    PE X (.Call (.Name x p) (e :: es) [] pos) (tCall sp [] E0 t) := by
  obtain ⟨f, fd, ps, F, b, g, kp⟩ := C
  exact pe_call F hr hg g kp b .nil pass0 ha hdb he hpl
theorem pe_cal0 {X : Cx} {x : Str} {k : Nat} {sp : Sp} {p pos : Pos} (C : Cal X.prog X.w X.K X.mg X.base x k sp) (hr : Room k X.A) (hg : Gl X x)
    (hdb : (x == ("__debug__" : Str)) = false := by decide) : PE X (.Call (.Name x p) [] [] pos) (tCall sp [] E0 tNil) := by
  obtain ⟨f, fd, ps, F, b, g, kp⟩ := C
  exact pe_call0 F hr hg g kp b .nil pass0 hdb
def GC (mg : Str → Option Value) (x : Str) (v : V) : Prop := ∃ u, mg x = some u ∧ RelV v u
theorem pe_gc {X : Cx} {x : Str} {v : V} {pos : Pos} (h : GC X.mg x v) (hg : Gl X x) (hd : (x == ("__debug__" : Str)) = false := by decide) : PE X (.Name x pos) (tC v) := by
  obtain ⟨u, hm, r⟩ := h
  exact pe_glob hg hm r hd
theorem same_upd {H : Hp} {p : Addr} {o : HO} (h : H p = none) : Same H (upd H p o) := fun b x e => by
  rw [upd_ne (ne_of_none e h)]
  exact e
/-- what lies at an address that H did not know may change -/
theorem same_mut {H H1 : Hp} {p : Addr} {o : HO} (s : Same H H1) (h : H p = none) : Same H (upd H1 p o) := fun b x e => by
  rw [upd_ne (ne_of_none e h)]
  exact s b x e
theorem iteB {b : Bool} {A B : Prop} (h1 : b = true → A) (h2 : b = false → B) : if b = true then A else B := by
  cases b with
  | true => exact h1 rfl
  | false => exact h2 rfl
theorem sz9 {n : Nat} (h : n ≤ 100000) : n ≤ sizeLine := Nat.le_trans h (by decide)
theorem sz8 {n : Nat} (h : n < 100000) : n < sizeLine := Nat.lt_of_lt_of_le h (by decide)
/-- what a pool of draws is -/
def inR (v : Int) : Prop := 0 ≤ v ∧ v < 65536
structure Pool (ms : List Int) : Prop where
  lo : 3 ≤ ms.length
  hi : ms.length ≤ 200
  rg : ∀ v ∈ ms, inR v
def spDraws (K : PySem.W.Frag) : Sp := fun vs H Q _ => ∃ (a : Addr) (ns : List Int), vs = [.ref a] ∧ SqL K H a (ns.map V.int) ∧ ns.length ≤ 63 ∧
  ∀ H' p ms, Same H H' → H p = none → H' p = some (.lst (ms.map V.int)) → Pool ms → Q (.ref p) H'
theorem map_app (ms : List Int) (v : Int) : (ms.map V.int) ++ [V.int v] = (ms ++ [v]).map V.int := by rw [List.map_append]; rfl
theorem rg_app {ms : List Int} {v : Int} (h : ∀ x ∈ ms, inR x) (hv : inR v) : ∀ x ∈ ms ++ [v], inR x := fun x hx => by
  rcases List.mem_append.mp hx with hx | hx
  · exact h x hx
  · rw [List.mem_singleton.mp hx]; exact hv
theorem sl9 {n : Nat} (h : n < 100000) : n < sizeLine := Nat.lt_of_lt_of_le h (by decide)
variable {K : PySem.W.Frag}
theorem pe10 : ((10 : Int) ^ (18 : Int).toNat) = 1000000000000000000 := by decide
theorem eqv_nil : ∀ ms : List Int, PyData.eqv (.list (ms.map PyData.int)) (.list []) = decide (ms = [])
  | [] => by simp [PyData.eqv, PyData.eqvAll]
  | x :: r => by simp [PyData.eqv, PyData.eqvAll]
theorem dp_ints {H : Hp} : ∀ ms : List Int, DpAll K H (ms.map V.int) (ms.map PyData.int)
  | [] => .nil
  | x :: r => .cons (.int x) (dp_ints r)
theorem lay_ints : ∀ ms : List Int, PyData.canLayAll0 (ms.map PyData.int) = true
  | [] => rfl
  | x :: r => by
    rw [List.map_cons]
    simp only [PyData.canLayAll0, PyData.canLay0, lay_ints r, Bool.and_self]
theorem dep_ints : ∀ ms : List Int, PyData.depthAll (ms.map PyData.int) = 0
  | [] => rfl
  | x :: r => by
    rw [List.map_cons]
    simp only [PyData.depthAll, PyData.depth, dep_ints r, Nat.max_self]
theorem shp_ints (ms : List Int) : SeqAt.shaped (.list (ms.map PyData.int)) = true := by
  unfold SeqAt.shaped
  simp only [PyData.canLay0, PyData.depth, lay_ints, dep_ints, Bool.true_and]
  decide
def nthV (ms : List Int) (k : Int) : Int := if k < (ms.length : Int) then ms.getD k.toNat 0 else (ms.getD (k % (ms.length : Int)).toNat 0 * 31 + k * 7919) % 65521
theorem getD_rg {ms : List Int} (h : ∀ v ∈ ms, inR v) {i : Nat} (hi : i < ms.length) : ms[i]? = some (ms.getD i 0) ∧ inR (ms.getD i 0) := by
  have e : ms.getD i 0 = ms[i] := by rw [List.getD_eq_getElem?_getD, List.getElem?_eq_getElem hi]; rfl
  rw [e]
  exact ⟨List.getElem?_eq_getElem hi, h _ (List.getElem_mem hi)⟩
theorem nthV_rg {ms : List Int} (h : Pool ms) {k : Int} (hk : 0 ≤ k) : inR (nthV ms k) := by
  unfold nthV
  split
  · exact (getD_rg h.rg (by omega)).2
  · unfold inR; constructor <;> omega
theorem at_pool {ms : List Int} {k : Int} (hk : 0 ≤ k) (hl : k < (ms.length : Int)) : atI (ms.map V.int) k = some (.int (ms.getD k.toNat 0)) := by
  obtain ⟨j, rfl⟩ : ∃ j : Nat, k = (j : Int) := ⟨k.toNat, by omega⟩
  refine atI_nat ?_
  rw [List.getElem?_map, List.getElem?_eq_getElem (by omega), List.getD_eq_getElem?_getD, Int.toNat_natCast, List.getElem?_eq_getElem (by omega)]
  rfl
def spNth (K : PySem.W.Frag) : Sp := fun vs H Q _ => ∃ (p : Addr) (ms : List Int) (k : Int), vs = [.ref p, .int k] ∧ SqL K H p (ms.map V.int) ∧ Pool ms ∧ 0 ≤ k ∧ k < 1000000 ∧ Q (.int (nthV ms k)) H
def SIG1 : Str := " !\"#$&'()*+,-./0123456789:;<=>?@ABCDEFGHIJKLMNOPQRSTUVWXYZ[\\]^_`"
def SIG2 : Str := "abcdefghijklmnopqrstuvwxyz{|}~\n"
def SIGS : List Nat := (SIG1 ++ SIG2).cps.toList
def signV (k : Int) : Nat := SIGS.getD (k % 95).toNat 0
theorem sigs_len : SIGS.length = 95 := by decide +kernel
theorem sigs_len2 : (SIG1 ++ SIG2).length = 95 := by decide +kernel
theorem sig12 : SIG1.length + SIG2.length ≤ 1000 := by decide +kernel
def okS (c : Nat) : Bool := c == 10 || (decide (32 ≤ c) && decide (c ≤ 126) && c != 37)
theorem sigs_ok : SIGS.all okS = true := by decide +kernel
theorem at_sig (k : Int) : atI SIGS (k % 95) = some (signV k) := by
  have h0 : 0 ≤ k % 95 := by omega
  obtain ⟨j, hj⟩ : ∃ j : Nat, k % 95 = (j : Int) := ⟨(k % 95).toNat, by omega⟩
  unfold signV
  rw [hj, Int.toNat_natCast]
  refine atI_nat ?_
  have hl : j < SIGS.length := by rw [sigs_len]; omega
  rw [List.getElem?_eq_getElem hl, List.getD_eq_getElem?_getD, List.getElem?_eq_getElem hl]
  rfl
theorem signV_ok (k : Int) : okS (signV k) = true := by
  have hl : (k % 95).toNat < SIGS.length := by rw [sigs_len]; omega
  unfold signV
  rw [List.getD_eq_getElem?_getD, List.getElem?_eq_getElem hl]
  exact List.all_eq_true.mp sigs_ok _ (List.getElem_mem hl)
def spSign : Sp := fun vs H Q _ => ∃ k : Int, vs = [.int k] ∧ Q (.str ⟨#[signV k]⟩) H
def spSaid : Sp := fun vs H Q _ => ∃ a b : Bool, vs = [.bl a, .bl b] ∧ Q (.bl (decide (a = b))) H
/-- the built-ins that every law's own defs ask -/
structure TB (mg : Str → Option Value) : Prop where
  m_len : mg "len" = none
  m_abs : mg "abs" = none
  m_int : mg "int" = none
  m_range : mg "range" = none
/-! ### the end: what the top has written -/
/-- a def of the top, as k_is finds it -/
structure At (K : PySem.W.Frag) (x : Str) (st : Stmt) (f : Addr) (fd : FuncData) : Prop where
  a : PySem.W.nsIn K mainGlobals x = some (some (.ref f))
  F : Fun K x x st f fd
theorem gc_of {K : PySem.W.Frag} {h : Heap} {mg : Str → Option Value} (X : K.In h) (G : h.Ns mainGlobals mg) {x : Str} {v : V} {u : Value} (a : PySem.W.nsIn K mainGlobals x = some (some u)) (r : RelV v u) : GC mg x v := ⟨u, PySem.W.mg_of X G a, r⟩
theorem at_mk {K : PySem.W.Frag} {x : Str} {st : Stmt} {f : Addr} {oc : Value} {od an : Option Addr} {osl : Array (Option Value)} {kV doc pm cdv ct : Value} (a : PySem.W.nsIn K mainGlobals x = some (some (.ref f)))
    (l : K.lookup f = some ⟨oc, od, .func (PySem.W.fnOf x x (defArgs st) (defBody st) (defScope st) .none kV doc pm an cdv ct), osl⟩)
    (c : PySem.W.codeIn K cdv x = true) (k : PySem.W.keepIn K (.ref f) = true) : At K x st f (PySem.W.fnOf x x (defArgs st) (defBody st) (defScope st) .none kV doc pm an cdv ct) := ⟨a, fun_mk l c k⟩
end Kx

/-! {x!r}, x of texts, lists and tuples, whatever is under way: some text of bounded length. -/
namespace Kr
open PySem PySem.Spec PyProof.Rows
/-- repr gives some text of at most n signs, with k units to spare -/
def Shows (prog : Program) (w : World) (h₀ : Heap) (k n : Nat) (x : Value) : Prop :=
  ∀ b : Nat, b + n ≤ sizeLine → ∀ (A : Around) (E : Value → Shared → Prop) (s : Shared) (Q : Str → Shared → Prop), A.units + k < cLine → (∀ c o, h₀.get? c = some o → s.heap.get? c = some o) →
    (∀ (t : Str) (h' : Heap) (tk : Nat), t.length ≤ n → (∀ c o, s.heap.get? c = some o → h'.get? c = some o) → Q t { s with heap := h', toks := tk }) → wpAny (model prog w) A (pyReprUnder b x) Q E s
def cst (ns : List Nat) : Nat := (ns.map (· + 2)).sum
theorem cst_cons (n : Nat) (ns : List Nat) : cst (n :: ns) = n + 2 + cst ns := by
  unfold cst
  rw [List.map_cons, List.sum_cons]
theorem cst_take_succ {ns : List Nat} {i n : Nat} (h : ns[i]? = some n) : cst (ns.take (i + 1)) = cst (ns.take i) + (n + 2) := by
  unfold cst
  rw [List.take_add_one, h, List.map_append, List.sum_append]
  simp
theorem cst_take_le (ns : List Nat) (i : Nat) : cst (ns.take i) ≤ cst ns := by
  have e : cst ns = cst (ns.take i) + cst (ns.drop i) := by
    unfold cst
    rw [← List.sum_append, ← List.map_append, List.take_append_drop]
  omega
theorem listText_le (ts : List Str) : (listText ts).length ≤ piled ts + 2 := by
  rw [listText_eq_join, strLen_append, strLen_append]
  have e1 : ((("[" : String) : Str)).length = 1 := rfl
  have e2 : ((("]" : String) : Str)).length = 1 := rfl
  rw [e1, e2]
  by_cases h : ts = []
  · subst h
    decide +kernel
  · have := join_length_add ts h
    omega
section
variable {prog : Program} {w : World} {h₀ : Heap} {k : Nat}
theorem Shows.str (x : Str) (t : Tok) (hx : (reprText x).length ≤ sizeLine) : Shows prog w h₀ k (reprText x).length (.str x t) := fun b hb A E s Q _ _ hQ =>
  ReprIs.str (prog := prog) (w := w) x t hx b hb A E s Q fun tk => hQ _ s.heap tk (Nat.le_refl _) fun _ _ e => e
theorem Shows.le {n m : Nat} {x : Value} (h : Shows prog w h₀ k n x) (hn : n ≤ m) : Shows prog w h₀ k m x := fun b hb A E s Q hu hk hQ =>
  h b (by omega) A E s Q hu hk fun t h' tk ht => hQ t h' tk (by omega)
theorem Shows.unit {n j : Nat} {x : Value} (h : Shows prog w h₀ k n x) (hn : k ≤ j) : Shows prog w h₀ j n x := fun b hb A E s Q hu hk hQ =>
  h b hb A E s Q (by omega) hk hQ
/-- the loop of a list's repr -/
theorem loop_any {A : Around} {R : Result → Shared → Prop} {a P : Addr} (hne : a ≠ P) {items : Array Value} {ns : List Nat} {base : Nat} (hu : A.units + (k + 1) < cLine) (hPf : h₀.get? P = none) (hlen : ns.length = items.size)
    (hT : ∀ (i : Nat) (x : Value), items[i]? = some x → ∃ n, ns[i]? = some n ∧ Shows prog w h₀ k n x) (hsz : base + cst ns + 2 ≤ sizeLine) :
    ∀ (m i : Nat) (s : Shared) (oa : Obj) (na : Nat) (acc : Array Value) (c : Nat) (done : List (Str × Tok)), items.size - i = m → i ≤ items.size → (∀ b o, h₀.get? b = some o → s.heap.get? b = some o) → s.heap.get? a = some oa → oa.data = .seq items na →
    s.heap.get? P = some { cls := .type "list", dict := none, data := .seq acc c, slots := #[] } → acc.toList = strValues done → done.length = i → piled (done.map (·.1)) ≤ cst (ns.take i) →
    (∀ (t : Str) h' u tk, t.length ≤ cst ns + 2 → (∀ b o, b ≠ P → s.heap.get? b = some o → h'.get? b = some o) → R (.ok (.ret (.str t u))) { s with heap := h', toks := tk }) →
    codeAny (model prog w) A (.builtin "list.__repr__.loop" ⟨[.ref a, rawInt i, .ref P, rawInt ((base + piled (done.map (·.1)) : Nat) : Int)], []⟩) R s := by
  have hsz1 : items.size ≤ sizeLine := by
    have : ∀ l : List Nat, 2 * l.length ≤ cst l := by
      intro l
      induction l with
      | nil => exact Nat.zero_le _
      | cons n l ih => rw [cst_cons, List.length_cons]; omega
    have := this ns
    omega
  intro m
  induction m with
  | zero =>
    intro i s oa na acc c done hm hi hk0 ha hda hP hacc hdone hpl hR
    have hin : i = items.size := by omega
    have hall : ns.take i = ns := by rw [hin, ← hlen, List.take_length]
    rw [hall] at hpl
    have hlt := listText_le (done.map (·.1))
    refine codeAny_builtin F.entry_list_repr_loop ?_
    show wpAny _ _ (Builtin.«list.__repr__.loop» ⟨[.ref a, .int i 0, .ref P, .int ((base + piled (done.map (·.1)) : Nat) : Int) 0], []⟩) _ _ s
    rw [repr_loop_tree]
    refine wpAny_bind (wpAny_listItems ha hda ?_)
    have hnone : items[(i : Int).toNat]? = none := by simp [hin]
    simp only [hnone]
    unfold reprEnd
    refine wpAny_bind (wpAny_listItems hP rfl ?_)
    rw [hacc, repr_fold]
    refine wpAny_bind (wpAny_pure ?_)
    refine wpAny_bind (wpAny_mkStr (wpAny_pure ?_) (by show (listText _).length ≤ _; omega))
    exact hR _ s.heap _ _ (by show (listText _).length ≤ _; omega) fun _ _ _ e => e
  | succ m ih =>
    intro i s oa na acc c done hm hi hk0 ha hda hP hacc hdone hpl hR
    have hlt : i < items.size := by omega
    obtain ⟨n, hn, hsh⟩ := hT i items[i] (by simp [hlt])
    have hp1 := cst_take_succ hn
    have hp2 := cst_take_le ns (i + 1)
    refine codeAny_builtin F.entry_list_repr_loop ?_
    show wpAny _ _ (Builtin.«list.__repr__.loop» ⟨[.ref a, .int i 0, .ref P, .int ((base + piled (done.map (·.1)) : Nat) : Int) 0], []⟩) _ _ s
    rw [repr_loop_tree]
    refine wpAny_bind (wpAny_listItems ha hda ?_)
    have hsome : items[(i : Int).toNat]? = some items[i] := by simp [hlt]
    simp only [hsome]
    rw [Int.toNat_natCast]
    refine wpAny_bind (wpAny_holding (hsh (base + piled (done.map (·.1)) + 1) (by omega) _ _ _ _ (by rw [units_under_list_loop]; omega) hk0 fun t h' tk ht hkp => ?_))
    refine wpAny_bind (wpAny_mkStr ?_ (by omega))
    refine wpAny_bind ?_
    show wpAny _ _ (updateSeq P _) _ _ _
    have hasz : acc.size ≤ sizeLine := by
      have e1 : acc.toList.length = acc.size := by simp
      have e2 : (strValues done).length = done.length := by simp [strValues]
      rw [hacc] at e1; omega
    refine wpAny_updateSeq (hkp _ _ hP) rfl (wpAny_pure ⟨F.quiet_list_repr_loop _, ?_⟩) hasz
    have hpd : piled ((done ++ [(t, tk)]).map (·.1)) = piled (done.map (·.1)) + (t.length + 2) := by
      rw [List.map_append, piled_append]
      show _ + piled [t] = _
      rw [piled_cons, piled_nil]
    have e1 : ((i : Int) + 1) = ((i + 1 : Nat) : Int) := by omega
    have e2 : base + piled (done.map (·.1)) + (t.length + 2) = base + piled ((done ++ [(t, tk)]).map (·.1)) := by omega
    rw [e1, e2]
    refine ih (i + 1) _ oa na (acc.push (.str t tk)) _ (done ++ [(t, tk)]) (by omega) hlt (fun b o e => (Heap.get?_update_other _ _ (fun h : P = b => by rw [← h, hPf] at e; cases e)).trans (hkp _ _ (hk0 _ _ e))) ((Heap.get?_update_other _ _ (fun h : P = a => hne h.symm)).trans (hkp _ _ ha)) hda (Heap.get?_update_self _ (hkp _ _ hP) rfl) (by simp [hacc, strValues]) (by simp [hdone]) (by omega) fun z h'' u tk' hz hh => ?_
    exact hR z h'' u tk' hz fun b o hb e => hh b o hb ((Heap.get?_update_other _ _ (fun h : P = b => hb h.symm)).trans (hkp _ _ e))
theorem dots3 : ("[...]" : Str).length ≤ 5 := by decide +kernel
/-- list.__repr__ of a non-empty list, whatever is under way -/
theorem list_at {A : Around} {R : Result → Shared → Prop} {s : Shared} {a : Addr} {oa : Obj} {x : Value} {l : List Value} {na base : Nat} {ns : List Nat} (ha : s.heap.get? a = some oa) (hda : oa.data = .seq (x :: l).toArray na) (hu : A.units + (k + 1) < cLine)
    (hk0 : ∀ b o, h₀.get? b = some o → s.heap.get? b = some o) (hlen : ns.length = (x :: l).toArray.size) (hT : ∀ (i : Nat) (y : Value), (x :: l).toArray[i]? = some y → ∃ n, ns[i]? = some n ∧ Shows prog w h₀ k n y) (hsz : base + cst ns + 5 ≤ sizeLine)
    (hR : ∀ (t : Str) h' u tk, t.length ≤ cst ns + 5 → (∀ b o, s.heap.get? b = some o → h'.get? b = some o) → R (.ok (.ret (.str t u))) { s with heap := h', toks := tk }) :
    wpAny (model prog w) A.in1 (Builtin.listReprAt base ⟨[.ref a], []⟩) (fun fin s' => match fin with | .done f => R (.ok f) s' | .again c' => c'.quiet = true ∧ codeAny (model prog w) A c' R s') (fun e s' => R (.error e) s') s := by
  have hPf : h₀.get? s.heap.objs.size = none := by
    cases e : h₀.get? s.heap.objs.size with
    | none => rfl
    | some o => exact absurd (Heap.lt_size (hk0 _ _ e)) (Nat.lt_irrefl _)
  have main : wpAny (model prog w) A.in1 (do again (.builtin "list.__repr__.loop" ⟨[.ref a, rawInt 0, ← newList [], rawInt base], []⟩)) (fun fin s' => match fin with | .done f => R (.ok f) s' | .again c' => c'.quiet = true ∧ codeAny (model prog w) A c' R s') (fun e s' => R (.error e) s') s := by
    refine wpAny_bind (m := newList []) (wpAny_newObj_type ?_)
    refine wpAny_pure ⟨F.quiet_list_repr_loop _, ?_⟩
    exact loop_any (P := s.heap.objs.size) (done := []) (Nat.ne_of_lt (Heap.lt_size ha)) hu hPf hlen hT (by omega) _ 0 _ oa na #[] _ rfl (Nat.zero_le _) (fun b o e => Heap.get?_push_of_some _ (hk0 _ _ e)) (Heap.get?_push_of_some _ ha) hda (Heap.get?_push_size _ rfl) rfl rfl (Nat.zero_le _)
      fun t h' u tk ht hk => hR t h' u tk (by omega) fun b o e => hk b o (Nat.ne_of_lt (Heap.lt_size e)) (Heap.get?_push_of_some _ e)
  intro Γ p hΓ
  have h1 := main Γ p hΓ
  unfold Builtin.listReprAt
  simp [slotArgs, Builtin.List.listItems, seqItems?, Sem.wp_load_of (h := ha), hda, stack]
  show Sem.wp _ Γ (if (Γ.below.any _) = true then _ else _) _ _ p s
  split
  · have h2 : wpAny (model prog w) A.in1 (do rule "list.__repr__.in-itself"; retStr "[...]") (fun fin s' => match fin with | .done f => R (.ok f) s' | .again c' => c'.quiet = true ∧ codeAny (model prog w) A c' R s') (fun e s' => R (.error e) s') s := by
      refine wpAny_bind (wpAny_rule ?_)
      refine wpAny_bind (wpAny_mkStr (wpAny_pure ?_) (by decide +kernel))
      have d := dots3
      exact hR _ s.heap _ _ (by omega) fun _ _ e => e
    exact h2 Γ p hΓ
  · exact h1
/-- a list's object in the heap that was read -/
structure LstAt (h : Heap) (a : Addr) (xs : List Value) : Prop where
  ex : ∃ (o : Obj) (n : Nat), h.get? a = some o ∧ o.cls = .type "list" ∧ o.data = .seq xs.toArray n
structure TupAt (h : Heap) (a : Addr) (xs : List Value) : Prop where
  ex : ∃ (o : Obj) (n : Nat), h.get? a = some o ∧ o.cls = .type "tuple" ∧ o.data = .seq xs.toArray n
/-- the members and what each may come to -/
def Each (prog : Program) (w : World) (h₀ : Heap) (k : Nat) : List Value → List Nat → Prop := Paired fun x n => Shows prog w h₀ k n x
theorem Each.get : ∀ {xs : List Value} {ns : List Nat}, Each prog w h₀ k xs ns → ∀ (i : Nat) (y : Value), xs[i]? = some y → ∃ n, ns[i]? = some n ∧ Shows prog w h₀ k n y
  | _, _, .nil, i, y, e => by simp at e
  | _, _, .cons (b := n) h _, 0, y, e => ⟨n, rfl, (Option.some.inj e) ▸ h⟩
  | _, _, .cons _ t, i + 1, y, e => by
    obtain ⟨n, h1, h2⟩ := Each.get t i y (by simpa using e)
    exact ⟨n, by simpa using h1, h2⟩
theorem Each.len {xs : List Value} {ns : List Nat} (h : Each prog w h₀ k xs ns) : ns.length = xs.length := (Paired.length h).symm
theorem list_top {A : Around} {E : Value → Shared → Prop} {s : Shared} {Q : Value → Shared → Prop} {a : Addr} {xs : List Value} {ns : List Nat} (ha : LstAt h₀ a xs) (hT : Each prog w h₀ k xs ns) (hu : A.units + (k + 1) < cLine) (hk0 : ∀ b o, h₀.get? b = some o → s.heap.get? b = some o) (hsz : cst ns + 5 ≤ sizeLine)
    (hQ : ∀ (t : Str) h' u tk, t.length ≤ cst ns + 5 → (∀ b o, s.heap.get? b = some o → h'.get? b = some o) → Q (.str t u) { s with heap := h', toks := tk }) : wpAny (model prog w) A (pyReprObj (.ref a)) Q E s := by
  obtain ⟨o, n, ho, hc, hd⟩ := ha.ex
  have hTy : s.TypeIs (.ref a) "list" := ⟨o, hk0 _ _ ho, hc⟩
  cases xs with
  | nil => exact wpAny_pyReprObj_list_empty hTy (by omega) (hk0 _ _ ho) hd (hQ _ s.heap _ _ (Nat.le_trans (by decide +kernel : ("[]" : Str).length ≤ 5) (Nat.le_add_left _ _)) fun _ _ e => e)
  | cons x l =>
    unfold pyReprObj
    refine wpAny_bind (wpAny_cRoomFor (by omega) ?_)
    refine wpAny_bind (wpAny_specialOf (name := Str.ofString "__repr__") hTy F.slot_list_repr.lookup ?_)
    refine wpAny_bind (m := callSpecialIfBound? (.ref a) (Str.ofString "__repr__")) (wpAny_callSpecialIfBound?_slot (name := Str.ofString "__repr__") hTy F.slot_list_repr ?_)
    refine wpAny_call (codeAny_call_builtin F.slot_list_repr.plain F.entry_list_repr (F.slot_list_repr.check _ _ _ _ _ _ _ _ hTy (F.args_list_repr_1 _) ?_))
    refine list_at (k := k) (h₀ := h₀) (ns := ns) (R := callEnd _ _) (base := 0) (hk0 _ _ ho) hd hu hk0 (by rw [hT.len]; simp) (fun i y e => hT.get i y (by simpa using e)) (by omega) fun t h' u tk ht hk => ?_
    exact wpAny_bind (wpAny_isInstance (T := "str") (b := true) rfl isSubtype_str_str (wpAny_pure (hQ t h' u tk ht hk)))
theorem Shows.list {a : Addr} {xs : List Value} {ns : List Nat} (ha : LstAt h₀ a xs) (hT : Each prog w h₀ k xs ns) : Shows prog w h₀ (k + 1) (cst ns + 5) (.ref a) := by
  obtain ⟨o, n, ho, hc, hd⟩ := ha.ex
  intro b hb A E s Q hu hk0 hQ
  refine wpAny_pyReprUnder_ref (by omega) ?_
  cases xs with
  | nil => exact wpAny_pyReprObjUnder_list_empty ⟨o, hk0 _ _ ho, hc⟩ (by omega) (hk0 _ _ ho) hd ⟨_, _, rfl, hQ _ s.heap _ (Nat.le_trans (by decide +kernel : ("[]" : Str).length ≤ 5) (Nat.le_add_left _ _)) fun _ _ e => e⟩
  | cons x l =>
    refine wpAny_pyReprObjUnder_twin (twin := "list.__repr__.under") ⟨o, hk0 _ _ ho, hc⟩ F.slot_list_repr.toG rfl (by omega) ?_
    refine call_twin_plain F.plain_list_repr_under F.entry_list_repr_under F.check_list_repr_under ⟨o, hk0 _ _ ho, hc⟩ F.slot_list_repr.toG (F.args_list_repr_1 _) ?_
    refine list_at (k := k) (h₀ := h₀) (ns := ns) (R := callEnd _ _) (hk0 _ _ ho) hd hu hk0 (by rw [hT.len]; simp) (fun i y e => hT.get i y (by simpa using e)) (by omega) fun t h' u tk ht hk => ?_
    exact ⟨⟨_, _, rfl⟩, _, _, rfl, hQ t h' tk ht hk⟩
/-- the fold over a tuple's members -/
theorem fold_any {A : Around} {E : Value → Shared → Prop} (hu : A.units + k < cLine) : ∀ (l : List Value) (ns : List Nat) (acc : Array Str) (n : Nat) (s : Shared) (Q : (Array Str × Nat) → Shared → Prop), Each prog w h₀ k l ns → n + cst ns ≤ sizeLine → (∀ b o, h₀.get? b = some o → s.heap.get? b = some o) →
    (∀ (ts : List Str) h' tk, ts.length = l.length → piled ts ≤ cst ns → (∀ b o, s.heap.get? b = some o → h'.get? b = some o) → Q ⟨acc ++ ts.toArray, n + piled ts⟩ { s with heap := h', toks := tk }) → wpAny (model prog w) A (forIn l (⟨acc, n⟩ : (Array Str × Nat)) tupBody) Q E s := by
  intro l
  induction l with
  | nil =>
    intro ns acc n s Q hT hn _ h
    have h0 := h [] s.heap s.toks rfl (Nat.zero_le _) fun _ _ e => e
    simp only [List.forIn_nil]
    exact wpAny_pure (by simpa [piled] using h0)
  | cons x l ih =>
    intro ns acc n s Q hT hn hk0 h
    cases hT with
    | @cons _ c _ cs hx hl =>
      rw [cst_cons] at hn
      rw [List.forIn_cons]
      refine wpAny_bind (wpAny_bind (hx (n + 1) (by omega) _ _ _ _ hu hk0 fun t h' tk ht hkp => wpAny_pure ?_))
      refine ih cs (acc.push t) (n + (t.length + 2)) _ Q hl (by omega) (fun b o e => hkp _ _ (hk0 _ _ e)) fun ts h'' tk' hl' hp' hk2 => ?_
      have e : n + piled (t :: ts) = n + (t.length + 2) + piled ts := by rw [piled_cons]; omega
      have h1 := h (t :: ts) h'' tk' (by simp [hl']) (by rw [piled_cons, cst_cons]; omega) fun b o e => hk2 _ _ (hkp _ _ e)
      rw [e] at h1
      simpa using h1
theorem tupleText_le (ts : List Str) : (tupleText ts).length ≤ piled ts + 2 := fmt_text ts
theorem tup_rest {A : Around} {E : Value → Shared → Prop} {s : Shared} {Q : Fin → Shared → Prop} {a : Addr} {xs : List Value} {ns : List Nat} {base : Nat} (ha : TupAt h₀ a xs) (hT : Each prog w h₀ k xs ns) (hu : A.units + k < cLine) (hk0 : ∀ b o, h₀.get? b = some o → s.heap.get? b = some o) (hsz : base + cst ns + 5 ≤ sizeLine)
    (hQ : ∀ (t : Str) h' u tk, t.length ≤ cst ns + 5 → (∀ b o, s.heap.get? b = some o → h'.get? b = some o) → Q (.done (.ret (.str t u))) { s with heap := h', toks := tk }) : wpAny (model prog w) A (Builtin.tupleReprAt base ⟨[.ref a], []⟩) Q E s := by
  obtain ⟨o, n, ho, hc, hd⟩ := ha.ex
  rw [tuple_repr_tree]
  refine wpAny_bind (fmt_underWay fun c => ?_)
  cases c with
  | true =>
    refine PySem.W.KFB.if_so rfl ?_
    refine wpAny_bind (wpAny_rule ?_)
    refine wpAny_bind (wpAny_mkStr (wpAny_pure ?_) (by decide +kernel))
    exact hQ "(...)" s.heap _ _ (Nat.le_trans fmt_way (Nat.le_add_left _ _)) fun _ _ e => e
  | false =>
    refine PySem.W.KFB.if_not rfl ?_
    unfold tupleReprRest Builtin.Tuple.tupleItemsOf
    refine wpAny_bind (wpAny_bind (wpAny_seqItems (hk0 _ _ ho) hd (wpAny_pure ?_)))
    rw [← Array.forIn_toList]
    refine wpAny_bind (fold_any hu _ ns _ _ _ _ (by simpa using hT) (by omega) hk0 fun ts h' tk hl hp hkp => ?_)
    have ht := tupleText_le ts
    have hl2 : ts.length = xs.toArray.size := by simpa using hl
    have hz : (tupleText ts).length ≤ sizeLine := by omega
    refine wpAny_bind (wpAny_mkStr (wpAny_pure ?_) (by simpa [tupleText, hl2] using hz))
    have h1 := hQ (tupleText ts) h' tk (tk + 1) (by omega) hkp
    simpa [tupleText, hl2] using h1
theorem tup_top {A : Around} {E : Value → Shared → Prop} {s : Shared} {Q : Value → Shared → Prop} {a : Addr} {xs : List Value} {ns : List Nat} (ha : TupAt h₀ a xs) (hT : Each prog w h₀ k xs ns) (hu : A.units + (k + 1) < cLine) (hk0 : ∀ b o, h₀.get? b = some o → s.heap.get? b = some o) (hsz : cst ns + 5 ≤ sizeLine)
    (hQ : ∀ (t : Str) h' u tk, t.length ≤ cst ns + 5 → (∀ b o, s.heap.get? b = some o → h'.get? b = some o) → Q (.str t u) { s with heap := h', toks := tk }) : wpAny (model prog w) A (pyReprObj (.ref a)) Q E s := by
  obtain ⟨o, n, ho, hc, hd⟩ := id ha.ex
  have hTy : s.TypeIs (.ref a) "tuple" := ⟨o, hk0 _ _ ho, hc⟩
  unfold pyReprObj
  refine wpAny_bind (wpAny_cRoomFor (by omega) ?_)
  refine wpAny_bind (wpAny_specialOf (name := Str.ofString "__repr__") hTy F.slot_tuple_repr.lookup ?_)
  refine wpAny_bind (m := callSpecialIfBound? (.ref a) (Str.ofString "__repr__")) (wpAny_callSpecialIfBound?_slotG (name := Str.ofString "__repr__") hTy F.slot_tuple_repr ?_)
  refine wpAny_call (codeAny_call_builtin_own (Code.quiet_builtin _ (by decide +kernel)) F.entry_tuple_repr (F.slot_tuple_repr.check _ _ _ _ _ _ _ _ hTy (F.args_tuple_repr_1 _) (wpOwn_of_wpAny ?_)))
  refine tup_rest (base := 0) ha hT (by rw [units_under_tuple_repr]; omega) hk0 (by omega) fun t h' u tk ht hk => ?_
  exact wpAny_bind (wpAny_isInstance (T := "str") (b := true) rfl isSubtype_str_str (wpAny_pure (hQ t h' u tk ht hk)))
theorem Shows.tup {a : Addr} {xs : List Value} {ns : List Nat} (ha : TupAt h₀ a xs) (hT : Each prog w h₀ k xs ns) : Shows prog w h₀ (k + 1) (cst ns + 5) (.ref a) := by
  obtain ⟨o, n, ho, hc, hd⟩ := id ha.ex
  intro b hb A E s Q hu hk0 hQ
  refine wpAny_pyReprUnder_ref (by omega) ?_
  refine wpAny_pyReprObjUnder_twin (twin := "tuple.__repr__.under") ⟨o, hk0 _ _ ho, hc⟩ F.slot_tuple_repr rfl (by omega) ?_
  refine call_twin_own (F.quiet_tuple_repr_under _) F.entry_tuple_repr_under F.check_tuple_repr_under ⟨o, hk0 _ _ ho, hc⟩ F.slot_tuple_repr (F.args_tuple_repr_1 _) (wpOwn_of_wpAny ?_)
  refine tup_rest ha hT (by rw [units_under_tuple_repr_under]; omega) hk0 (by omega) fun t h' u tk ht hk => ?_
  exact ⟨⟨_, _, rfl⟩, _, _, rfl, hQ t h' tk ht hk⟩
end
end Kr

namespace Kr
open PySem PySem.Spec PyProof.Rows L2
mutual
def costD : PyData → Nat
  | .str x => 10 * x.length + 2
  | .list ds => costAll ds + 5
  | .tuple ds => costAll ds + 5
  | _ => 0
def costAll : List PyData → Nat
  | [] => 0
  | d :: ds => costD d + 2 + costAll ds
end
mutual
def okD : PyData → Bool
  | .str x => x.cps.toList.all fun c => decide (c < 1114112)
  | .list ds => okAll ds
  | .tuple ds => okAll ds
  | _ => false
def okAll : List PyData → Bool
  | [] => true
  | d :: ds => okD d && okAll ds
end
theorem repr_le {x : Str} (h : okD (.str x) = true) : (reprText x).length ≤ 10 * x.length + 2 := StrLaws.reprText_len x fun c hc => by
  have h' : x.cps.toList.all (fun c => decide (c < 1114112)) = true := by simpa only [okD] using h
  exact Nat.lt_trans (of_decide_eq_true (List.all_eq_true.mp h' c hc)) (by decide)
section
variable {X : Cx} {pins : List (Addr × Obj)} {σ : L2.St} {H : Hp} {s : Shared} {prog : Program} {w : World}
mutual
theorem shows_of (I : Inv X pins σ H s) : ∀ (d : PyData) (v : V) (u : Value), Dp X.K H v d → RelV v u → okD d = true → costD d ≤ sizeLine → Shows prog w s.heap d.depth (costD d) u
  | .str x, _, _, h, r, ok, hz => by
    cases h
    obtain ⟨t, rfl⟩ := r
    have h1 := repr_le ok
    have e : costD (.str x) = 10 * x.length + 2 := by simp only [costD]
    rw [e] at hz ⊢
    exact (Shows.str x t (by omega)).le h1
  | .list ds, _, _, h, r, ok, hz => by
    cases h with
    | lst hs ha =>
      cases r
      obtain ⟨its, rv, ⟨o, n, ho, hc, _, hd⟩, _⟩ := I.list hs
      have e : costD (.list ds) = costAll ds + 5 := by simp only [costD]
      rw [e] at hz ⊢
      obtain ⟨ns, en, hT⟩ := shows_all I ds _ its ha rv (by simpa only [okD] using ok) (by omega)
      rw [← en]
      exact Shows.list ⟨o, n, ho, hc, hd⟩ hT
  | .tuple ds, _, _, h, r, ok, hz => by
    cases h with
    | tup hs ha =>
      cases r
      obtain ⟨its, rv, ⟨o, ho, hc, n, hd⟩, _⟩ := I.tuple hs
      have e : costD (.tuple ds) = costAll ds + 5 := by simp only [costD]
      rw [e] at hz ⊢
      obtain ⟨ns, en, hT⟩ := shows_all I ds _ its ha rv (by simpa only [okD] using ok) (by omega)
      rw [← en]
      exact Shows.tup ⟨o, n, ho, hc, hd⟩ hT
  | .none, _, _, _, _, ok, _ => by simp [okD] at ok
  | .bool _, _, _, _, _, ok, _ => by simp [okD] at ok
  | .int _, _, _, _, _, ok, _ => by simp [okD] at ok
  | .dict _, _, _, _, _, ok, _ => by simp [okD] at ok
theorem shows_all (I : Inv X pins σ H s) : ∀ (ds : List PyData) (vs : List V) (us : List Value), DpAll X.K H vs ds → Vals vs us → okAll ds = true → costAll ds ≤ sizeLine → ∃ ns, cst ns = costAll ds ∧ Each prog w s.heap (PyData.depthAll ds) us ns
  | [], _, _, h, r, _, _ => by
    cases h
    cases r
    exact ⟨[], by simp [cst, costAll], .nil⟩
  | d :: ds, _, _, h, r, ok, hz => by
    cases h with
    | cons h1 h2 =>
      cases r with
      | cons r1 r2 =>
        have e : costAll (d :: ds) = costD d + 2 + costAll ds := by simp only [costAll]
        have o2 : (okD d && okAll ds) = true := by simpa only [okAll] using ok
        obtain ⟨oa, ob⟩ := Bool.and_eq_true_iff.mp o2
        have q1 := shows_of I d _ _ h1 r1 oa (by omega)
        obtain ⟨ns, en, q2⟩ := shows_all I ds _ _ h2 r2 ob (by omega)
        have hm : PyData.depthAll (d :: ds) = max d.depth (PyData.depthAll ds) := by simp only [PyData.depthAll]
        refine ⟨costD d :: ns, by rw [cst_cons, en, e], ?_⟩
        rw [hm]
        exact .cons (q1.unit (Nat.le_max_left _ _)) (Paired.mono (fun _ _ z => z.unit (Nat.le_max_right _ _)) q2)
end
end
/-- {x!r}: some text -/
def tFmtD (K : PySem.W.Frag) (te : TE) : TE := fun σ H Q => te σ H fun x H1 => ∃ d, Dp K H1 x d ∧ okD d = true ∧ costD d ≤ 1000000 ∧ d.depth ≤ 20 ∧ ∀ m : Str, m.length ≤ costD d → Q (.str m) H1
section
variable {X : Cx}
theorem pe_fmtD {e : Expr} {te : TE} {pos : Pos} {k : Nat} (hr : Room k X.A) (he : PE X e te) : PE X (.FormattedValue e 114 none pos) (tFmtD X.K te) := by
  refine ⟨fun pins s σ H Q I h => ?_⟩
  refine wpAny_FormattedValue_repr (thn (he.run pins s σ H _ I h) fun v s1 hv => ?_)
  obtain ⟨x, H1, I1, r1, d, hd, ok, hz, hdp, q⟩ := hv
  have hu := hr.units
  have hz' : costD d ≤ sizeLine := Nat.le_trans hz (by decide)
  have fin : ∀ (t : Str) (h' : Heap) (u tk : Nat), t.length ≤ costD d → (∀ b o, s1.heap.get? b = some o → h'.get? b = some o) → wpAny (model X.prog X.w) X.A (formatField (.str t u) Str.empty) (EP X pins σ Q) X.xe { s1 with heap := h', toks := tk } := fun t h' u tk ht hk =>
    wpAny_formatField_str ⟨.str t, H1, (I1.kept (t' := tk) hk).tok _, ⟨_, rfl⟩, q t ht⟩ ⟨.str t, H1, (I1.kept (t' := tk) hk).tok _, ⟨_, rfl⟩, q t ht⟩ (by omega)
  cases hd with
  | str y =>
    obtain ⟨t, rfl⟩ := r1
    have h1 := repr_le ok
    have e : costD (.str y) = 10 * y.length + 2 := by simp only [costD]
    exact pyReprObj_str (fin _ s1.heap _ _ (by omega) fun _ _ z => z) (by omega)
  | @lst a xs ds hs ha =>
    cases r1
    obtain ⟨its, rv, ⟨o, n, ho, hc, _, hdt⟩, _⟩ := I1.list hs
    have e : costD (.list ds) = costAll ds + 5 := by simp only [costD]
    obtain ⟨ns, en, hT⟩ := shows_all (prog := X.prog) (w := X.w) I1 ds _ its ha rv (by simpa only [okD] using ok) (by omega)
    have hdp' : PyData.depthAll ds + 1 ≤ 20 := by simpa only [PyData.depth] using hdp
    exact list_top ⟨o, n, ho, hc, hdt⟩ hT (by omega) (fun _ _ z => z) (by omega) fun t h' u tk ht hk => fin t h' u tk (by omega) hk
  | @tup a xs ds hs ha =>
    cases r1
    obtain ⟨its, rv, ⟨o, ho, hc, n, hdt⟩, _⟩ := I1.tuple hs
    have e : costD (.tuple ds) = costAll ds + 5 := by simp only [costD]
    obtain ⟨ns, en, hT⟩ := shows_all (prog := X.prog) (w := X.w) I1 ds _ its ha rv (by simpa only [okD] using ok) (by omega)
    have hdp' : PyData.depthAll ds + 1 ≤ 20 := by simpa only [PyData.depth] using hdp
    exact tup_top ⟨o, n, ho, hc, hdt⟩ hT (by omega) (fun _ _ z => z) (by omega) fun t h' u tk ht hk => fin t h' u tk (by omega) hk
  | non => simp [okD] at ok
  | bl b => simp [okD] at ok
  | int i => simp [okD] at ok
end
end Kr

/-! An own error as a value: made, asked for its class, its fields read. Texts times numbers. -/
namespace Ke
open PySem PySem.Spec PyProof.Rows L2 Kx Kr
theorem Same.tupS {K : PySem.W.Frag} {H H' : Hp} {a : Addr} {xs : List V} (e : Same H H') (h : SqT K H a xs) : SqT K H' a xs := by
  rcases h with (h | ⟨o, h⟩) | h
  · exact .inl (.inl (e _ _ h))
  · exact .inl (.inr ⟨o, e _ _ h⟩)
  · exact .inr h
mutual
theorem dp_same {K : PySem.W.Frag} {H H' : Hp} (e : Same H H') : ∀ (d : PyData) (v : V), Dp K H v d → Dp K H' v d
  | .none, _, h => by cases h; exact .non
  | .bool b, _, h => by cases h; exact .bl b
  | .int i, _, h => by cases h; exact .int i
  | .str x, _, h => by cases h; exact .str x
  | .list ds, _, h => by
    cases h with
    | lst hs ha => exact .lst (e.seq hs) (dpAll_same e ds _ ha)
  | .tuple ds, _, h => by
    cases h with
    | tup hs ha => exact .tup (Same.tupS e hs) (dpAll_same e ds _ ha)
  | .dict _, _, h => by cases h
theorem dpAll_same {K : PySem.W.Frag} {H H' : Hp} (e : Same H H') : ∀ (ds : List PyData) (vs : List V), DpAll K H vs ds → DpAll K H' vs ds
  | [], _, h => by cases h; exact .nil
  | d :: ds, _, h => by
    cases h with
    | cons h1 h2 => exact .cons (dp_same e d _ h1) (dpAll_same e ds _ h2)
end
mutual
theorem eqv_self : ∀ d : PyData, okD d = true → PyData.eqv d d = true
  | .str x, _ => by simp [PyData.eqv]
  | .list ds, h => by
    have h' : okAll ds = true := by simpa only [okD] using h
    have := eqvAll_self ds h'
    simpa [PyData.eqv] using this
  | .tuple ds, h => by
    have h' : okAll ds = true := by simpa only [okD] using h
    have := eqvAll_self ds h'
    simpa [PyData.eqv] using this
  | .none, h => by simp [okD] at h
  | .bool _, h => by simp [okD] at h
  | .int _, h => by simp [okD] at h
  | .dict _, h => by simp [okD] at h
theorem eqvAll_self : ∀ ds : List PyData, okAll ds = true → PyData.eqvAll ds ds = true
  | [], _ => by simp [PyData.eqvAll]
  | d :: ds, h => by
    have h' : (okD d && okAll ds) = true := by simpa only [okAll] using h
    obtain ⟨h1, h2⟩ := Bool.and_eq_true_iff.mp h'
    have e1 := eqv_self d h1
    have e2 := eqvAll_self ds h2
    simp [PyData.eqvAll, e1, e2]
end
/-! ### an error as a value -/
/-- an error of the class at C stands at a; its fields (at least) g -/
def ErrAt (C : Addr) (H : Hp) (a : Addr) (g : List (Str × V)) : Prop := (g = [] ∧ H a = some (exo a C none)) ∨ ∃ (d : Addr) (fs : List (Str × V)), H a = some (exo a C (some d)) ∧ H d = some (exd d fs) ∧ ∀ f v, g.lookup f = some v → fs.lookup f = some v
theorem ErrAt.same {C a : Addr} {H H' : Hp} {g : List (Str × V)} (h : ErrAt C H a g) (s : Same H H') : ErrAt C H' a g := by
  rcases h with ⟨e, h⟩ | ⟨d, fs, h1, h2, h3⟩
  · exact .inl ⟨e, s _ _ h⟩
  · exact .inr ⟨d, fs, s _ _ h1, s _ _ h2, h3⟩
/-- C.__init__ -/
def spErr (C : Addr) (cond : List V → Hp → Prop) (g : List V → List (Str × V)) : Sp := fun vs H Q _ => ∃ (a : Addr) (xs : List V), vs = .ref a :: xs ∧ cond xs H ∧ H a = some (exo a C none) ∧
  ∀ H', (∀ b o, H b = some o → b ≠ a → H' b = some o) → ErrAt C H' a (g xs) → Q .non H'
structure MkE (P : Program) (w : World) (K : PySem.W.Frag) (mg : Str → Option Value) (base : Heap) (x : Str) (C : Addr) (k : Nat) (ps : List Str) (cond : List V → Hp → Prop) (g : List V → List (Str × V)) : Prop where
  ex : ∃ (fI : Addr) (fd : FuncData), PySem.W.findIn K (.ref C) "__init__" = some (some (.ref fI)) ∧ PySem.W.typeIn K (.ref fI) = some (.type "function") ∧ FnOk P w K mg base CX0 k fI fd ps (spErr C cond g) ∧ Binds K fd ps []
  T : OexC K C
  g_ : mg x = some (.ref C)
section
variable {X : Cx} {x : Str} {C : Addr} {k : Nat} {ps : List Str} {cond : List V → Hp → Prop} {g : List V → List (Str × V)} {e : Expr} {es : List Expr} {ta : TA} {p pos : Pos}
theorem err_run {pins : List (Addr × Obj)} {σ : L2.St} {H1 : Hp} {s1 : Shared} {Q : VK} {vs : List V} {us : List Value} (M : MkE X.prog X.w X.K X.mg X.base x C k ps cond g) (hr : Room (k + 1) X.A) (I1 : Inv X pins σ H1 s1) (r1 : Vals vs us)
    (hz : vs.length ≤ 1000) (hc : ∀ H', Same H1 H' → cond vs H') (q : ∀ a H2, Same H1 H2 → ErrAt C H2 a (g vs) → Q (.ref a) H2) : wpAny (model X.prog X.w) X.A (call (.ref C) us) (EP X pins σ Q) X.xe s1 := by
  obtain ⟨fI, fd, iC, tI, F1, hb⟩ := M.ex
  obtain ⟨nm, qn, N, bs, bm, sn, sub, ab, col, dd, k0, k1, k2, k3, k5, hC, hbm⟩ := M.T.cls
  obtain ⟨hp, gs, dr, tk, os⟩ := s1
  have hsz : hp.objs.size ≤ hp.objs.size + 1 := Nat.le_succ _
  have hn : H1 (hp.objs.size + 1) = none := I1.hok.fresh hsz
  have kk : ∀ b o, hp.get? b = some o → ((hp.push (PySem.W.kdv_tup us)).push (PySem.HandSPX.excO C hp.objs.size)).get? b = some o := fun b o e => Heap.get?_push_of_some _ (Heap.get?_push_of_some _ e)
  have hget : ((hp.push (PySem.W.kdv_tup us)).push (PySem.HandSPX.excO C hp.objs.size)).get? (hp.objs.size + 1) = some (PySem.HandSPX.excO C hp.objs.size) := by heap_get
  have I2 : Inv X pins σ (upd H1 (hp.objs.size + 1) (exo (hp.objs.size + 1) C none)) ⟨(hp.push (PySem.W.kdv_tup us)).push (PySem.HandSPX.excO C hp.objs.size), gs, dr, tk, os⟩ :=
    I1.laid (t' := tk) (a := hp.objs.size + 1) (o := exo (hp.objs.size + 1) C none) (h' := (hp.push (PySem.W.kdv_tup us)).push (PySem.HandSPX.excO C hp.objs.size)) kk hsz (exo_ok hget)
  have hq : spErr C cond g (.ref (hp.objs.size + 1) :: vs) (upd H1 (hp.objs.size + 1) (exo (hp.objs.size + 1) C none)) (fun v H2 => v = .non ∧ Q (.ref (hp.objs.size + 1)) H2) (fun _ _ _ => False) :=
    ⟨_, vs, rfl, hc _ (same_upd hn), upd_same, fun H' hk he => ⟨rfl, q _ H' (fun b o hb => hk b o (by rw [upd_ne (ne_of_none hb hn)]; exact hb) (ne_of_none hb hn)) he⟩⟩
  have r2 : Vals (V.ref (hp.objs.size + 1) :: vs) (Value.ref (hp.objs.size + 1) :: us) := .cons rfl r1
  have hl : (Value.ref (hp.objs.size + 1) :: us ++ []).length = ps.length := by
    rw [List.append_nil]
    have e := r2.length
    rw [F1.len _ _ _ _ hq] at e
    exact e.symm
  have bind := hb _ (Value.ref (hp.objs.size + 1) :: us) I2.kIn hl
  rw [List.append_nil] at bind
  have hus : us.length ≤ sizeLine := by
    rw [← Paired.length r1, sizeLine_eq]
    omega
  refine wpAny_call (PySem.HandSPX.call_own F.excBase_ValueError (fun Y => PySem.HandSPX.refsVE_contains Y bm hbm) (I1.kIn _ _ hC) (PySem.W.looks_findIn I1.kIn iC) (fun self => PySem.W.bind_fn I1.kIn self tI) hus
    (codeAny_mono (F1.run _ X.stack _ _ ⟨Value.ref (hp.objs.size + 1) :: us, []⟩ (Value.ref (hp.objs.size + 1) :: us) _ _ (fun _ _ _ => False) (hr.make C us []) (I2.env0.make C us []) bind r2 hq) fun r s' hq' => ?_))
  cases r with
  | error er => exact pass0 pins σ _ _ er s' I2 hq'
  | ok fl =>
    cases fl with
    | ret u =>
      obtain ⟨v, H', J', rv, ev, q3⟩ := I2.after hq'
      subst ev
      exact ⟨rv, ⟨V.ref (hp.objs.size + 1), H', J', rfl, q3⟩⟩
    | next => exact False.elim hq'
    | brk => exact False.elim hq'
    | cont => exact False.elim hq'
def tErr (C : Addr) (cond : List V → Hp → Prop) (g : List V → List (Str × V)) (ta : TA) : TE := fun σ H Q => ta σ H fun vs H1 => vs.length ≤ 1000 ∧ (∀ H', Same H1 H' → cond vs H') ∧ ∀ a H2, Same H1 H2 → ErrAt C H2 a (g vs) → Q (.ref a) H2
theorem pe_err (M : MkE X.prog X.w X.K X.mg X.base x C k ps cond g) (hr : Room (k + 1) X.A) (hg : Gl X x) (ha : PA X (e :: es) ta) (hdb : (x == ("__debug__" : Str)) = false := by decide)
    (he : starEach (e :: es) X.env = (false, eval e X.env) :: starEach es X.env := by rfl) (hpl : (backTo pos (starEach es X.env)).any (·.1) = false := by rfl) : PE X (.Call (.Name x p) (e :: es) [] pos) (tErr C cond g ta) := by
  refine ⟨fun pins s σ H Q I h => ?_⟩
  refine wpAny_Call_Name_kw (ld_glob I hg M.g_ ?_ hdb)
  refine PySem.W.callWith_K (h₀ := X.base) I.ok.mod.kin M.T.kC (thn (ha.run pos pins s σ H _ I h) fun us s1 ⟨vs, H1, I1, r1, hz, hc, q⟩ => ⟨I1.kIn, ?_⟩) he hpl
  exact err_run M hr I1 r1 hz hc q
theorem pe_err0 (M : MkE X.prog X.w X.K X.mg X.base x C k ps cond g) (hr : Room (k + 1) X.A) (hg : Gl X x) (hdb : (x == ("__debug__" : Str)) = false := by decide) : PE X (.Call (.Name x p) [] [] pos) (tErr C cond g tNil) := by
  refine ⟨fun pins s σ H Q I h => ?_⟩
  refine wpAny_Call_Name_kw (ld_glob I hg M.g_ ?_ hdb)
  obtain ⟨hz, hc, q⟩ := h
  exact PySem.W.callWith_K0 I.kIn M.T.kC (err_run M hr I .nil hz hc q)
/-- isinstance(e, c), e an error of the class at C -/
def rIsO (K : PySem.W.Frag) (C : Addr) : List V → Hp → VK → Prop := fun xs H Q => ∃ (a : Addr) (g : List (Str × V)) (c : V) (cv : Value) (b : Bool), xs = [.ref a, c] ∧ ErrAt C H a g ∧ (∀ u, RelV c u → u = cv) ∧ PySem.W.kitOne K (.ref C) cv = some b ∧ Q (.bl b) H
theorem err_inst {C a : Addr} {H : Hp} {g : List (Str × V)} {pins : List (Addr × Obj)} {σ : L2.St} {s : Shared} (I : Inv X pins σ H s) (h : ErrAt C H a g) : ∃ oe od, PySem.W.InstAt s.heap a oe C od ∧ ∃ vs, oe.data = .fields vs := by
  rcases h with ⟨_, h⟩ | ⟨d, fs, h1, h2, _⟩
  · obtain ⟨t1, ho⟩ := exo_at I.hok h
    exact ⟨_, none, ⟨ho, rfl, rfl, trivial⟩, _, rfl⟩
  · obtain ⟨t1, ho⟩ := exo_at I.hok h1
    obtain ⟨mA, hns, rel⟩ := exd_at I.hok h2
    obtain ⟨od, hod, _⟩ := lookIn_ns hns
    exact ⟨_, some od, ⟨ho, rfl, rfl, hod⟩, _, rfl⟩
theorem call_isO (D : ExcC X.K C) : CallR X (.builtin "isinstance") (rIsO X.K C) := by
  intro pins s σ H xs us Q I r h
  obtain ⟨a, g, c, cv, b, rfl, he, hcv, e, q⟩ := h
  cases r with
  | cons rx rr =>
    cases rr with
    | cons rt rr =>
      cases rr
      cases rx
      have ec := hcv _ rt
      subst ec
      obtain ⟨oe, od, J, _⟩ := err_inst I he
      have hcl : (PySem.W.clsIn X.K C).isSome = true := by
        obtain ⟨cd, hc, _⟩ := PySem.W.any_some D.hd
        rw [hc]; rfl
      exact PySem.W.kia_one (PySem.W.kitx_exc hcl D.hg D.hk D.hs D.ha D.hn D.ht D.hm) I.kIn J e (fun z => nomatch z) fun tk => ⟨.bl b, H, I.kept (t' := tk) fun _ _ z => z, rfl, q⟩
/-- e.f -/
def tEf (K : PySem.W.Frag) (f : Str) (te : TE) : TE := fun σ H Q => te σ H fun x H1 => ∃ (a C : Addr) (g : List (Str × V)) (v : V), x = .ref a ∧ ErrAt C H1 a g ∧ XfC K C ∧ PySem.W.findIn K (.ref C) f = some none ∧ g.lookup f = some v ∧ Q v H1
theorem pe_ef {f : Str} {te : TE} (he : PE X e te) (hb : attributeBase e f X.env (eval e X.env) = eval e X.env := by rfl) : PE X (.Attribute e f pos) (tEf X.K f te) := by
  refine ⟨fun pins s σ H Q I h => ?_⟩
  refine attr_of hb (thn (he.run pins s σ H _ I h) fun u s1 hh => ?_)
  obtain ⟨x, H1, I1, rx, a, C, g, v, rfl, hE, T, hno, l, q⟩ := hh
  obtain rfl : u = Value.ref a := rx
  rcases hE with ⟨rfl, _⟩ | ⟨d, fs, h1, h2, h3⟩
  · cases l
  · obtain ⟨t1, ho⟩ := exo_at I1.hok h1
    obtain ⟨mA, hns, rel⟩ := exd_at I1.hok h2
    obtain ⟨od, hod, hl⟩ := lookIn_ns hns
    have hv := h3 f v l
    obtain ⟨u, hu, ru⟩ := RelO.some_of (v := v) (o := mA f) (by rw [← hv]; exact rel f)
    exact PySem.HandSPX.exc_get I1.kIn (od := some od) (x := a) ⟨ho, rfl, rfl, hod⟩ T.ga T.gg T.exC (PySem.W.findObj_own T.hdC hno rfl (by rw [hl, hu])) (handed_of ru) ⟨v, H1, I1.tok _, ru, q⟩
end
end Ke

namespace Ke
open PySem PySem.Spec PyProof.Rows L2 Kx Kr
/-- a text of few and plain signs -/
def Sht (z : Str) (n : Nat) : Prop := z.length ≤ n ∧ ∀ c ∈ z.cps.toList, c < 1114112
theorem Sht.le {z : Str} {n m : Nat} (h : Sht z n) (hn : n ≤ m) : Sht z m := ⟨Nat.le_trans h.1 hn, h.2⟩
theorem Sht.app {y z : Str} {n m : Nat} (h : Sht y n) (h' : Sht z m) : Sht (y ++ z) (n + m) := by
  refine ⟨?_, fun c hc => ?_⟩
  · have e : (y ++ z).length = y.length + z.length := Array.size_append
    rw [e]
    exact Nat.add_le_add h.1 h'.1
  · have hc' : c ∈ (y.cps ++ z.cps).toList := hc
    rw [Array.toList_append, List.mem_append] at hc'
    exact hc'.elim (h.2 c) (h'.2 c)
theorem Sht.sz {z : Str} {n : Nat} (h : Sht z n) (hn : n ≤ 100000) : z.length ≤ sizeLine := sz9 (Nat.le_trans h.1 hn)
theorem sht_of {z : Str} {n : Nat} (h1 : z.length ≤ n) (h2 : okD (.str z) = true) : Sht z n := by
  refine ⟨h1, fun c hc => ?_⟩
  have h' : z.cps.toList.all (fun c => decide (c < 1114112)) = true := by simpa only [okD] using h2
  exact of_decide_eq_true (List.all_eq_true.mp h' c hc)
theorem Sht.ok {z : Str} {n : Nat} (h : Sht z n) : okD (.str z) = true := by
  have h' : z.cps.toList.all (fun c => decide (c < 1114112)) = true := List.all_eq_true.mpr fun c hc => decide_eq_true (h.2 c hc)
  simpa only [okD] using h'
theorem rep_fold (x : Array Nat) : ∀ (n : Nat) (acc : Array Nat), ((List.replicate n x).foldl (· ++ ·) acc).size = acc.size + n * x.size ∧ ∀ c ∈ ((List.replicate n x).foldl (· ++ ·) acc).toList, c ∈ acc.toList ∨ c ∈ x.toList
  | 0, acc => ⟨by simp, fun c hc => .inl hc⟩
  | n + 1, acc => by
    rw [List.replicate_succ, List.foldl_cons]
    obtain ⟨h1, h2⟩ := rep_fold x n (acc ++ x)
    refine ⟨?_, fun c hc => ?_⟩
    · rw [h1, Array.size_append, Nat.succ_mul]
      omega
    · rcases h2 c hc with h | h
      · rw [Array.toList_append, List.mem_append] at h
        exact h
      · exact .inr h
/-- a text of one sign times a small number -/
def rRepS : R2 := fun x y H Q => ∃ (z : Str) (n : Int), x = .str z ∧ y = .int n ∧ z.length = 1 ∧ (∀ c ∈ z.cps.toList, c < 1114112) ∧ -1000 ≤ n ∧ n ≤ 1000 ∧ ∀ t : Str, Sht t n.toNat → Q (.str t) H
section
variable {X : Cx}
theorem op_repS : OpR X (binaryOp .Mult) rRepS := by
  intro pins s σ H x y v u Q I rx ry h
  obtain ⟨z, n, rfl, rfl, hz, hc, h1, h2, q⟩ := h
  obtain ⟨t, rfl⟩ := rx
  obtain ⟨t', rfl⟩ := ry
  have en : ((n.toNat : Nat) : Int) = n ∨ n < 0 := by omega
  refine PySem.P.mul_str (by rw [decide_eq_false (by omega), decide_eq_false (by omega)]; rfl) (fun hn _ => ?_) (fun hn _ => ?_) ?_
  · have hd : 1 ≤ (2 ^ 63 - 1 : Int) / n := by
      rw [Int.le_ediv_iff_mul_le (by omega)]
      omega
    rw [hz]
    have : ((1 : Nat) : Int) = 1 := rfl
    omega
  · rw [hz]
    exact decide_eq_false (Nat.not_lt.mpr (sz9 (by omega)))
  · by_cases hn : n < 1
    · rw [if_pos hn]
      refine ⟨by decide, .str Str.empty, H, I.tok _, ⟨_, rfl⟩, q _ ⟨Nat.zero_le _, ?_⟩⟩
      show ∀ c ∈ (Str.empty).cps.toList, c < 1114112
      decide +kernel
    · rw [if_neg hn]
      split
      · rename_i h1'
        exact ⟨.str z, H, I, ⟨t, rfl⟩, q _ ⟨by omega, hc⟩⟩
      · obtain ⟨e1, e2⟩ := rep_fold z.cps n.toNat #[]
        have hz' : z.cps.size = 1 := hz
        rw [hz'] at e1
        have e1' : ((List.replicate n.toNat z.cps).foldl (· ++ ·) #[]).size = n.toNat := by
          rw [e1]
          simp
        refine ⟨?_, .str _, H, I.tok _, ⟨_, rfl⟩, q _ ⟨Nat.le_of_eq e1', fun c hm => ?_⟩⟩
        · have hh : ((List.replicate n.toNat z.cps).foldl (· ++ ·) #[]).size ≤ sizeLine := by
            rw [e1']
            exact sz9 (by omega)
          exact hh
        · rcases e2 c hm with h | h
          · simp at h
          · exact hc c h
end
end Ke

set_option maxHeartbeats 8000000
/-! len(set(t)), t a tuple of texts. -/
namespace Ks
open PySem PySem.Spec PyProof.Rows
/-- one more text into what was met -/
def sdd (l : List Str) (v : Str) : List Str := if l.any (· == v) then l else l ++ [v]
def met (ys : List Str) : List Str := ys.foldl sdd []
theorem met_succ {ys : List Str} {i : Nat} {v : Str} (h : ys[i]? = some v) : met (ys.take (i + 1)) = sdd (met (ys.take i)) v := by
  unfold met
  rw [List.take_add_one, h, List.foldl_append]
  rfl
theorem sdd_any (l : List Str) (v k : Str) : (sdd l v).any (· == k) = (l.any (· == k) || decide (k = v)) := by
  unfold sdd
  by_cases h : l.any (· == v) = true
  · rw [if_pos h]
    by_cases e : k = v
    · rw [e, h]
      rfl
    · rw [decide_eq_false e, Bool.or_false]
  · rw [if_neg h, List.any_append]
    have : ([v].any (· == k)) = decide (k = v) := by
      by_cases e : k = v
      · rw [e]
        simp
      · have e' : ¬ v = k := fun z => e z.symm
        simp [e, e']
    rw [this]
theorem sdd_len (l : List Str) (v : Str) : (sdd l v).length = if l.any (· == v) then l.length else l.length + 1 := by
  unfold sdd
  split <;> simp
theorem met_le : ∀ (ys l : List Str), (ys.foldl sdd l).length ≤ l.length + ys.length
  | [], l => Nat.le_refl _
  | v :: ys, l => by
    have h := met_le ys (sdd l v)
    rw [sdd_len] at h
    rw [List.foldl_cons, List.length_cons]
    split at h <;> omega
theorem met_full : ∀ (ys l : List Str), (ys.foldl sdd l).length = l.length + ys.length ↔ ys.Nodup ∧ ∀ y ∈ ys, y ∉ l
  | [], l => by simp
  | v :: ys, l => by
    rw [List.foldl_cons, List.length_cons]
    by_cases h : l.any (· == v) = true
    · have hm : v ∈ l := by
        obtain ⟨y, hy, e⟩ := List.any_eq_true.mp h
        exact beq_iff_eq.mp e ▸ hy
      have e : sdd l v = l := if_pos h
      rw [e]
      have hle := met_le ys l
      constructor
      · intro z
        omega
      · intro z
        exact absurd hm (z.2 v List.mem_cons_self)
    · have hm : v ∉ l := fun z => h (List.any_eq_true.mpr ⟨v, z, beq_self_eq_true v⟩)
      have e : sdd l v = l ++ [v] := if_neg h
      have ih := met_full ys (l ++ [v])
      rw [e]
      rw [List.length_append, List.length_singleton] at ih
      constructor
      · intro z
        obtain ⟨h1, h2⟩ := ih.mp (by omega)
        refine ⟨List.nodup_cons.mpr ⟨fun hv => h2 v hv (by simp), h1⟩, fun y hy => ?_⟩
        rcases List.mem_cons.mp hy with rfl | hy
        · exact hm
        · exact fun hl => h2 y hy (by simp [hl])
      · intro ⟨h1, h2⟩
        obtain ⟨h3, h4⟩ := List.nodup_cons.mp h1
        have := ih.mpr ⟨h4, fun y hy hl => by
          rcases List.mem_append.mp hl with hl | hl
          · exact h2 y (List.mem_cons_of_mem _ hy) hl
          · exact h3 (List.mem_singleton.mp hl ▸ hy)⟩
        omega
theorem met_nodup (ys : List Str) : ((met ys).length = ys.length) ↔ ys.Nodup := by
  have h := met_full ys []
  unfold met
  rw [List.length_nil, Nat.zero_add] at h
  rw [h]
  simp
section
variable {prog : Program} {w : World} {A : Around} {E : Value → Shared → Prop} {R : Result → Shared → Prop} {I : Addr} {fp wr : List Addr} {G : Array GenState → Array GenState → Prop} {n : Nat} {P : Nat → Value → Prop} {St : Nat → Shared → Prop}
theorem txt_loop (W : WalksS prog w A.in1 I fp wr G n P St) (S : Addr) (hSf : S ∉ fp) (ys : List Str) (hy : ys.length = n) (hval : ∀ i v, P i v → ∃ (x : Str) (t : Tok), ys[i]? = some x ∧ v = .str x t) (hb : n + 1 < scanBound) :
    ∀ (m i : Nat) (s : Shared), n - i = m → i ≤ n → St i s → s.heap.SetOf (strKind prog w) S (fun z => (met (ys.take i)).any (· == z)) (met (ys.take i)).length →
      (∀ s2, Moved (S :: wr) G s s2 → s2.heap.SetOf (strKind prog w) S (fun z => (met ys).any (· == z)) (met ys).length → R (.ok (.ret .none)) s2) → codeAny (model prog w) A (.builtin "set.update.loop" ⟨[.ref S, .ref I], []⟩) R s := by
  have out : S ∉ wr := fun z => hSf (W.sub _ z)
  have sub1 : ∀ b ∈ wr, b ∈ S :: wr := fun b z => List.mem_cons_of_mem _ z
  intro m
  induction m with
  | zero =>
    intro i s hm hi st hS hR
    obtain rfl : i = n := by omega
    have hall : ys.take i = ys := by rw [← hy, List.take_length]
    rw [hall] at hS
    refine codeAny_builtin PyProof.Rows.F.entry_set_update_loop ?_
    rw [Around.under_plainId PyProof.Rows.F.plain_set_update_loop _]
    show wpAny _ A.in1 (pyNext (.ref I) >>= _) _ _ s
    refine wpAny_bind (W.done s _ _ st fun s2 mv => ?_)
    show wpAny _ A.in1 (ret Value.none) _ _ s2
    obtain ⟨o, es, ep, tb, ho, rest⟩ := hS
    exact wpAny_pure (hR s2 (mv.mono sub1) ⟨o, es, ep, tb, mv.heap S _ out ho, rest⟩)
  | succ m ih =>
    intro i s hm hi st hS hR
    have lt : i < n := by omega
    refine codeAny_builtin PyProof.Rows.F.entry_set_update_loop ?_
    rw [Around.under_plainId PyProof.Rows.F.plain_set_update_loop _]
    show wpAny _ A.in1 (pyNext (.ref I) >>= _) _ _ s
    refine wpAny_bind (W.item i s _ _ lt st fun v s2 hP st2 mv => ?_)
    obtain ⟨x, t, hx, rfl⟩ := hval i v hP
    have hS2 : s2.heap.SetOf (strKind prog w) S (fun z => (met (ys.take i)).any (· == z)) (met (ys.take i)).length := by
      obtain ⟨o, es, ep, tb, ho, rest⟩ := hS
      exact ⟨o, es, ep, tb, mv.heap S _ out ho, rest⟩
    show wpAny _ A.in1 (holding [Value.str x t] (setAdd S (.str x t)) >>= _) _ _ s2
    refine wpAny_bind (wpAny_holding ?_)
    unfold setAdd
    refine wpAny_holding ?_
    refine wpAny_bind ((strKind prog w).pyHash (k := x) (strKind_is _ _ _ _) ?_)
    have room : (met (ys.take i)).length + 1 < scanBound := by
      have := met_le (ys.take i) []
      rw [List.length_take] at this
      unfold met
      simp only [List.length_nil] at this
      omega
    refine wpAny_setAddHashed_of (knd := strKind prog w) (s := { s2 with toks := s2.toks + 1 }) (strKind_is _ _ _ _) rfl hS2 room fun h' sb hS3 => ?_
    have nxt : h'.SetOf (strKind prog w) S (fun z => (met (ys.take (i + 1))).any (· == z)) (met (ys.take (i + 1))).length :=
      SetOf_congr hS3 (fun z => by rw [met_succ hx, sdd_any]) (by rw [met_succ hx, sdd_len])
    refine wpAny_pure ⟨plainId_quiet PyProof.Rows.F.plain_set_update_loop _, ih (i + 1) _ (by omega) lt (W.frame _ s2 _ _ st2 (Nat.le_succ _) fun b z o e => ?_) nxt fun s3 mv3 hS4 => ?_⟩
    · rw [sb.2 b (fun h : b = S => hSf (by rw [← h]; exact z))]
      exact e
    · refine hR s3 (Moved.trans W.gtrans ((mv.mono sub1).then_heap (Nat.le_succ _) fun b o z e => ?_) mv3) hS4
      rw [sb.2 b (fun h : b = S => z (by rw [h]; exact List.mem_cons_self))]
      exact e
end
end Ks

namespace PySem
section
variable {prog : Program} {w : World} {A : Around} {E : Value → Shared → Prop} {s : Shared}
abbrev bareSet (led : Bool) : Obj := { cls := .type "set", dict := none, data := .set #[] 0 (.fresh 0 0 led) }
theorem set_of_tup {l : Addr} {items : Array Value} {ys : List Str} {Q : Value → Shared → Prop} (hh : A.handled = none) (hl : s.heap.IsTuple l items) (hy : ys.length = items.size) (hi : ∀ (i : Nat) (v : Value), items[i]? = some v → ∃ (x : Str) (t : Tok), ys[i]? = some x ∧ v = Value.str x t) (hb : items.size + 1 < scanBound)
    (h : ∀ (h' : Heap) (tk : Nat), h'.SetOf (strKind prog w) s.heap.objs.size (fun z => (Ks.met ys).any (· == z)) (Ks.met ys).length → (∀ b o, b < s.heap.objs.size → s.heap.get? b = some o → h'.get? b = some o) → Q (.ref s.heap.objs.size) { s with heap := h', toks := tk }) :
    wpAny (model prog w) A (call (.type "set") [.ref l]) Q E s := by
  have a1 := F.called_set.notType; have a2 := F.called_set.canCreate; have a3 := F.typeCall_set_1 (.ref l); have a4 := F.called_set.made; have a5 := F.called_set.sub
  obtain ⟨c, tl, hmro⟩ := F.called_set.mro
  refine wpAny_call (codeAny_of_tree ?_); show wpAny _ _ (callAny (.type "set") _) _ _ _
  refine wpAny_pure ⟨Code.quiet_builtin _ (by decide +kernel), ?_⟩; refine codeAny_builtin F.entry_type_call ?_; rw [Around.under_plain (weight_type_call_type "set" [.ref l] []) rfl]
  repeat (any_goals (first | assumption | wp_step))
  refine codeAny_mono (code_set_new_1 (.ref l) (E := E) (Q₁ := fun obj s1 => ∃ led : Bool, obj = .ref s.heap.objs.size ∧ s1 = { s with heap := s.heap.push (bareSet led) }) fun led => ⟨led, rfl, rfl⟩) fun r s1 hr => ?_
  cases r with
  | error e => exact hr
  | ok fl =>
    cases fl with
    | ret obj =>
      obtain ⟨led, rfl, rfl⟩ := hr
      have hS : (s.heap.push (bareSet led)).get? s.heap.objs.size = some (bareSet led) := Heap.get?_push_size _ rfl
      have hT : Shared.TypeIs { s with heap := s.heap.push (bareSet led) } (.ref s.heap.objs.size) "set" := ⟨_, hS, rfl⟩
      have b1 := F.called_set.init.lookup; have b2 := F.called_set.init.bind (.ref s.heap.objs.size)
      repeat (any_goals (first | assumption | wp_step))
      refine codeAny_mono (codeAny_call_builtin (R := wants (fun r s2 => r = .none ∧ ∃ h' tk, s2 = { s with heap := h', toks := tk } ∧ h'.SetOf (strKind prog w) s.heap.objs.size (fun z => (Ks.met ys).any (· == z)) (Ks.met ys).length ∧
          (∀ b o, b < s.heap.objs.size → s.heap.get? b = some o → h'.get? b = some o)) E) F.called_set.init.plain F.entry_set_init (check_set_init_1 hT ?_)) fun r2 s2 hr2 => ?_
      · obtain ⟨ol, hol, hcl, nl, hdl⟩ := hl
        obtain ⟨ocls, odict, odata, oslots⟩ := ol
        simp only at hcl hdl; subst hcl; subst hdl
        have hol' : (s.heap.push (bareSet led)).get? l = some { cls := .type "tuple", dict := odict, data := .seq items nl, slots := oslots } := Heap.get?_push_of_some _ hol
        have d1 := F.sub_tuple_set; have d2 := F.sub_tuple_frozenset
        have d3 : (Value.type "tuple" == Value.type "dict") = false := by decide
        have tp : (s.heap.push (bareSet led)).IsTuple l items := ⟨_, hol', rfl, nl, rfl⟩
        unfold Builtin.«set.__init__» noKeywords Builtin.Frozenset.updateFrom; generalize hPI : pyIter = PI
        wp_walk
        subst hPI
        refine wpAny_pyIter_tuple tp ?_; refine wpAny_bind (wpAny_runValue ?_)
        have lS : l < s.heap.objs.size := Heap.lt_size hol
        have h3 : A.in1.in1.in1.handled = none := by simp [hh]
        have ne1 : l ≠ (s.heap.push (bareSet led)).objs.size := by
          rw [Heap.size_push]; exact Nat.ne_of_lt (Nat.lt_succ_of_lt lS)
        have no1 : s.heap.objs.size ∉ [(s.heap.push (bareSet led)).objs.size, l] := by
          rw [Heap.size_push]; simp only [List.mem_cons, List.mem_singleton, List.not_mem_nil, or_false, not_or]; exact ⟨Nat.ne_of_lt (Nat.lt_succ_self _), Nat.ne_of_gt lS⟩
        refine Ks.txt_loop ((Walks.tuple h3 _ l ne1 items).toS) s.heap.objs.size no1 ys hy hi hb (items.size - 0) 0 _ (by omega) (Nat.zero_le _) ⟨⟨_, Heap.get?_push_size _ rfl, rfl, rfl⟩, (tp.push _)⟩ ?hS0 ?hR
        case hS0 =>
          have g0 : ((s.heap.push (bareSet led)).push { cls := .type "tuple_iterator", data := .fields #[.ref l, .int 0 0] }).get? s.heap.objs.size = some (bareSet led) := Heap.get?_push_of_some _ hS
          exact PyProof.Rows.SetOf_congr ((PyProof.Rows.setObjOf_fresh (knd := strKind prog w) led).setOf g0 (by unfold scanBound; omega)) (fun _ => rfl) rfl
        case hR =>
          intro s' mv hS'
          obtain ⟨h', g', d', tk', os'⟩ := s'
          have eg : g' = s.gens := mv.gens; have ed : d' = s.drawn := mv.drawn; have eo : os' = s.os := mv.os
          subst eg; subst ed; subst eo
          show wpAny _ _ _ _ _ _
          refine wpAny_pure ?_; show wpAny _ _ (ret Value.none) _ _ _
          refine wpAny_pure ⟨rfl, h', tk', rfl, hS', fun b o lt e => ?_⟩
          have n2 : b ≠ (s.heap.push (bareSet led)).objs.size := by
            rw [Heap.size_push]; exact Nat.ne_of_lt (Nat.lt_succ_of_lt lt)
          exact mv.heap b o (by simp only [List.mem_cons, List.mem_singleton, List.not_mem_nil, or_false, not_or]; exact ⟨Nat.ne_of_lt lt, n2⟩) (Heap.get?_push_of_some _ (Heap.get?_push_of_some _ e))
      · cases r2 with
        | error e => exact hr2
        | ok fl2 =>
          cases fl2 with
          | ret r =>
            obtain ⟨rfl, h', tk, rfl, hS', hk'⟩ := hr2
            repeat (any_goals (first | assumption | wp_step))
            exact h _ _ hS' hk'
          | _ => exact hr2.elim
    | _ => exact hr.elim
end
end PySem

namespace Ks
open PySem PySem.Spec PyProof.Rows L2
section
variable {X : Cx}
theorem strs_at : ∀ {ys : List Str} {its : List Value}, Vals (ys.map V.str) its → ∀ (i : Nat) (v : Value), its[i]? = some v → ∃ (x : Str) (t : Tok), ys[i]? = some x ∧ v = Value.str x t
  | [], _, r, i, v, e => by
    cases r
    simp at e
  | y :: ys, _, r, 0, v, e => by
    cases r with
    | cons r1 r2 =>
      obtain ⟨t, rfl⟩ := r1
      exact ⟨y, t, rfl, (Option.some.inj e).symm⟩
  | y :: ys, _, r, i + 1, v, e => by
    cases r with
    | cons r1 r2 =>
      obtain ⟨x, t, h1, h2⟩ := strs_at r2 i v (by simpa using e)
      exact ⟨x, t, by simpa using h1, h2⟩
/-- len(set(t)), t a tuple of texts -/
def tLenSetT (K : PySem.W.Frag) (ta : TE) : TE := fun σ H Q => ta σ H fun x H1 => ∃ (l : Addr) (ys : List Str), x = V.ref l ∧ SqT K H1 l (ys.map V.str) ∧ ys.length < 1000 ∧ Q (.int ((met ys).length : Nat)) H1
theorem pe_lenSetT {a : Expr} {ta : TE} {p p2 q pos : Pos} (hc : X.calm = true) (hg : Gl X "len") (hm : X.mg "len" = none) (hg2 : Gl X "set") (hm2 : X.mg "set" = none) (ha : PE X a ta) (na : starEach [a] X.env = (false, eval a X.env) :: starEach [] X.env := by rfl) :
    PE X (.Call (.Name "len" p) [.Call (.Name "set" p2) [a] [] q] [] pos) (tLenSetT X.K ta) := by
  refine ⟨fun pins s σ H Q I h => ?_⟩
  refine Call_ (ld_blt I hg hm PySem.boot_len ?_)
  refine PyProof.Rows.callWith_builtin1 (PyProof.Rows.args_cons ?_ rfl) rfl rfl; refine Call_ (ld_blt I hg2 hm2 PyProof.Rows.boot_set ?_)
  refine PyProof.Rows.callWith_type1 (PyProof.Rows.args_cons (thn (ha.run pins s σ H _ I h) fun v s1 ⟨x, H1, I1, r1, hh⟩ => PyProof.Rows.args_nil ?_) na) na rfl
  obtain ⟨l, ys, rfl, hq, h1, hQ⟩ := hh
  cases r1
  obtain ⟨its, r, ⟨o, ho, hcl, n, hd⟩, hz⟩ := I1.tuple hq
  have hl : ys.length = its.toArray.size := by rw [List.size_toArray, ← r.length, List.length_map]
  refine PySem.set_of_tup (I1.ok.hd hc) ⟨o, ho, hcl, n, hd⟩ hl (fun i v e => strs_at r i v (by simpa using e)) (by unfold scanBound; omega) fun h' tk hS hk => ?_
  refine PyProof.Rows.args_nil ?_
  have hm3 := met_le ys []
  rw [List.length_nil] at hm3
  have hm4 : (met ys).length ≤ 0 + ys.length := hm3
  obtain ⟨o2, es, ep, t, ho2, hex, hd2, _, _, _, hf, hn⟩ := hS
  have I2 : Inv X pins σ H1 { s1 with heap := h', toks := tk } := I1.kept fun b o e => hk b o (Heap.lt_size e) e
  refine call_len_set ho2 hex hd2 hf (by rw [hn]; omega) ⟨.int ((met ys).length : Nat), H1, I2.tok _, ⟨_, by rw [hn]⟩, hQ⟩
end
end Ks

namespace Kx
open PySem PySem.Spec PyProof.Rows L2 NdefX
section
variable {X : Cx} {CX : CXT} {n : Nat} {C f : Addr} {fd : FuncData} {ps : List Str} {sp : Sp} {E : XK}
/-- an operator between two instances of the class at C, by its own method -/
def rOwn (C : Addr) (sp : Sp) (E : XK) : R2 := fun x y H Q => ∃ a b dx dy fs gs, x = .ref a ∧ y = .ref b ∧ H a = some (.ins C dx fs) ∧ H b = some (.ins C dy gs) ∧ sp [.ref a, .ref b] H Q E
theorem ep_back {pins : List (Addr × Obj)} {σ : L2.St} {Q : VK} {v : Value} {s' : Shared} (h : EP X pins σ Q v s') : PySem.W.CmpBack (EP X pins σ Q) v s' := by
  obtain ⟨x, H', I, r, q⟩ := id h
  cases v with
  | notImplemented =>
    cases x with
    | non => cases (show Value.notImplemented = Value.none from r)
    | bl b => cases (show Value.notImplemented = Value.bool b from r)
    | int i => obtain ⟨t, z⟩ := r; cases z
    | str z => obtain ⟨t, z⟩ := r; cases z
    | byt z => obtain ⟨t, z⟩ := r; cases z
    | flt z => obtain ⟨t, z⟩ := r; cases z
    | ref a => cases (show Value.notImplemented = Value.ref a from r)
    | ty n => cases (show Value.notImplemented = Value.type n from r)
  | _ => exact h
theorem op_ownC {op : CmpOp} (F : FnOk X.prog X.w X.K X.mg X.base CX n f fd ps sp) (hs : PySem.W.findIn X.K (.ref C) (cmpInfo op).2.1 = some (some (.ref f))) (hf : PySem.W.isFn X.K (.ref f) = true) (hb : Binds X.K fd ps []) (hx : Passes CX X E) (hr : Room n X.A)
    (hc : ∀ v u, compareOp op v u = richCompare op v u := by intro _ _; rfl) : OpR X (compareOp op) (rOwn C sp E) := by
  intro pins s σ H x y v u Q I rx ry h
  obtain ⟨a, b, dx, dy, fs, gs, rfl, rfl, ha, hb', q⟩ := h
  cases (show v = Value.ref a from rx)
  cases (show u = Value.ref b from ry)
  obtain ⟨mA, J, _⟩ := ins_get I.hok ha
  obtain ⟨mB, J', _⟩ := ins_get I.hok hb'
  obtain ⟨od, J, _⟩ := J.look
  obtain ⟨od', J', _⟩ := J'.look
  obtain ⟨m, hF⟩ := I.fr
  rw [hc]
  refine PySem.W.cmp_K (op := op) (tb := .ref C) (by have := hr.units; omega) hF I.ok.mod.kin J J'.type (by simp [PySem.W.notFirst]) hs hf ?_
  exact thn (run_fn (us := [.ref a, .ref b]) (vs := [.ref a, .ref b]) (dvs := []) (ds := []) F hr hb .nil hx I (.cons rfl (.cons rfl .nil)) q) fun v s' z => ep_back z
theorem op_ownB {op : Operator} (F : FnOk X.prog X.w X.K X.mg X.base CX n f fd ps sp) (hs : PySem.W.findIn X.K (.ref C) (PySem.dunder op.info.2) = some (some (.ref f))) (hf : PySem.W.isFn X.K (.ref f) = true) (hsf : PySem.W.selfFirst X.K C = true) (hb : Binds X.K fd ps []) (hx : Passes CX X E) (hr : Room n X.A) :
    OpR X (binaryOp op) (rOwn C sp E) := by
  intro pins s σ H x y v u Q I rx ry h
  obtain ⟨a, b, dx, dy, fs, gs, rfl, rfl, ha, hb', q⟩ := h
  cases (show v = Value.ref a from rx)
  cases (show u = Value.ref b from ry)
  obtain ⟨mA, J, _⟩ := ins_get I.hok ha
  obtain ⟨mB, J', _⟩ := ins_get I.hok hb'
  obtain ⟨od, J, _⟩ := J.look
  obtain ⟨od', J', _⟩ := J'.look
  obtain ⟨m, hF⟩ := I.fr
  refine PySem.W.binop_K hF I.ok.mod.kin J J'.type hsf hs hf ?_
  exact thn (run_fn (us := [.ref a, .ref b]) (vs := [.ref a, .ref b]) (dvs := []) (ds := []) F hr hb .nil hx I (.cons rfl (.cons rfl .nil)) q) fun v s' z => ep_back z
end
/-! ### isinstance of a caught error that has its own dict -/
section
variable {X : Cx}
/-- isinstance(e, c), e the caught exception at a of the class at D, its dict at d -/
def rIsD (K : PySem.W.Frag) (D a d : Addr) : List V → Hp → VK → Prop := fun xs H Q => ∃ (c : V) (cv : Value) (fs : List (Str × V)) (b : Bool), xs = [.ref a, c] ∧ H d = some (.xd fs) ∧ (∀ u, RelV c u → u = cv) ∧ PySem.W.kitOne K (.ref D) cv = some b ∧ Q (.bl b) H
theorem call_isD {a D d : Addr} {oe : Obj} {pn : List (Addr × Obj)} (C : ExcC X.K D) (hz : Zc (.ref D) (some d) oe) (hf : ∃ vs, oe.data = .fields vs) : CallR (X.suite a ((a, oe) :: pn)) (.builtin "isinstance") (rIsD X.K D a d) := by
  intro pins s σ H xs us Q I r h
  obtain ⟨c, cv, fs, b, rfl, ed, hcv, e, q⟩ := h
  cases r with
  | cons rx rr =>
    cases rr with
    | cons rt rr =>
      cases rr
      cases rx
      have ec := hcv _ rt
      subst ec
      obtain ⟨hget, _⟩ := I.pin (a, oe) (List.mem_append.mpr (.inl List.mem_cons_self))
      obtain ⟨vs, hv⟩ := hf
      have hx : ObjOk X.prog X.w H s.heap d (.xd fs) := I.hok d _ ed
      obtain ⟨mA, hns, hr⟩ := hx
      obtain ⟨od, ho, hl⟩ := lookIn_ns hns
      have J : PySem.W.InstAt s.heap a oe D (some od) := ⟨hget, hz.1, by unfold PySem.W.notCls; rw [hv] <;> rfl, by rw [hz.2]; exact ho⟩
      have hcl : (PySem.W.clsIn X.K D).isSome = true := by
        obtain ⟨cd, hc, _⟩ := PySem.W.any_some C.hd
        rw [hc]; rfl
      exact PySem.W.kia_one (PySem.W.kitx_exc hcl C.hg C.hk C.hs C.ha C.hn C.ht C.hm) I.kIn J e (fun z => nomatch z) fun tk => ⟨.bl b, H, I.kept (t' := tk) fun _ _ z => z, rfl, q⟩
end
end Kx

/-! names by number, exactly; data of texts and of pairs of texts -/
namespace Kn
open PySem PySem.Spec PyProof.Rows L2 Kx Ke Kr
def repT (c n : Nat) : Str := ⟨(List.replicate n c).toArray⟩
theorem rep_foldl (c : Nat) : ∀ (n : Nat) (acc : Array Nat), (List.replicate n #[c]).foldl (· ++ ·) acc = acc ++ (List.replicate n c).toArray
  | 0, acc => by simp
  | n + 1, acc => by
    rw [List.replicate_succ, List.foldl_cons, rep_foldl c n, List.replicate_succ]
    apply Array.toList_inj.mp
    simp
/-- one sign times a number, exactly -/
def rRepE : R2 := fun x y H Q => ∃ (z : Str) (c : Nat) (n : Int), x = .str z ∧ y = .int n ∧ z.cps = #[c] ∧ -1000 ≤ n ∧ n ≤ 1000 ∧ Q (.str (repT c n.toNat)) H
theorem op_repE {X : Cx} : OpR X (binaryOp .Mult) rRepE := by
  intro pins s σ H x y v u Q I rx ry h
  obtain ⟨z, c, n, rfl, rfl, hz, h1, h2, q⟩ := h
  obtain ⟨t, rfl⟩ := rx
  obtain ⟨t', rfl⟩ := ry
  have hl : z.length = 1 := by show z.cps.size = 1; rw [hz]; rfl
  have hzE : z = ⟨#[c]⟩ := by cases z; cases hz; rfl
  refine PySem.P.mul_str (by rw [decide_eq_false (by omega), decide_eq_false (by omega)]; rfl) (fun hn _ => ?_) (fun hn _ => ?_) ?_
  · have hd : 1 ≤ (2 ^ 63 - 1 : Int) / n := by
      rw [Int.le_ediv_iff_mul_le (by omega)]
      omega
    rw [hl]
    have : ((1 : Nat) : Int) = 1 := rfl
    omega
  · rw [hl]
    exact decide_eq_false (Nat.not_lt.mpr (sz9 (by omega)))
  · by_cases hn : n < 1
    · rw [if_pos hn]
      have e : n.toNat = 0 := by omega
      rw [e] at q
      exact ⟨by decide, .str Str.empty, H, I.tok _, ⟨_, rfl⟩, q⟩
    · rw [if_neg hn]
      split
      · rename_i h1'
        have e : n = 1 := by
          rcases Bool.or_eq_true_iff.mp h1' with h | h
          · exact beq_iff_eq.mp h
          · exact absurd (beq_iff_eq.mp h) (by omega)
        subst e
        rw [hzE]
        exact ⟨.str ⟨#[c]⟩, H, I, ⟨t, rfl⟩, q⟩
      · have e : (⟨(List.replicate n.toNat z.cps).foldl (· ++ ·) #[]⟩ : Str) = repT c n.toNat := by
          rw [hz, rep_foldl]
          unfold repT
          simp
        rw [e]
        refine ⟨?_, .str _, H, I.tok _, ⟨_, rfl⟩, q⟩
        show (List.replicate n.toNat c).toArray.size ≤ sizeLine
        rw [List.size_toArray, List.length_replicate]
        exact sz9 (by omega)
/-! ### the names -/
def A26 : Str := "abcdefghijklmnopqrstuvwxyz"
def oneV (k st : Int) : Nat := A26.cps.toList.getD ((k * 7 + st / 4) % 26).toNat 0
def WS : List Str := ["write", "none", "read", "own", "close", "leads", "program", "to", "begin", "quit"]
def tS (n : Int) : Str := ((toString n : String) : Str)
def baseV (k st : Int) : Str := (⟨#[oneV k st]⟩ : Str) ++ tS (st / 4 % 10000)
def nameV (k st : Int) : Str :=
  if st % 4 = 1 ∧ st / 4 % 2 = 1 then WS.getD (k % 10).toNat "" ++ repT 50 (k / 10).toNat
  else if st % 4 = 3 ∧ st / 4 % 2 = 1 then repT 98 (k / 7).toNat ++ repT 97 (k % 7 + 1).toNat
  else if st % 4 = 1 then repT 113 (k % 3).toNat ++ ⟨#[oneV k st]⟩
  else if st % 4 = 2 then (if k % 4 = 3 then baseV k st ++ repT 120 (8 - ((baseV k st).length : Int)).toNat else baseV k st ++ repT 120 (k % 4).toNat)
  else if st % 4 = 3 then ("m" : Str) ++ tS (100 - 7 * k)
  else ⟨#[oneV k st]⟩
theorem a26_len : A26.cps.toList.length = 26 := by decide +kernel
theorem a26_nd : A26.cps.toList.Nodup := by decide +kernel
theorem a26_lt : ∀ c ∈ A26.cps.toList, c < 1114112 := by decide +kernel
theorem at_26 (k st : Int) : atI A26.cps.toList ((k * 7 + st / 4) % 26) = some (oneV k st) := by
  obtain ⟨j, hj⟩ : ∃ j : Nat, (k * 7 + st / 4) % 26 = (j : Int) := ⟨((k * 7 + st / 4) % 26).toNat, by omega⟩
  have hl : j < A26.cps.toList.length := by rw [a26_len]; omega
  unfold oneV
  rw [hj, Int.toNat_natCast]
  refine atI_nat ?_
  rw [List.getD_eq_getElem?_getD, List.getElem?_eq_getElem hl]
  rfl
theorem nd_inj {l : List Nat} (h : l.Nodup) {i j : Nat} (hi : i < l.length) (hj : j < l.length) (e : l[i] = l[j]) : i = j := by
  rcases Nat.lt_trichotomy i j with g | g | g
  · exact absurd e (List.pairwise_iff_getElem.mp h i j hi hj g)
  · exact g
  · exact absurd e.symm (List.pairwise_iff_getElem.mp h j i hj hi g)
theorem one_inj {k k' st : Int} (h0 : 0 ≤ k) (h1 : k < 16) (h0' : 0 ≤ k') (h1' : k' < 16) (h : oneV k st = oneV k' st) : k = k' := by
  have hl : ((k * 7 + st / 4) % 26).toNat < A26.cps.toList.length := by rw [a26_len]; omega
  have hl' : ((k' * 7 + st / 4) % 26).toNat < A26.cps.toList.length := by rw [a26_len]; omega
  unfold oneV at h
  rw [List.getD_eq_getElem?_getD, List.getD_eq_getElem?_getD, List.getElem?_eq_getElem hl, List.getElem?_eq_getElem hl'] at h
  have e := nd_inj a26_nd hl hl' h
  omega
theorem one_lt (k st : Int) : oneV k st < 1114112 := by
  have hl : ((k * 7 + st / 4) % 26).toNat < A26.cps.toList.length := by rw [a26_len]; omega
  unfold oneV
  rw [List.getD_eq_getElem?_getD, List.getElem?_eq_getElem hl]
  exact a26_lt _ (List.getElem_mem hl)
theorem app_cps (a b : Str) : (a ++ b).cps.toList = a.cps.toList ++ b.cps.toList := by
  show (a.cps ++ b.cps).toList = _
  rw [Array.toList_append]
theorem rep_cps (c n : Nat) : (repT c n).cps.toList = List.replicate n c := by
  unfold repT
  simp
theorem str_ext {a b : Str} (h : a.cps.toList = b.cps.toList) : a = b := by
  cases a
  cases b
  have := Array.toList_inj.mp h
  simp at this
  rw [this]
theorem digits_dig (n : Nat) : ∀ d ∈ Nat.toDigits 10 n, d.isDigit = true := fun d hd => Nat.isDigit_of_mem_toDigits (by decide) (by decide) hd
theorem tS_nat (n : Nat) : (tS (n : Int)).cps.toList = (Nat.toDigits 10 n).map Char.toNat := by
  have e : tS (n : Int) = ⟨((Nat.toDigits 10 n).map Char.toNat).toArray⟩ := text_ofNat n
  rw [e]
/-- the first sign of a number is a digit -/
theorem tS_head (n : Nat) : ∃ c r, (tS (n : Int)).cps.toList = c :: r ∧ 48 ≤ c ∧ c ≤ 57 := by
  rw [tS_nat]
  cases h : Nat.toDigits 10 n with
  | nil =>
    have := Nat.length_toDigits_pos (b := 10) (n := n)
    rw [h] at this
    simp at this
  | cons d r =>
    refine ⟨d.toNat, r.map Char.toNat, rfl, ?_⟩
    have hd := digits_dig n d (by rw [h]; exact List.mem_cons_self)
    simp only [Char.isDigit, Bool.and_eq_true, decide_eq_true_eq] at hd
    obtain ⟨a, b⟩ := hd
    exact ⟨a, b⟩
theorem tS_sht {n : Nat} (h : n < 10 ^ 10) : Sht (tS (n : Int)) 10 := by
  refine ⟨?_, fun c hc => ?_⟩
  · show (tS (n : Int)).cps.size ≤ 10
    rw [← Array.length_toList, tS_nat, List.length_map]
    exact digits10_le (by decide) h
  · rw [tS_nat] at hc
    obtain ⟨d, _, rfl⟩ := List.mem_map.mp hc
    have h2 : d.val.toNat < 0xd800 ∨ (0xdfff < d.val.toNat ∧ d.val.toNat < 0x110000) := d.valid
    show d.val.toNat < 1114112
    omega
/-- finite kinds -/
def ws10 (k : Nat) : Str := WS.getD (k % 10) "" ++ repT 50 (k / 10)
def ba (k : Nat) : Str := repT 98 (k / 7) ++ repT 97 (k % 7 + 1)
def m7 (k : Nat) : Str := ("m" : Str) ++ tS (100 - 7 * (k : Int))
def finB (f : Nat → Str) : Bool := (List.range 16).all fun a => decide ((f a).length ≤ 12) && decide (f a ≠ "zz9") && ((f a).cps.toList.all fun c => decide (c < 1114112)) && (List.range 16).all fun b => decide (f a = f b → a = b)
theorem fin_ws : finB ws10 = true := by decide +kernel
theorem fin_ba : finB ba = true := by decide +kernel
theorem fin_m7 : finB m7 = true := by decide +kernel
theorem fin_of {f : Nat → Str} (h : finB f = true) {a : Nat} (ha : a < 16) : Sht (f a) 12 ∧ f a ≠ "zz9" ∧ ∀ b, b < 16 → f a = f b → a = b := by
  have h1 := List.all_eq_true.mp h a (List.mem_range.mpr ha)
  simp only [Bool.and_eq_true] at h1
  obtain ⟨⟨⟨a1, a2⟩, a3⟩, a4⟩ := h1
  exact ⟨⟨of_decide_eq_true a1, fun c hc => of_decide_eq_true (List.all_eq_true.mp a3 c hc)⟩, of_decide_eq_true a2, fun b hb => of_decide_eq_true (List.all_eq_true.mp a4 b (List.mem_range.mpr hb))⟩
theorem sht_rep {c n : Nat} (h : c < 1114112) : Sht (repT c n) n := by
  refine ⟨?_, fun d hd => ?_⟩
  · show (repT c n).cps.size ≤ n
    rw [← Array.length_toList, rep_cps, List.length_replicate]
    exact Nat.le_refl _
  · rw [rep_cps] at hd
    rw [(List.mem_replicate.mp hd).2]
    exact h
theorem sht_one (k st : Int) : Sht (⟨#[oneV k st]⟩ : Str) 1 := ⟨Nat.le_refl _, fun d hd => by
  have e : d = oneV k st := by simpa using hd
  rw [e]
  exact one_lt k st⟩
theorem base_len (k st : Int) : Sht (baseV k st) 11 := by
  unfold baseV
  obtain ⟨m, hm⟩ : ∃ m : Nat, st / 4 % 10000 = (m : Int) := ⟨(st / 4 % 10000).toNat, by omega⟩
  rw [hm]
  exact (sht_one k st).app (tS_sht (n := m) (by omega))
theorem zz9 : ("zz9" : Str).cps.toList = [122, 122, 57] := by decide +kernel
theorem name_facts {k st : Int} (h0 : 0 ≤ k) (h1 : k < 16) : Sht (nameV k st) 20 ∧ nameV k st ≠ "zz9" ∧ ∀ k', 0 ≤ k' → k' < 16 → nameV k st = nameV k' st → k = k' := by
  obtain ⟨a, rfl⟩ : ∃ a : Nat, k = (a : Int) := ⟨k.toNat, by omega⟩
  have ha : a < 16 := by omega
  unfold nameV
  by_cases c1 : st % 4 = 1 ∧ st / 4 % 2 = 1
  · rw [if_pos c1]
    obtain ⟨f1, f2, f3⟩ := fin_of fin_ws ha
    have e : ∀ b : Nat, WS.getD ((b : Int) % 10).toNat "" ++ repT 50 ((b : Int) / 10).toNat = ws10 b := fun b => by
      unfold ws10
      rw [show ((b : Int) % 10).toNat = b % 10 by omega, show ((b : Int) / 10).toNat = b / 10 by omega]
    rw [e]
    refine ⟨f1.le (by decide), f2, fun k' g0 g1 h => ?_⟩
    obtain ⟨b, rfl⟩ : ∃ b : Nat, k' = (b : Int) := ⟨k'.toNat, by omega⟩
    rw [if_pos c1, e] at h
    have := f3 b (by omega) h
    omega
  rw [if_neg c1]
  by_cases c2 : st % 4 = 3 ∧ st / 4 % 2 = 1
  · rw [if_pos c2]
    obtain ⟨f1, f2, f3⟩ := fin_of fin_ba ha
    have e : ∀ b : Nat, repT 98 ((b : Int) / 7).toNat ++ repT 97 ((b : Int) % 7 + 1).toNat = ba b := fun b => by
      unfold ba
      rw [show ((b : Int) / 7).toNat = b / 7 by omega, show ((b : Int) % 7 + 1).toNat = b % 7 + 1 by omega]
    rw [e]
    refine ⟨f1.le (by decide), f2, fun k' g0 g1 h => ?_⟩
    obtain ⟨b, rfl⟩ : ∃ b : Nat, k' = (b : Int) := ⟨k'.toNat, by omega⟩
    rw [if_neg c1, if_pos c2, e] at h
    have := f3 b (by omega) h
    omega
  rw [if_neg c2]
  by_cases c3 : st % 4 = 1
  · rw [if_pos c3]
    have lt3 : ((a : Int) % 3).toNat ≤ 2 := by omega
    refine ⟨((sht_rep (by decide)).app (sht_one _ _)).le (by omega), fun h => ?_, fun k' g0 g1 h => ?_⟩
    · have h2 := congrArg (fun z : Str => z.cps.toList) h
      simp only [app_cps, rep_cps, zz9] at h2
      match ha3 : ((a : Int) % 3).toNat, lt3 with
      | 0, _ => rw [ha3] at h2; simp at h2
      | 1, _ => rw [ha3] at h2; simp at h2
      | 2, _ => rw [ha3] at h2; simp [List.replicate] at h2
    · rw [if_neg c1, if_neg c2, if_pos c3] at h
      have h2 := congrArg (fun z : Str => z.cps.toList.getLast?) h
      simp only [app_cps] at h2
      have h3 : oneV (a : Int) st = oneV k' st := by simpa using h2
      exact one_inj h0 h1 g0 g1 h3
  rw [if_neg c3]
  by_cases c4 : st % 4 = 2
  · rw [if_pos c4]
    have hb := base_len (a : Int) st
    have hd : ∀ b : Int, (baseV b st).cps.toList.head? = some (oneV b st) := fun b => by
      unfold baseV
      rw [app_cps]
      rfl
    have hz : ∀ x : Str, baseV (a : Int) st ++ x ≠ "zz9" := fun x h => by
      have h2 := congrArg (fun z : Str => z.cps.toList) h
      obtain ⟨m, hm⟩ : ∃ m : Nat, st / 4 % 10000 = (m : Int) := ⟨(st / 4 % 10000).toNat, by omega⟩
      obtain ⟨c, r, e, g1, g2⟩ := tS_head m
      simp only [baseV, app_cps, zz9, hm, e] at h2
      have h3 : c = 122 := by
        simp only [List.cons_append, List.nil_append] at h2
        injection h2 with _ h2
        injection h2 with h2 _
      omega
    have hi : ∀ (k' : Int) (x y : Str), 0 ≤ k' → k' < 16 → baseV (a : Int) st ++ x = baseV k' st ++ y → (a : Int) = k' := fun k' x y g0 g1 h => by
      have h2 := congrArg (fun z : Str => z.cps.toList.head?) h
      simp only [app_cps, List.head?_append, hd] at h2
      exact one_inj h0 h1 g0 g1 (by simpa using h2)
    refine ⟨?_, ?_, fun k' g0 g1 h => ?_⟩
    · split
      · exact (hb.app (sht_rep (c := 120) (by decide))).le (by omega)
      · exact (hb.app (sht_rep (c := 120) (by decide))).le (by omega)
    · split <;> exact hz _
    · rw [if_neg c1, if_neg c2, if_neg c3, if_pos c4] at h
      split at h <;> split at h <;> exact hi _ _ _ g0 g1 h
  rw [if_neg c4]
  by_cases c5 : st % 4 = 3
  · rw [if_pos c5]
    obtain ⟨f1, f2, f3⟩ := fin_of fin_m7 ha
    refine ⟨f1.le (by decide), f2, fun k' g0 g1 h => ?_⟩
    obtain ⟨b, rfl⟩ : ∃ b : Nat, k' = (b : Int) := ⟨k'.toNat, by omega⟩
    rw [if_neg c1, if_neg c2, if_neg c3, if_neg c4, if_pos c5] at h
    have := f3 b (by omega) h
    omega
  · rw [if_neg c5]
    refine ⟨(sht_one _ _).le (by decide), fun h => ?_, fun k' g0 g1 h => ?_⟩
    · have h2 := congrArg (fun z : Str => z.cps.toList) h
      rw [zz9] at h2
      simp at h2
    · rw [if_neg c1, if_neg c2, if_neg c3, if_neg c4, if_neg c5] at h
      have h2 := congrArg (fun z : Str => z.cps.toList) h
      exact one_inj h0 h1 g0 g1 (by simpa using h2)
/-! ### data -/
def tD (zs : List Str) : List PyData := zs.map PyData.str
def kPr (p : Str × Str) : PyData := .tuple [.str p.1, .str p.2]
theorem str_ok {z : Str} {n : Nat} (h : Sht z n) : PyData.strOk z = true := by
  unfold PyData.strOk
  rw [Array.all_eq_true']
  intro c hc
  exact decide_eq_true (h.2 c (by simpa using hc))
theorem eqv_txt (a b : Str) : PyData.eqv (.str a) (.str b) = decide (a = b) := by
  simp only [PyData.eqv]
  by_cases h : a = b
  · rw [h, decide_eq_true rfl]; exact beq_self_eq_true b
  · rw [decide_eq_false h]; exact beq_eq_false_iff_ne.mpr h
theorem eqv_txts : ∀ xs ys : List Str, PyData.eqvAll (tD xs) (tD ys) = decide (xs = ys)
  | [], [] => by simp [tD, PyData.eqvAll]
  | [], y :: ys => by simp [tD, PyData.eqvAll]
  | x :: xs, [] => by simp [tD, PyData.eqvAll]
  | x :: xs, y :: ys => by
    have h := eqv_txts xs ys
    simp only [tD] at h
    simp only [tD, List.map_cons, PyData.eqvAll, h, eqv_txt, List.cons.injEq, Bool.decide_and]
theorem eqv_pr (p q : Str × Str) : PyData.eqv (kPr p) (kPr q) = decide (p = q) := by
  simp only [kPr, PyData.eqv, PyData.eqvAll, Bool.and_true]
  have h1 := eqv_txt p.1 q.1
  have h2 := eqv_txt p.2 q.2
  simp only [PyData.eqv] at h1 h2
  rw [h1, h2, ← Bool.decide_and]
  exact decide_eq_decide.mpr (Prod.ext_iff.symm)
theorem eqv_prs : ∀ xs ys : List (Str × Str), PyData.eqvAll (xs.map kPr) (ys.map kPr) = decide (xs = ys)
  | [], [] => by simp [PyData.eqvAll]
  | [], y :: ys => by simp [PyData.eqvAll]
  | x :: xs, [] => by simp [PyData.eqvAll]
  | x :: xs, y :: ys => by simp only [List.map_cons, PyData.eqvAll, eqv_prs xs ys, eqv_pr, List.cons.injEq, Bool.decide_and]
theorem any_pr (xs : List (Str × Str)) (p : Str × Str) : ((xs.map kPr).any fun z => PyData.eqv z (kPr p)) = decide (p ∈ xs) := by
  rw [Bool.eq_iff_iff, List.any_map, List.any_eq_true, decide_eq_true_iff]
  constructor
  · rintro ⟨y, hy, e⟩
    simp only [Function.comp_apply, eqv_pr, decide_eq_true_eq] at e
    exact e ▸ hy
  · intro h
    exact ⟨p, h, by simp only [Function.comp_apply, eqv_pr, decide_true]⟩
theorem lay_txts : ∀ {xs : List Str} {n : Nat}, (∀ x ∈ xs, Sht x n) → PyData.canLayAll0 (tD xs) = true
  | [], _, _ => rfl
  | x :: xs, n, h => by
    have := lay_txts (xs := xs) (n := n) fun y hy => h y (List.mem_cons_of_mem _ hy)
    simp only [tD] at this
    simp only [tD, List.map_cons, PyData.canLayAll0, PyData.canLay0, str_ok (h x List.mem_cons_self), this]
    decide
theorem dep_txts : ∀ xs : List Str, PyData.depthAll (tD xs) = 0
  | [] => rfl
  | x :: xs => by
    have := dep_txts xs
    simp only [tD] at this
    simp only [tD, List.map_cons, PyData.depthAll, PyData.depth, this, Nat.max_self]
theorem shp_txts {xs : List Str} {n : Nat} (h : ∀ x ∈ xs, Sht x n) : SeqAt.shaped (.list (tD xs)) = true := by
  unfold SeqAt.shaped
  simp only [PyData.canLay0, PyData.depth, lay_txts h, dep_txts, Bool.true_and]
  decide
theorem lay_prs : ∀ {xs : List (Str × Str)} {n : Nat}, (∀ x ∈ xs, Sht x.1 n ∧ Sht x.2 n) → PyData.canLayAll0 (xs.map kPr) = true
  | [], _, _ => rfl
  | x :: xs, n, h => by
    have h1 := h x List.mem_cons_self
    have h2 := lay_prs (xs := xs) (n := n) fun y hy => h y (List.mem_cons_of_mem _ hy)
    simp only [List.map_cons, PyData.canLayAll0, kPr, PyData.canLay0, Bool.and_true]
    rw [str_ok h1.1, str_ok h1.2]
    simpa only [kPr, Bool.true_and] using h2
theorem dep_prs : ∀ xs : List (Str × Str), PyData.depthAll (xs.map kPr) ≤ 1
  | [] => by decide
  | x :: xs => by
    have := dep_prs xs
    simp only [List.map_cons, PyData.depthAll, kPr, PyData.depth] at this ⊢
    omega
theorem shp_prs {xs : List (Str × Str)} {n : Nat} (h : ∀ x ∈ xs, Sht x.1 n ∧ Sht x.2 n) : SeqAt.shaped (.list (xs.map kPr)) = true := by
  unfold SeqAt.shaped
  rw [Bool.and_eq_true]
  refine ⟨by simp only [PyData.canLay0, lay_prs h], decide_eq_true ?_⟩
  have := dep_prs xs
  simp only [PyData.depth]
  omega
theorem shp_pr {p : Str × Str} {n : Nat} (h : Sht p.1 n ∧ Sht p.2 n) : SeqAt.shaped (kPr p) = true := by
  unfold SeqAt.shaped
  simp only [kPr, PyData.canLay0, PyData.canLayAll0, PyData.depth, PyData.depthAll]
  rw [str_ok h.1, str_ok h.2]
  decide
theorem dp_txts {K : PySem.W.Frag} {H : Hp} : ∀ xs : List Str, DpAll K H (xs.map V.str) (tD xs)
  | [] => .nil
  | x :: r => .cons (.str x) (dp_txts r)
end Kn

/-! A list comprehension without tests whose element may raise: what is raised goes on in the def. -/
namespace L2
open PySem PySem.Spec PyProof.Rows
section
variable {X : Cx} {pins : List (Addr × Obj)} {σ : St} {H : Hp} {s : Shared}
theorem cloFrom_bare {cells : List (Str × Addr)} : ∀ {names : List (Str × NameKind)} {acc : List (Str × Addr)}, (∀ x ∈ names, x.2 ≠ .free) → cloFrom cells names acc = acc
  | [], _, _ => rfl
  | (n, k) :: r, acc, h => by
    have hk : (k == NameKind.free) = false := by simpa using h (n, k) List.mem_cons_self
    unfold cloFrom
    rw [hk, if_neg Bool.false_ne_true]
    exact cloFrom_bare fun x hx => h x (List.mem_cons_of_mem _ hx)
theorem relabel_bare {scope : Scope} {env : Env} (h : ∀ x ∈ scope.names, x.2 ≠ .free) : relabel scope env = scope := by
  unfold relabel
  have e : (scope.names.map fun (n, k) => if (k == .free && env.scope.kind == .function && env.kindOf n == some .cell) then (n, NameKind.cell) else (n, k)) = scope.names := by
    conv => rhs; rw [← List.map_id scope.names]
    refine List.map_congr_left fun x hx => ?_
    obtain ⟨n, k⟩ := x
    have hk : (k == NameKind.free) = false := by simpa using h _ hx
    simp only [hk, Bool.false_and, Bool.false_eq_true, if_false, id]
  rw [e]
theorem frames_move {B B' h h' : Heap} : ∀ {l : List Env}, h.FunFrames B l → (∀ L ∈ frs l, h'.get? L = h.get? L) → (∀ L ∈ frs l, B'.get? L = none) → h'.FunFrames B' l
  | [], _, _, _ => trivial
  | env :: l, x, k, n => by
    obtain ⟨hk, ⟨L, o, hf, _, ho, hd⟩, hr⟩ := x
    have hm : L ∈ frs (env :: l) := List.mem_filterMap.mpr ⟨env, List.mem_cons_self, hf⟩
    have up : ∀ {b}, b ∈ frs l → b ∈ frs (env :: l) := fun hb => by
      obtain ⟨e, he, q⟩ := List.mem_filterMap.mp hb
      exact List.mem_filterMap.mpr ⟨e, List.mem_cons_of_mem _ he, q⟩
    exact ⟨hk, ⟨L, o, hf, n L hm, (k L hm).trans ho, hd⟩, frames_move hr (fun b hb => k b (up hb)) fun b hb => n b (up hb)⟩
/-- the block of a comprehension that a call of its element may leave by an exception, told by E -/
abbrev Cx.blkE (X : Cx) (s : Shared) (H : Hp) (scope : Scope) (cenv : Env) (fp : List Addr) (E : XK) : Cx :=
  (X.blk s H scope cenv fp).wish fun u s' => ∃ (pins : List (Addr × Obj)) (σ : St) (H1 : Hp) (s1 : Shared), Inv (X.blk s H scope cenv fp) pins σ H1 s1 ∧ CX X.prog X.w X.stack H1 s1 E u s'
theorem blkE_passes {scope : Scope} {cenv : Env} {fp : List Addr} {E : XK} : Passes (CX X.prog X.w) (X.blkE s H scope cenv fp E) E := fun pins σ H1 s1 _ _ I c => ⟨pins, σ, H1, s1, I.unwish, c⟩
/-- the exception leaves the block: noted, the block's names let go, passed on -/
theorem block_left {scope : Scope} {ce cv : Env} {fp : List Addr} {E : XK} {C : Addr} {s3 s' : Shared} {H3 : Hp} {u : Value} {Q : Value → Shared → Prop} {R : Result → Shared → Prop}
    (hst : X.stack = X.env :: X.outer) (hf : X.env.frame = some X.env.locals) (tk : Takes X fun cls d _ H => E cls d H) (I3 : Inv X pins σ H3 s3) (hfp : ∀ b ∈ fp, FpOk X pins H3 b) (hC : s3.heap.objs.size = C) (cL : ce.locals = C) (cF : ce.frame = X.env.frame) (vF : cv.frame = X.env.frame)
    (x : ∃ (pins : List (Addr × Obj)) (σ : St) (H1 : Hp) (s1 : Shared), Inv (X.blk s3 H3 scope ce fp) pins σ H1 s1 ∧ CX X.prog X.w X.stack H1 s1 E u s')
    (hR : ∀ s4 : Shared, (∃ m, s4.heap.Ns C m ∧ ∀ h', Heap.SameBut C s4.heap h' → wpAny (model X.prog X.w) X.A (passOn "comprehension.variables-let-go" u cv) Q X.xe { s4 with heap := h' }) → R (.error u) s4) :
    notedBy (model X.prog X.w) X.A ce (fun e s' => R (.error e) s') u s' := by
  obtain ⟨pins', σ', H1, s1, Ib, a, B, H2, cls, d, rfl, fl, hokB, ub, na, os, ag, hE⟩ := x
  have hfr : X.A.frames = some (X.env :: X.outer) := by rw [I3.ok.frames, hst]
  -- the block's own place
  obtain ⟨m, o, es, ep, hoC, hrC⟩ := Ib.loc.imp fun m h => h.1
  have hoC : s1.heap.get? ce.locals = some o := hoC
  rw [cL] at hoC
  have nC1 : H1 C = none := by have := Ib.free; rw [show (X.blk s3 H3 scope ce fp).env.locals = C from cL] at this; exact this
  have frS : ∀ b ∈ frs X.stack, b ≠ C := fun b hb e => by
    obtain ⟨_, o', e', _⟩ := I3.stack.mem hb
    have := Heap.lt_size e'
    rw [e, hC] at this
    exact absurd this (Nat.lt_irrefl _)
  have hBC : B.get? C = some o := ub.keep C o hoC nC1 fun hm => frS C hm rfl
  have nC2 : H2 C = none := ub.free C o hoC nC1
  have haC : a ≠ C := fun e => by have := fl.2.1; rw [e, hBC] at this; cases this
  have sB : ∀ {b o}, B.get? b = some o → b ≠ C → (PySem.W.hideAll B [C]).get? b = some o := fun e n => PySem.W.hideAll_get _ e fun hm => n (List.mem_singleton.mp hm)
  have sB' : ∀ {b o}, (PySem.W.hideAll B [C]).get? b = some o → B.get? b = some o ∧ b ≠ C := fun {b o} e => ⟨PySem.W.of_hideAll _ e, fun z => by rw [PySem.W.hideAll_none [C] (by rw [z]; exact List.mem_cons_self)] at e; cases e⟩
  have sBn : ∀ {b}, B.get? b = none → (PySem.W.hideAll B [C]).get? b = none := fun {b} e => by
    cases q : (PySem.W.hideAll B [C]).get? b with
    | none => rfl
    | some o => have := (sB' q).1; rw [e] at this; cases this
  generalize hB' : PySem.W.hideAll B [C] = B' at sB sB' sBn
  have fB : ∀ L ∈ frs X.stack, B.get? L = none := fun L hL => (fl.2.2.1.mem hL).1
  -- the state without the exception
  obtain ⟨G, g1, g2⟩ := restrict s'.heap fun b => (B'.get? b).isSome || decide (b ∈ frs X.stack)
  have gB : ∀ b o, B'.get? b = some o → G.get? b = some o := fun b o e => by
    rw [g1 b (by simp [e])]
    exact fl.1 b o (sB' e).1
  have gF : ∀ b, b ∈ frs X.stack → G.get? b = s'.heap.get? b := fun b hb => g1 b (by simp [hb])
  have og : ∀ b o, G.get? b = some o → s'.heap.get? b = some o ∧ ((B'.get? b).isSome = true ∨ b ∈ frs X.stack) := fun b o e => by
    cases q : ((B'.get? b).isSome || decide (b ∈ frs X.stack)) with
    | false => rw [g2 b q] at e; cases e
    | true =>
      rw [g1 b q] at e
      exact ⟨e, by simpa [Bool.or_eq_true] using q⟩
  have ogC : ∀ b o, G.get? b = some o → b ≠ C := fun b o e => by
    rcases (og b o e).2 with h | h
    · obtain ⟨o', q⟩ := Option.isSome_iff_exists.mp h
      exact (sB' q).2
    · exact frS b h
  have hlt : ∀ b o, s3.heap.get? b = some o → b ≠ C := fun b o e z => by
    have := Heap.lt_size e
    rw [z, hC] at this
    exact absurd this (Nat.lt_irrefl _)
  have bs := Ib.base
  have hokG : HOk X.prog X.w H2 G := fun b v q => (hokB b v q).stay (fun c w hc r => gB c w (sB r fun z => by
    subst z
    rcases hc with hc | hc
    · rw [hc, q] at nC2; cases nC2
    · rw [hc] at nC2; cases nC2)) (fun _ r => r) fun _ _ r => r
  have J : Inv X pins σ H2 { s1 with heap := G, gens := s'.gens, drawn := s'.drawn, toks := s'.toks } := by
    refine I3.call' (ch := fp) Ib.os ⟨fun b o e n hb hx => ?_, fun b o e n hb hx => ?_, fun b o e n hx => ?_, fun b o e hx => ?_, fun b xs e => ub.tups b xs (bs.tups b xs e), fun b o xs e => ub.frzs b o xs (bs.frzs b o xs e), fun b ps e => ?_⟩ hokG ag fun b hb => ?_
    · exact gB b o (sB (ub.keep b o (bs.keep b o e n hb hx) (bs.free b o e n hx) hb) (hlt b o e))
    · obtain ⟨sl, e1⟩ := bs.slot b o e n hb hx
      obtain ⟨sl2, e2⟩ := ub.slot b _ e1 hb
      exact ⟨sl2, by rw [gF b hb]; exact e2⟩
    · obtain ⟨o1, e1⟩ := bs.there b o e hx
      exact ub.free b o1 e1 (bs.free b o e n hx)
    · obtain ⟨o1, e1⟩ := bs.there b o e hx
      by_cases hb : b ∈ frs X.stack
      · obtain ⟨sl, q⟩ := ub.slot b o1 e1 hb
        exact ⟨_, by rw [gF b hb]; exact q⟩
      · obtain ⟨o2, q⟩ := ub.there b o1 e1 hb
        exact ⟨o2, gB b o2 (sB q (hlt b o e))⟩
    · obtain ⟨m1, e1⟩ := bs.tbls b ps e
      obtain ⟨m2, e2⟩ := ub.tbls b _ e1
      exact ⟨m1 ++ m2, by rw [e2, Array.append_assoc]⟩
    · exact ⟨(hfp b hb).2.2.2.1, (hfp b hb).2.1, (hfp b hb).2.2.2.2.1, (hfp b hb).2.2.2.2.2⟩
  -- noted, let go, passed on
  show wpAny (model X.prog X.w) X.A (noteFrame (.ref a) ce) (fun _ s'' => R (.error (.ref a)) s'') _ s'
  have eN : noteFrame (.ref a) ce = noteFrame (.ref a) X.env := by
    unfold PySem.noteFrame PySem.frameOf
    rw [cF]
  rw [eN]
  have fl' : HandSPX.FlyingZ B (X.env :: X.outer) a (Zc cls d) s'.heap := by rw [← hst]; exact fl
  refine HandSPX.looks_onZ Zc.steady hfr hf fl' fun h1 hh up1 => hR _ ⟨m, ⟨o, es, ep, hh.1 C o hBC, hrC⟩, fun h2 sb => ?_⟩
  rw [← hst] at hh
  obtain ⟨k1, k2, k3, oe, vs, T, oT, ts, he, hz, hd, hv, hnT, hTe, hT, hdT, hts⟩ := hh
  have hTC : T ≠ C := fun e => by rw [e, hBC] at hnT; cases hnT
  have he2 : h2.get? a = some oe := (sb.2 a haC).trans he
  have hT2 : h2.get? T = some oT := (sb.2 T hTC).trans hT
  have hh2 : HandSPX.HeldZ B' X.stack a (Zc cls d) X.env.locals h2 := ⟨fun b o e => (sb.2 b (sB' e).2).trans (k1 b o (sB' e).1), sBn k2, frames_move k3 (fun L hL => sb.2 L (frS L hL)) fun L hL => sBn (fB L hL),
    oe, vs, T, oT, ts, he2, hz, hd, hv, sBn hnT, hTe, hT2, hdT, hts⟩
  unfold PySem.passOn
  refine wpAny_bind (wpAny_field he2 hd hv ?_)
  rw [if_neg (show ¬ ((Value.ref T == Value.none) = true) from by simp)]
  have fin : wpAny (model X.prog X.w) X.A (setFlight (.ref a) cv.frame) (fun _ s4 => wpAny (model X.prog X.w) X.A (throw (.ref a) : Sem Value) Q X.xe s4) X.xe { s' with heap := h2 } := by
    rw [vF, hf]
    refine HandSPX.setFlight_onZ hh2 fun h4 hh4 up4 => wpAny_throw (tk _ _ ?_)
    refine ⟨a, B', _, pins, σ, H2, cls, d, rfl, J, fun b o e hb => ?_, fun b o e hnf => ?_, .inr (.inr hh4), na, os, ag, hE⟩
    · obtain ⟨e', h⟩ := og b o e
      rcases h with h | h
      · obtain ⟨o', q⟩ := Option.isSome_iff_exists.mp h
        have z := fl.1 b o' (sB' q).1
        rw [e'] at z; cases z
        exact q
      · exact absurd h hb
    · obtain ⟨e', _⟩ := og b o e
      obtain ⟨sl, e1⟩ := up1 b o e' hnf
      have e2 := (sb.2 b (ogC b o e)).trans e1
      obtain ⟨sl2, e3⟩ := up4 b _ e2 hnf
      exact ⟨sl2, e3⟩
  first
    | exact wpAny_bind (wpAny_pure (wpAny_bind fin))
    | exact wpAny_bind fin
theorem pe_lcX {elt tg iter : Expr} {scope : Scope} {own : List (Str × Nat)} {pos : Pos} {wi : TI} {g : TG} {te : TE} {E : XK} (hst : X.stack = X.env :: X.outer) (hf : X.env.frame = some X.env.locals) (tk : Takes X fun cls d _ H => E cls d H)
    (hc : X.calm = true) (hN : X.N.Nodup) (hnf : ∀ x ∈ scope.names, x.2 ≠ .free) (hi : PI X tg iter wi) (ok : BlkOk X.N X.env.scope scope own)
    (hg : ∀ (s : Shared) (H : Hp) (C : Addr) (cl : List (Str × Addr)) (fp : List Addr), PG (X.blk s H scope (compEnvC scope cl C X.env) fp) tg g)
    (he : ∀ (s : Shared) (H : Hp) (C : Addr) (cl : List (Str × Addr)) (fp : List Addr), PE (X.blkE s H scope (compEnvC scope cl C X.env) fp E) elt te) (hs : ∀ x, foldedSetIterable iter X.env x = pure x := by intro _; rfl) :
    PE X (.ListComp elt [⟨tg, iter, [], 0⟩] scope pos) (tLc wi g tYes te (own.map (·.2))) := by
  refine ⟨fun pins s σ H Q I h => ?_⟩
  refine wpAny_ListComp hnf ok.kind (fun y hy e => by rw [ok.uniq y hy, e]) ?_ hs
  refine thn (hi.run pins s σ H _ I h) fun xv sa ha => thn ha fun itv sb hb => ?_
  obtain ⟨it, fp, tn, J, Hb, e, Ib, T, tb, fb, q⟩ := hb
  subst e
  refine wpAny_newObj_type (newEnv_comp ?_) (by show 0 ≤ sizeLine; decide)
  generalize hD : sb.heap.objs.size = D
  have nD : Hb D = none := Ib.hok.fresh (Nat.le_of_eq hD)
  obtain ⟨W, ⟨m0, w0⟩, turn⟩ := q D nD
  have pushed : ∀ b o, sb.heap.get? b = some o → (sb.heap.push { cls := .type "list", data := .seq ([] : List Value).toArray }).get? b = some o := fun b o e => Heap.get?_push_of_some _ e
  have atD : (sb.heap.push { cls := .type "list", data := .seq ([] : List Value).toArray }).get? D = some { cls := .type "list", data := .seq ([] : List Value).toArray } := by
    rw [← hD]
    exact Heap.get?_push_size _ rfl
  have hsz : (sb.heap.push { cls := .type "list", data := .seq ([] : List Value).toArray }).objs.size = sb.heap.objs.size + 1 := Heap.size_push ..
  generalize hc3 : ({ sb with heap := sb.heap.push { cls := .type "list", data := .seq ([] : List Value).toArray } } : Shared) = s3
  have heap3 : s3.heap = sb.heap.push { cls := .type "list", data := .seq ([] : List Value).toArray } := by rw [← hc3]
  have I3 : Inv X pins σ (upd Hb D (.lst [])) s3 := by
    rw [← hc3]
    exact Ib.laid (t' := sb.toks) pushed (Nat.le_of_eq hD) ⟨Nat.zero_le _, [], 0, .nil, atD⟩
  have small : ∀ b ∈ fp, b < sb.heap.objs.size := fun b hb => by
    obtain ⟨o, e, _⟩ := T.obj _ _ tb b hb
    exact Heap.lt_size e
  have f3 : ∀ b ∈ fp, FpOk X pins (upd Hb D (.lst [])) b ∧ b < s3.heap.objs.size := fun b hb => by
    have hlt := small b hb
    refine ⟨⟨?_, (fb b hb).2⟩, by rw [heap3, hsz]; exact Nat.lt_succ_of_lt hlt⟩
    rw [upd_ne (by rw [← hD]; exact Nat.ne_of_lt hlt)]
    exact (fb b hb).1
  have t3 : tn 0 s3.heap := T.keep _ _ _ tb fun b _ o e => by rw [heap3]; exact pushed b o e
  have nfp : ∀ b ∈ fp, (upd Hb D (.lst [])) b = none := fun b hb => (f3 b hb).1.1
  have I4 := block_start I3 ok hN f3
  rw [cloFrom_bare hnf] at I4
  have pg := hg s3 (upd Hb D (.lst [])) s3.heap.objs.size (cellsFrom (s3.heap.objs.size + 1) scope.names []) fp
  have pe := he s3 (upd Hb D (.lst [])) s3.heap.objs.size (cellsFrom (s3.heap.objs.size + 1) scope.names []) fp
  have eE : ({ newEnv scope s3.heap.objs.size X.env.globals (cellsFrom (s3.heap.objs.size + 1) scope.names []) X.env.qual none .none (some X.env) X.env.builtins with scope := scope } : Env) = compEnvC scope (cellsFrom (s3.heap.objs.size + 1) scope.names []) s3.heap.objs.size X.env := by
    unfold compEnvC
    rw [relabel_bare hnf]
    rfl
  generalize hcl : cellsFrom (s3.heap.objs.size + 1) scope.names [] = cl at I4 pg pe eE
  show codeAny _ _ (.compStart (.ListComp elt [⟨tg, iter, [], 0⟩] scope pos) 0 (.ref it) (.ref D) ({ newEnv scope s3.heap.objs.size X.env.globals cl X.env.qual none .none (some X.env) X.env.builtins with scope := scope } : Env))
    (fun r s' => ∃ m, s'.heap.Ns s3.heap.objs.size m ∧ ∀ h', Heap.SameBut s3.heap.objs.size s'.heap h' → match r with
      | .ok _ => EP X pins σ Q (.ref D) { s' with heap := h' }
      | .error x => wpAny (model X.prog X.w) X.A (passOn "comprehension.variables-let-go" x ({ newEnv scope s3.heap.objs.size X.env.globals cl X.env.qual none .none (some X.env) X.env.builtins with scope := scope } : Env)) (EP X pins σ Q) X.xe { s' with heap := h' }) { s3 with heap := pushCells (s3.heap.push { cls := .type "dict", data := .dict #[] }) scope.names }
  rw [eE]
  have cL : (compEnvC scope cl s3.heap.objs.size X.env).locals = s3.heap.objs.size := rfl
  have cF : (compEnvC scope cl s3.heap.objs.size X.env).frame = X.env.frame := rfl
  generalize compEnvC scope cl s3.heap.objs.size X.env = ce at I4 pg pe cL cF ⊢
  have ff : ∀ b ∈ fp, FpOk X pins (upd Hb D (.lst [])) b := fun b hb => (f3 b hb).1
  generalize hH3 : upd Hb D (.lst []) = H3 at I3 I4 pg pe w0 nfp ff
  generalize hs4 : ({ s3 with heap := pushCells (s3.heap.push { cls := .type "dict", data := .dict #[] }) scope.names } : Shared) = s4 at I4 ⊢
  have t4 : tn 0 s4.heap := T.keep _ _ _ t3 fun b _ o e => by rw [← hs4]; exact pushCells_keeps _ _ _ _ (Heap.get?_push_of_some _ e)
  have still : ∀ {σ' : St} {H' : Hp} {s' : Shared}, Inv (X.blk s3 H3 scope ce fp) [] σ' H' s' → (∀ b ∈ fp, H' b = none) → ∀ b ∈ fp, FpOk (X.blk s3 H3 scope ce fp) [] H' b := fun {σ' H' s'} I' hn b hb =>
    ⟨hn b hb, (I'.ok.exf b hb).1, I'.ok.exfs b hb, .inl hb, fun x c e => (I'.ok.exf b hb).2 x c e, fun p hp => absurd (show p ∈ ([] : List (Addr × Obj)) ++ [] from hp) (by simp)⟩
  generalize hR : (fun (r : Result) (s' : Shared) => ∃ m, s'.heap.Ns s3.heap.objs.size m ∧ ∀ h', Heap.SameBut s3.heap.objs.size s'.heap h' → match r with
      | .ok _ => EP X pins σ Q (.ref D) { s' with heap := h' }
      | .error x => wpAny (model X.prog X.w) X.A (passOn "comprehension.variables-let-go" x ce) (EP X pins σ Q) X.xe { s' with heap := h' }) = R
  have rOk : ∀ s' m H', Inv X pins σ H' s' → Q (.ref D) H' → s'.heap.Ns s3.heap.objs.size m → FpOk X pins H' s3.heap.objs.size → R (.ok .next) s' := fun s' m H' I' qq hn f => by
    rw [← hR]
    refine ⟨m, hn, fun h'' sb => ?_⟩
    obtain ⟨f0, f1, f2, f3, f4, f5⟩ := f
    exact ⟨.ref D, H', I'.turned (t' := s'.toks) (fun b o hb e => (sb.2 b hb).trans e) f0 f1 f3 f4 f5, rfl, qq⟩
  have rErr : ∀ u s', (∃ (pins : List (Addr × Obj)) (σ : St) (H1 : Hp) (s1 : Shared), Inv (X.blk s3 H3 scope ce fp) pins σ H1 s1 ∧ CX X.prog X.w X.stack H1 s1 E u s') → notedBy (model X.prog X.w) X.A ce (fun e s' => R (.error e) s') u s' := fun u s' x => by
    refine block_left (cv := ce) (Q := EP X pins σ Q) hst hf tk I3 ff rfl cL cF cF x fun s5 h5 => ?_
    rw [← hR]
    exact h5
  have loop : codeAny (model X.prog X.w) X.A (.compLoop (.ListComp elt [⟨tg, iter, [], 0⟩] scope pos) 0 (.ref it) (.ref D) ce) R s4 := by
    refine compLoop_any (fun n s' => ∃ i H', Inv (X.blk s3 H3 scope ce fp) [] (wipe σ (own.map (·.2))) H' s' ∧ tn i s'.heap ∧ (∀ b ∈ fp, H' b = none) ∧ W i n H') ?_ m0 ⟨0, H3, I4, t4, nfp, w0⟩
    rintro n s5 ⟨i, H5, I5, t5, n5, w5⟩
    rcases turn i n H5 w5 with ⟨stop, qq⟩ | ⟨go, Nx, hNx, step⟩
    · refine thnF (T.done (X.blk s3 H3 scope ce fp) rfl rfl rfl hc i [] s5 _ H5 (fun _ _ => False) I5 (still I5 n5) t5 stop) fun r s6 ⟨hr, I6⟩ => ?_
      subst hr
      have I7 : Inv X pins σ H5 s6 := I3.call' (ch := fp) I6.os I6.base I6.hok I6.bare fun b hb => ⟨(ff b hb).2.2.2.1, (ff b hb).2.1, (ff b hb).2.2.2.2.1, (ff b hb).2.2.2.2.2⟩
      have nC : H5 s3.heap.objs.size = none := by
        have z : H5 ce.locals = none := I6.free
        rw [cL] at z
        exact z
      obtain ⟨m, hn, _⟩ := I6.loc
      have hn : s6.heap.Ns ce.locals m := hn
      rw [cL] at hn
      exact rOk s6 m H5 I7 qq hn (I3.fpOk (Nat.le_refl _) nC)
    · refine thnF (T.item (X.blk s3 H3 scope ce fp) rfl rfl rfl hc i [] s5 _ H5 (fun _ _ => False) I5 (still I5 n5) t5 go) fun r s6 ⟨u, hr, h6⟩ => ?_
      subst hr
      refine thnF h6 fun _ s7 ⟨x, H7, I7, r7, y7, t7, n7⟩ => ?_
      have J7 := I7.pinned (still I7 n7) (T.obj _ _ t7)
      refine thnF (pg.run _ s7 _ H7 x u _ J7 r7 (step x H7 y7)) fun _ s8 ⟨σ8, H8, I8, hw8, q8⟩ => ?_
      refine thnF ((pts_nil (X := X.blk s3 H3 scope ce fp)).run _ s8 σ8 H8 _ I8 q8) fun b s9 ⟨H9, I9, q9⟩ => ?_
      have ends : ∀ {s' : Shared} {H' : Hp}, Inv (X.blk s3 H3 scope ce fp) ([] ++ pinsAt fp s7.heap) σ8 H' s' → Nx H' → ∃ m, m < n ∧ ∃ i H', Inv (X.blk s3 H3 scope ce fp) [] (wipe σ (own.map (·.2))) H' s' ∧ tn i s'.heap ∧ (∀ b ∈ fp, H' b = none) ∧ W i m H' := fun {s' H'} I' nx => by
        obtain ⟨m', hm, w'⟩ := hNx H' nx
        have held : ∀ b ∈ fp, ∀ o, s7.heap.get? b = some o → s'.heap.get? b = some o ∧ H' b = none := fun b hb o e =>
          let z := I'.pin (b, o) (List.mem_append_right _ (List.mem_append_right _ (mem_pinsAt hb e)))
          ⟨z.1, z.2.1⟩
        have hl : (wipe σ (own.map (·.2))).length = σ8.length := by rw [← hw8, wipe_length]
        refine ⟨m', hm, i + 1, H', (I'.unpinned (pins := [])).weak hl (fun j v e => ?_), T.keep _ _ _ t7 fun b hb o e => (held b hb o e).1, fun b hb => ?_, w'⟩
        · rw [← hw8] at e
          exact (wipe_some e).1
        · obtain ⟨o, e, _⟩ := T.obj _ _ t7 b hb
          exact (held b hb o e).2
      cases b with
      | false =>
        simp only [Bool.false_eq_true, if_false] at q9 ⊢
        exact ends I9 q9
      | true =>
        simp only [if_true] at q9 ⊢
        refine wpAny_mono (pe.run _ s9 σ8 H9 _ (I9.wish _) q9) (fun z s10 ⟨yv, H10, I10, r10, acc, hD10, hz10, nx⟩ => ?_) fun u s10 x => rErr u s10 x
        exact app_ok (X := X.blk s3 H3 scope ce fp) I10.unwish hD10 hz10 r10 fun s11 I11 => ends I11 nx
  exact codeAny_compStart_list loop (T.self X.A 0 _ _ _ t4 loop)
end
end L2

/-! enumerate(list, start=1) -/
namespace L2
open PySem PySem.Spec PyProof.Rows
/-- the list at a as it stands at each turn, each item in a new pair, counted from 1 -/
def Ite1 (K : PySem.W.Frag) (a : Addr) : It :=
  ⟨fun i H => ∃ (xs : List V) (x : V), SqL K H a xs ∧ xs[i]? = some x, fun i H v H' => ∃ T x, v = .ref T ∧ H T = none ∧ H' = upd H T (.tup [.int ((i + 1 : Nat) : Int), x]) ∧ ∀ xs, SqL K H a xs → xs[i]? = some x, fun i H => ∃ xs : List V, SqL K H a xs ∧ xs.length = i⟩
theorem turn_enum1 {P : Program} {w : World} {K : PySem.W.Frag} {elts : List Expr} {kk : Nat} {tpos : Pos} (a e it : Addr) :
    Turn P w K (.Tuple elts kk tpos) (Ite1 K a) [e, it] e (fun i h => (∃ old, IsEnum h e it ((i + 1 : Nat) : Int) old) ∧ h.IsListIter it a i ∧ e ≠ it) where
  mem := by simp
  obj := fun i h st b hb => by
    obtain ⟨⟨old, he⟩, ⟨o, ho, hc, hd⟩, _⟩ := st
    have e' : b = e ∨ b = it := by simpa using hb
    rcases e' with z | z
    · rw [z]; exact ⟨_, he, fun v q => nomatch q⟩
    · rw [z]; exact ⟨o, ho, fun v q => by rw [hd] at q; cases q⟩
  keep := fun i h h' st k => let ⟨⟨old, he⟩, hi, hne⟩ := st; ⟨⟨old, k e (by simp) _ he⟩, hi.at fun o q => k it (by simp) o q, hne⟩
  item := by
    intro X hP hw hK hc i pins s σ H E I hf st hg
    subst hP hw hK
    obtain ⟨⟨old, he⟩, hit, hne⟩ := st
    obtain ⟨xs, x, hq, hx⟩ := hg
    obtain ⟨its, rv, p, hz⟩ := I.list hq
    obtain ⟨u, hu, ru⟩ := rv.get hx
    have hel : e < s.heap.objs.size := Heap.lt_size he
    have hil : it < s.heap.objs.size := by obtain ⟨_, q, _⟩ := hit; exact Heap.lt_size q
    have hal : a ≠ it := fun z => by
      obtain ⟨o1, h1, c1, _⟩ := hit
      obtain ⟨o2, h2, c2, _⟩ := p.isList
      rw [z, h1] at h2
      cases h2
      rw [c1] at c2
      exact absurd c2 (by decide)
    have hea : e ≠ a := fun z => by
      obtain ⟨o2, h2, c2, _⟩ := p.isList
      rw [← z, he] at h2
      cases h2
      exact absurd (show Value.type "enumerate" = Value.type "list" from c2) (by decide)
    have hlt : i < its.toArray.size := by
      rw [List.size_toArray]
      exact (List.getElem?_eq_some_iff.mp hu).1
    have hh : X.A.in1.handled = none := I.ok.hd hc
    refine wpAny_pyNext_enum_itemC (Draws.list hh it a hal its.toArray) he ⟨hit, p.isList⟩ hlt hne (by simp [hne, hea]) fun x' h' tk hP ho hit' hT hsz hk => ?_
    have ex : x' = u := by
      have h2 : its.toArray[i]? = some u := by simpa using hu
      rw [h2] at hP
      exact (Option.some.inj hP).symm
    subst ex
    refine ⟨_, rfl, wpAny_letOwnedTupleGo_enum (s := { s with heap := h', toks := tk + 1 }) ho fun h'' he' sb => ?_⟩
    have hT2 : h''.get? s.heap.objs.size = some { cls := .type "tuple", data := .seq #[.int ((i + 1 : Nat) : Int) tk, x'] } := (sb.2 _ (Nat.ne_of_gt hel)).trans hT
    have new : ObjOk X.prog X.w (upd H s.heap.objs.size (.tup [.int ((i + 1 : Nat) : Int), x])) h'' s.heap.objs.size (.tup [.int ((i + 1 : Nat) : Int), x]) :=
      ⟨by show 2 ≤ sizeLine; decide, [.int ((i + 1 : Nat) : Int) tk, x'], .cons ⟨_, rfl⟩ (.cons ru .nil), ⟨_, hT2, rfl, _, rfl⟩⟩
    have I1 : Inv X pins σ (upd H s.heap.objs.size (.tup [.int ((i + 1 : Nat) : Int), x])) { s with heap := h'', toks := tk + 1 } :=
      I.turnedNew (ch := [e, it]) (fun b ob hb q => (sb.2 b (fun z => hb (by simp [z]))).trans (hk b ob (fun z => hb (by simp [z])) (fun z => hb (by simp [z])) q)) hf (Nat.le_refl _) new
    refine ⟨.ref s.heap.objs.size, _, I1, rfl, ⟨_, x, rfl, I.hok.fresh (Nat.le_refl _), rfl, fun ys hy => by rw [I.list_inj hy hq]; exact hx⟩, ⟨⟨x', ?_⟩, hit'.1.at fun o q => (sb.2 it (Ne.symm hne)).trans q, hne⟩, fun b hb => ?_⟩
    · have e1 : ((i + 1 + 1 : Nat) : Int) = ((i + 1 : Nat) : Int) + 1 := by omega
      rw [e1]; exact he'
    · have hb' : b < s.heap.objs.size := by
        have e' : b = e ∨ b = it := by simpa using hb
        rcases e' with z | z
        · rw [z]; exact hel
        · rw [z]; exact hil
      rw [upd_ne (Nat.ne_of_lt hb')]
      exact (hf b hb).1
  done := by
    intro X hP hw hK hc i pins s σ H E I hf st hg
    subst hP hw hK
    obtain ⟨⟨old, he⟩, hit, hne⟩ := st
    obtain ⟨xs, hq, hx⟩ := hg
    obtain ⟨its, rv, p, hz⟩ := I.list hq
    obtain ⟨f0, f1, f2, f3, f4, f5⟩ := hf it (by simp)
    have hl := rv.length
    have hal : a ≠ it := fun z => by
      obtain ⟨o1, h1, c1, _⟩ := hit
      obtain ⟨o2, h2, c2, _⟩ := p.isList
      rw [z, h1] at h2
      cases h2
      rw [c1] at c2
      exact absurd c2 (by decide)
    have hh : X.A.in1.handled = none := I.ok.hd hc
    have hin : i = its.toArray.size := by
      rw [List.size_toArray]
      omega
    have D := Draws.list (prog := X.prog) (w := X.w) hh it a hal its.toArray
    rw [hin] at hit
    exact wpAny_pyNext_enum_endD D he ⟨hit, p.isList⟩ fun h' eb => ⟨rfl, I.turned (t' := s.toks) (fun b o hb q => eb b o hb q) f0 f1 f3 f4 f5⟩
  self := fun A i s Q E st h => let ⟨⟨_, he⟩, _⟩ := st; wpAny_pyIter_enum he h
def iEnum1 (K : PySem.W.Frag) (ta : TA) : TI := fun σ H R => ta σ H fun vs H1 => ∃ a xs, vs = [.ref a] ∧ SqL K H1 a xs ∧ R (Ite1 K a) H1
section
variable {M : Model} {A : Around} {E : Value → Shared → Prop} {s : Shared} {env : Env}
theorem callWith_type_kwB {pos : Pos} {T : String} {first : List Value} {args : List (Bool × Sem Value)} {keywords : List (Option Str × Sem Value)} {Q : Value → Shared → Prop}
    (hplain : args.any (·.1) = false) (hkw : keywords.any (·.1.isNone) = false)
    (h : wpAny M A (evalArgs (.type T) true args keywords) (fun a s₁ => wpAny M A (call (.type T) (first ++ a.pos) a.kw) Q E s₁) E s) :
    wpAny M A (callWith pos (.type T) first args keywords) Q E s := by
  unfold callWith
  refine wpAny_bind (wpAny_holding (wpAny_mono h (fun a s₁ h₁ => wpAny_bind (wpAny_standAt ?_)) fun _ _ x => x))
  simp only [hplain, hkw, Bool.or_false]
  refine wpAny_bind (wpAny_pure ?_)
  exact wpAny_bind (wpAny_mono h₁ (fun r s₂ hr => wpAny_bind (wpAny_holding (wpAny_point (wpAny_pure hr)))) fun _ _ x => x)
end
theorem pi_enum1 {X : Cx} {e : Expr} {te : TE} {p pos tpos p1 kp : Pos} {j : Nat} {elts : List Expr} {kk : Nat} (hg : Gl X "enumerate") (hm : X.mg "enumerate" = none) (he : PE X e te) (hs : starEach [e] X.env = [(false, eval e X.env)] := by rfl)
    (hcall : eval (.Call (.Name "enumerate" p) [e] [⟨some "start", .Constant (.int 1) j p1, kp⟩] pos) X.env = (do callWith pos (← eval (.Name "enumerate" p) X.env) [] (backTo pos (starEach [e] X.env)) (backToKw pos (keywordEach [⟨some "start", .Constant (.int 1) j p1, kp⟩] X.env))) := by rfl) :
    PI X (.Tuple elts kk tpos) (.Call (.Name "enumerate" p) [e] [⟨some "start", .Constant (.int 1) j p1, kp⟩] pos) (iEnum1 X.K (tCons te tNil)) := by
  refine ⟨fun pins s σ H R I h => ?_⟩
  rw [hcall]
  refine wpAny_bind (ld_blt I hg hm boot_enumerate (callWith_type_kwB (by rw [hs]; rfl) rfl ?_))
  have ha := (pa_cons he pa_nil hs).run pos pins s σ H _ I h
  rw [hs] at ha ⊢
  refine PyProof.Rows.evalArgs_kwB rfl (thn ha fun us s1 ⟨vs, H1, I1, r1, q1⟩ => ?_)
  refine PyProof.Rows.kws_cons (thn ((pe_int (X := X) (i := 1) (j := j) (pos := p1)).run pins s1 σ H1 (fun x H2 => x = .int 1 ∧ H2 = H1) I1 ⟨rfl, rfl⟩) fun v s2 ⟨x, H2, I2, rx, ex, eh⟩ => PyProof.Rows.kws_nil ?_)
  subst ex
  subst eh
  obtain ⟨t, rfl⟩ := rx
  obtain ⟨a, xs, ev, hq, q⟩ := q1
  subst ev
  cases r1 with
  | cons r rr =>
    cases rr
    cases r
    obtain ⟨its, rv, p', hz⟩ := I2.list hq
    show wpAny _ _ (call (.type "enumerate") [.ref a] [(Str.ofString "start", .int 1 t)]) _ _ _
    refine enum_begins_start (begins_list a its.toArray) p'.isList (by decide) (by decide) fun h' he hit hsz hk => wpAny_pyIter_enum he ?_
    have I3 : Inv X pins σ H2 { s2 with heap := h' } := I2.kept (t' := s2.toks) hk
    refine ⟨s2.heap.objs.size + 1, [s2.heap.objs.size + 1, s2.heap.objs.size], _, _, H2, rfl, I3, turn_enum1 a (s2.heap.objs.size + 1) s2.heap.objs.size, ⟨⟨.none, he⟩, ⟨_, hit, rfl, rfl⟩, Nat.succ_ne_self _⟩, fun b hb => ?_, q⟩
    have e' : b = s2.heap.objs.size + 1 ∨ b = s2.heap.objs.size := by simpa using hb
    have hle : s2.heap.objs.size ≤ b := by
      rcases e' with z | z
      · rw [z]; exact Nat.le_add_right _ _
      · rw [z]; exact Nat.le_refl _
    exact I2.fpOk hle (I2.hok.fresh hle)
end L2

namespace Kx
open PySem PySem.Spec PyProof.Rows L2 NdefX Kr Ke
def topS (i : Nat) : Stmt := PySem.Challenge.pw_letforget_k04_whole_written_history.main.body.getD i (.Pass ⟨0, 0, 0, 0⟩)
/-! ### names -/
def LET : Str := "abcdefghijklmnopqrstuvwxyz"
def DIG : Str := "0123456789"
abbrev inL (c : Nat) : Bool := decide (c ∈ LET.cps.toList)
abbrev inD (c : Nat) : Bool := decide (c ∈ DIG.cps.toList)
/-- signs that make a name -/
def okN (l : List Nat) : Bool := decide (1 ≤ l.length) && decide (l.length ≤ 8) && inL (l.headD 0) && l.all fun c => inL c || inD c
def nameB (z : Str) : Bool := okN z.cps.toList
/-- what the program asks of its built-ins and constants -/
structure TxS (mg : Str → Option Value) : Prop extends TB mg where
  m_all : mg "all" = none
  m_isinstance : mg "isinstance" = none
  m_str : mg "str" = none
  m_tuple : mg "tuple" = none
  m_set : mg "set" = none
  c_LETTERS : GC mg "LETTERS" (.str LET)
  c_DIGITS : GC mg "DIGITS" (.str DIG)
  c_LONGEST_NAME : GC mg "LONGEST_NAME" (.int 8)
abbrev s_valid_name : Stmt := topS 8
abbrev N_valid_name : List Str := ["text", "sign"]
theorem sc_valid_name : FnScope N_valid_name ["text"] (defScope s_valid_name) := ⟨rfl, rfl, rfl, by decide +kernel, rfl, by decide +kernel, by decide +kernel⟩
/-- valid_name, is_name: a text of at most 1000 signs, told whether it is a name -/
def spName : Sp := fun vs H Q _ => ∃ z : Str, vs = [.str z] ∧ z.length ≤ 1000 ∧ ∀ H', Same H H' → Q (.bl (nameB z)) H'
theorem take_bl (l : List Nat) (f : Nat → Bool) (i : Nat) (c : Nat) (h : l[i]? = some c) : (l.take (i + 1)).map (fun c => V.bl (f c)) = (l.take i).map (fun c => V.bl (f c)) ++ [V.bl (f c)] := by
  rw [List.take_add_one, h, List.map_append]
  rfl
section
variable {P : Program} {w : World} {K : PySem.W.Frag} {mg : Str → Option Value} {base : Heap}
theorem ok_valid_name {f : Addr} {fd : FuncData} (F : Fun K "valid_name" "valid_name" s_valid_name f fd) (T : TxS mg) : FnOk P w K mg base CX0 1 f fd ["text"] spName := by
  refine F.ok sc_valid_name (fun vs H Q E h => ?_) (fun cdv A outer s H vs Q E hr h => ?_)
  · obtain ⟨z, rfl, _⟩ := h
    rfl
  · obtain ⟨z, rfl, hz, q⟩ := h
    have hsz : z.length ≤ sizeLine := sz9 (by omega)
    refine ⟨_, (pss_cons (ps_if (pt_not (pt_chain op_le op_le pe_int (pe_callB call_len_str (by rfl) T.m_len (by decide +kernel) (pa_cons (pv 0) pa_nil)) (pe_gc T.c_LONGEST_NAME rfl)))
        (pss_one (ps_ret pe_bl))
        pss_nil)
      (pss_cons (ps_if (pt_cmpR op_notIn_sign (pe_ix ix_str (pv 0) pe_int (fun _ _ => rfl)) (pe_gc T.c_LETTERS rfl) rfl)
        (pss_one (ps_ret pe_bl))
        pss_nil)
      (pss_one (ps_ret (pe_callB (cr_all rfl) (by rfl) T.m_all (by decide +kernel) (pa_cons (pe_lc (own := [("sign", 1)]) (g := gName 1) (tt := tYes) rfl sc_valid_name.nd (pi_str (pv 0)) (blkOk_by (own := [("sign", 1)]) (N := N_valid_name) (sc := defScope s_valid_name) (by decide +kernel)) (fun _ _ _ _ _ => pg_name (i := 1) sc_valid_name.nd rfl (Or.inl rfl)) (fun _ _ _ _ _ => pts_nil) (fun _ _ _ _ _ => (pe_or (pe_cmpR op_in_sign (pv 1) (pe_gc T.c_LETTERS rfl) rfl) (pe_one (pe_cmpR op_in_sign (pv 1) (pe_gc T.c_DIGITS rfl) rfl))))) pa_nil)))))), ?_⟩
    refine ⟨_, rfl, _, rfl, hsz, _, _, rfl, rfl, _, rfl, iteB (fun h1 => ?_) (fun h1 => ?_)⟩
    · refine ⟨_, _, rfl, rfl, _, rfl, iteB (fun h2 => ?_) (fun h2 => ?_)⟩
      · have h2' : ¬ ((z.length : Int) ≤ 8) := of_decide_eq_false (Bool.not_eq_true' _ ▸ h2)
        have e : nameB z = false := by
          unfold nameB okN
          rw [decide_eq_false (show ¬ z.cps.toList.length ≤ 8 by rw [Array.length_toList]; show ¬ z.length ≤ 8; omega)]
          simp
        exact e ▸ q H (Same.refl H)
      · have h2' : ((z.length : Int) ≤ 8) := of_decide_eq_true (by simpa using h2)
        have h1' : (1 : Int) ≤ (z.length : Int) := of_decide_eq_true h1
        obtain ⟨c, r, hc⟩ : ∃ c r, z.cps.toList = c :: r := by
          cases hl : z.cps.toList with
          | nil =>
            have := congrArg List.length hl
            rw [Array.length_toList] at this
            have e : z.length = 0 := this
            omega
          | cons c r => exact ⟨c, r, rfl⟩
        have hat : atI z.cps.toList 0 = some c := by rw [hc]; exact atI_nat (j := 0) rfl
        have hlen : z.cps.toList.length = z.length := Array.length_toList
        have eN : nameB z = (inL c && (c :: r).all fun c => inL c || inD c) := by
          unfold nameB okN
          rw [decide_eq_true (show z.cps.toList.length ≤ 8 by omega), decide_eq_true (show 1 ≤ z.cps.toList.length by omega), hc]
          rfl
        refine ⟨_, rfl, z, 0, c, rfl, rfl, hsz, hat, c, LET, rfl, rfl, _, rfl, iteB (fun h3 => ?_) (fun h3 => ?_)⟩
        · have e3 : inL c = false := by simpa using h3
          have e4 : nameB z = false := by rw [eN, e3]; rfl
          exact e4 ▸ q H (Same.refl H)
        · have e3 : inL c = true := by simpa using h3
          refine ⟨_, rfl, z, rfl, fun D hD => ?_⟩
          refine ⟨fun i m H1 => i + m = z.cps.toList.length ∧ Same H H1 ∧ H1 D = some (.lst ((z.cps.toList.take i).map fun c => V.bl (inL c || inD c))),
            ⟨z.cps.toList.length, by omega, same_upd hD, upd_same⟩, fun i m H1 hW => ?_⟩
          obtain ⟨em, sm, eD⟩ := hW
          by_cases hi : i < z.cps.toList.length
          · refine .inr ⟨(by show i < z.cps.size; rw [← Array.length_toList]; exact hi), fun H2 => Same H H2 ∧ H2 D = some (.lst ((z.cps.toList.take (i + 1)).map fun c => V.bl (inL c || inD c))), fun H2 hN => ⟨m - 1, by omega, by omega, hN.1, hN.2⟩, fun x H2 hy => ?_⟩
            obtain ⟨rfl, d, hd, rfl⟩ := hy
            have hd' : z.cps.toList[i]? = some d := by rw [Array.getElem?_toList]; exact hd
            refine ⟨rfl, _, rfl, d, LET, rfl, rfl, _, rfl, ?_⟩
            have fin : ∀ b : Bool, b = (inL d || inD d) → ∃ acc, H2 D = some (.lst acc) ∧ acc.length < sizeLine ∧ (Same H (upd H2 D (.lst (acc ++ [.bl b]))) ∧ (upd H2 D (.lst (acc ++ [.bl b]))) D = some (.lst ((z.cps.toList.take (i + 1)).map fun c => V.bl (inL c || inD c)))) := by
              rintro b rfl
              refine ⟨_, eD, ?_, same_mut sm hD, ?_⟩
              · rw [List.length_map, List.length_take]
                exact sz8 (by omega)
              · rw [upd_same, take_bl _ _ _ _ hd']
            refine iteB (fun h4 => ?_) (fun h4 => ?_)
            · exact fin true (by rw [show inL d = true from h4]; rfl)
            · refine ⟨_, rfl, d, DIG, rfl, rfl, ?_⟩
              exact fin _ (by rw [show inL d = false from h4]; rfl)
          · refine .inl ⟨(by show z.cps.size ≤ i; rw [← Array.length_toList]; omega), ?_⟩
            refine ⟨D, z.cps.toList.map fun c => inL c || inD c, rfl, .inl (.inl ?_), ?_⟩
            · rw [eD, List.take_of_length_le (by omega), List.map_map]
              rfl
            · rw [e3, Bool.true_and, ← hc] at eN
              have e5 : (z.cps.toList.map fun c => inL c || inD c).all id = nameB z := by
                rw [eN, List.all_map]
                rfl
              rw [e5]
              exact q H1 sm
    · have h1' : ¬ ((1 : Int) ≤ (z.length : Int)) := of_decide_eq_false h1
      refine ⟨_, rfl, iteT ?_⟩
      have e : nameB z = false := by
        unfold nameB okN
        rw [decide_eq_false (show ¬ 1 ≤ z.cps.toList.length by rw [Array.length_toList]; show ¬ 1 ≤ z.length; omega)]
        simp
      exact e ▸ q H (Same.refl H)
end
section
variable {P : Program} {w : World} {K : PySem.W.Frag} {mg : Str → Option Value} {base : Heap}
theorem okN_iff (l : List Nat) (h1 : 1 ≤ l.length) (h8 : l.length ≤ 8) : okN l = (inL (l.headD 0) && l.all fun c => inL c || inD c) := by
  unfold okN
  rw [decide_eq_true h1, decide_eq_true h8]
  rfl
abbrev s_lname : Stmt := topS 21
abbrev N_lname : List Str := ["_law_part", "_law_k"]
theorem sc_lname : FnScope N_lname ["_law_part"] (defScope s_lname) := ⟨rfl, rfl, rfl, by decide +kernel, rfl, by decide +kernel, by decide +kernel⟩
theorem ok_lname {f : Addr} {fd : FuncData} (F : Fun K "_law_is_name" "_law_is_name" s_lname f fd) (T : TxS mg) : FnOk P w K mg base CX0 1 f fd ["_law_part"] spName := by
  refine F.ok sc_lname (fun vs H Q E h => ?_) (fun cdv A outer s H vs Q E hr h => ?_)
  · obtain ⟨z, rfl, _⟩ := h
    rfl
  · obtain ⟨z, rfl, hz, q⟩ := h
    have hsz : z.length ≤ sizeLine := sz9 (by omega)
    have hlen : z.cps.toList.length = z.length := Array.length_toList
    refine ⟨_, (pss_cons (ps_if (PW.pt (pw_or (pt_not (pt_val (pe_callB call_isi (by rfl) T.m_isinstance (by decide +kernel) (pa_cons (pv 0) (pa_cons (pe_bltn (v := .ty "str") (by rfl) T.m_str (by decide +kernel) rfl) pa_nil))))) (pw_or (pt_cmpR op_lt (pe_callB call_len_str (by rfl) T.m_len (by decide +kernel) (pa_cons (pv 0) pa_nil)) pe_int (nomark _)) (pw_or1 (pt_cmpR op_gt (pe_callB call_len_str (by rfl) T.m_len (by decide +kernel) (pa_cons (pv 0) pa_nil)) pe_int (nomark _))))))
        (pss_one (ps_ret pe_bl))
        pss_nil)
      (pss_cons (ps_for PassesOwn.never rfl (pi_range1 (by rfl) T.m_range (pa_cons (pe_callB call_len_str (by rfl) T.m_len (by decide +kernel) (pa_cons (pv 0) pa_nil)) pa_nil)) (pg_name (i := 1) sc_lname.nd rfl (Or.inl rfl))
        (pss_one (ps_if (pt_cmpR op_notIn_sign (pe_ix ix_str (pv 0) (pv 1) (fun _ _ => rfl)) pe_str rfl)
          (pss_one (ps_if (PW.pt (pw_or (pt_cmpR op_eq (pv 1) pe_int (nomark _)) (pw_or1 (pt_cmpR op_notIn_sign (pe_ix ix_str (pv 0) (pv 1) (fun _ _ => rfl)) pe_str rfl))))
            (pss_one (ps_ret pe_bl))
            pss_nil))
          pss_nil)))
      (pss_one (ps_ret pe_bl)))), ?_⟩
    have bad : nameB z = false → Q (.bl false) H := fun e => e ▸ q H (Same.refl H)
    refine ⟨_, rfl, .str z, .ty "str", .type "str", .type "str", true, rfl, .ty "str", .base (.str z), kit_ty (by decide +kernel), _, rfl, iteF ?_⟩
    refine ⟨_, rfl, z, rfl, hsz, _, _, rfl, rfl, _, rfl, iteB (fun h1 => iteT ?_) (fun h1 => ?_)⟩
    · refine bad ?_
      have := of_decide_eq_true h1
      unfold nameB okN
      rw [decide_eq_false (show ¬ 1 ≤ z.cps.toList.length by omega)]
      rfl
    refine ⟨_, rfl, z, rfl, hsz, _, _, rfl, rfl, _, rfl, iteB (fun h2 => ?_) (fun h2 => ?_)⟩
    · refine bad ?_
      have := of_decide_eq_true h2
      unfold nameB okN
      rw [decide_eq_false (show ¬ z.cps.toList.length ≤ 8 by omega)]
      simp
    have h1' := of_decide_eq_false h1
    have h2' := of_decide_eq_false h2
    have eN : nameB z = _ := okN_iff z.cps.toList (by omega) (by omega)
    refine ⟨_, rfl, z, rfl, hsz, _, rfl, by omega, by omega, ?_⟩
    refine for_range (lo := 0) (n := ((z.length : Nat) : Int).toNat) (fun i σ H1 => ∃ x1, σ = [some (.str z), x1] ∧ H1 = H ∧ ∀ j c, j < i → z.cps.toList[j]? = some c → (inL c || inD c) = true ∧ (j = 0 → inL c = true))
      ⟨none, rfl, rfl, fun j c hj => absurd hj (Nat.not_lt_zero _)⟩ ?_ ?_
    · rintro i σ H1 hi ⟨x1, rfl, rfl, hok⟩
      have hil : i < z.cps.toList.length := by omega
      obtain ⟨c, hc⟩ : ∃ c, z.cps.toList[i]? = some c := ⟨_, List.getElem?_eq_getElem hil⟩
      have hat : atI z.cps.toList ((0 : Int) + (i : Int)) = some c := by rw [Int.zero_add]; exact atI_nat hc
      have good : (inL c || inD c) = true → (i = 0 → inL c = true) → ∀ j d, j < i + 1 → z.cps.toList[j]? = some d → (inL d || inD d) = true ∧ (j = 0 → inL d = true) := fun a b j d hj hd => by
        by_cases e : j = i
        · subst e
          rw [hc] at hd
          cases hd
          exact ⟨a, b⟩
        · exact hok j d (by omega) hd
      refine ⟨_, rfl, _, rfl, z, _, c, rfl, rfl, hsz, hat, c, LET, rfl, rfl, _, rfl, iteB (fun h3 => ?_) (fun h3 => ?_)⟩
      · have e3 : inL c = false := by simpa using h3
        refine ⟨_, rfl, rfl, _, rfl, iteB (fun h4 => iteT ?_) (fun h4 => ?_)⟩
        · have h4' : (0 : Int) + (i : Int) = 0 := V.int.inj (of_decide_eq_true h4)
          refine bad ?_
          have ei : i = 0 := by omega
          subst ei
          have hh : z.cps.toList.headD 0 = c := by
            cases hl : z.cps.toList with
            | nil => rw [hl] at hc; simp at hc
            | cons a r => rw [hl] at hc; exact Option.some.inj hc
          rw [eN, hh, e3]
          rfl
        · have h4' : ¬ (i = 0) := fun e => by
            have := of_decide_eq_false h4
            subst e
            exact this rfl
          refine ⟨_, rfl, _, rfl, z, _, c, rfl, rfl, hsz, hat, c, DIG, rfl, rfl, _, rfl, iteB (fun h5 => ?_) (fun h5 => ?_)⟩
          · have e5 : inD c = false := by simpa using h5
            refine bad ?_
            rw [eN]
            have : (z.cps.toList.all fun c => inL c || inD c) = false := by
              rw [List.all_eq_false]
              refine ⟨c, List.mem_of_getElem? hc, ?_⟩
              rw [e3, e5]
              simp
            rw [this, Bool.and_false]
          · have e5 : inD c = true := by simpa using h5
            exact ⟨_, rfl, rfl, good (by rw [e5, Bool.or_true]) fun e => absurd e h4'⟩
      · have e3 : inL c = true := by simpa using h3
        exact ⟨_, rfl, rfl, good (by rw [e3]; rfl) fun _ => e3⟩
    · rintro σ H1 ⟨x1, rfl, rfl, hok⟩
      have e : nameB z = true := by
        rw [eN, Bool.and_eq_true]
        constructor
        · have h0 : 0 < z.cps.toList.length := by omega
          have hh : z.cps.toList.headD 0 = z.cps.toList[0] := by
            rw [List.headD_eq_head?_getD, List.head?_eq_getElem?, List.getElem?_eq_getElem h0]
            rfl
          rw [hh]
          exact (hok 0 _ (by omega) (List.getElem?_eq_getElem h0)).2 rfl
        · rw [List.all_eq_true]
          intro c hc
          obtain ⟨j, hj, e⟩ := List.mem_iff_getElem.mp hc
          exact (hok j c (by omega) (e ▸ List.getElem?_eq_getElem hj)).1
      exact e ▸ q H1 (Same.refl H1)
end
end Kx

namespace Kx
open PySem PySem.Spec PyProof.Rows L2 NdefX Kr Ke Ks
/-- a part of what is passed as a step -/
inductive Part
  | s (z : Str)
  | t (zs : List Str)
def PtAt (H : Hp) : V → Part → Prop
  | x, .s z => x = .str z
  | x, .t zs => ∃ a, x = .ref a ∧ H a = some (.tup (zs.map V.str))
def okP : Part → Prop
  | .s z => Sht z 1000
  | .t zs => zs.length ≤ 900 ∧ ∀ z ∈ zs, Sht z 1000
def nmP : Part → Bool
  | .s z => nameB z
  | .t _ => false
def difP : Part → Bool
  | .s _ => false
  | .t zs => zs.all nameB && decide (zs.Nodup)
def isW : Part → Str → Bool
  | .s z, y => decide (z = y)
  | .t _, _ => false
def pd : Part → PyData
  | .s z => .str z
  | .t zs => .tuple (zs.map PyData.str)
theorem PtAt.same {H H' : Hp} (s : Same H H') : ∀ {x : V} {p : Part}, PtAt H x p → PtAt H' x p
  | _, .s _, h => h
  | _, .t _, ⟨a, e, h⟩ => ⟨a, e, s _ _ h⟩
theorem dps {K : PySem.W.Frag} {H : Hp} : ∀ zs : List Str, DpAll K H (zs.map V.str) (zs.map PyData.str)
  | [] => .nil
  | z :: zs => .cons (.str z) (dps zs)
theorem PtAt.dp {K : PySem.W.Frag} {H : Hp} : ∀ {x : V} {p : Part}, PtAt H x p → Dp K H x (pd p)
  | _, .s z, h => by
    cases (show _ = V.str z from h)
    exact .str z
  | _, .t zs, ⟨a, e, h⟩ => by
    cases e
    exact .tup (.inl (.inl h)) (dps zs)
theorem okAll_strs : ∀ {zs : List Str}, (∀ z ∈ zs, Sht z 1000) → okAll (zs.map PyData.str) = true ∧ costAll (zs.map PyData.str) ≤ 10004 * zs.length ∧ PyData.depthAll (zs.map PyData.str) = 0
  | [], _ => ⟨by simp [okAll], by simp [costAll], by simp [PyData.depthAll]⟩
  | z :: zs, h => by
    obtain ⟨h1, h2, h3⟩ := okAll_strs fun y hy => h y (List.mem_cons_of_mem _ hy)
    have hz := h z List.mem_cons_self
    have h4 := hz.1
    refine ⟨?_, ?_, ?_⟩
    · rw [List.map_cons]
      simp only [okAll, hz.ok, h1, Bool.and_self]
    · rw [List.map_cons, List.length_cons]
      simp only [costAll, costD]
      omega
    · rw [List.map_cons]
      simp only [PyData.depthAll, PyData.depth, h3]
      decide
theorem okP.d : ∀ {p : Part}, okP p → okD (pd p) = true ∧ costD (pd p) ≤ 10000000 ∧ (pd p).depth ≤ 1
  | .s z, h => by
    have h4 := h.1
    refine ⟨h.ok, ?_, by simp [pd, PyData.depth]⟩
    simp only [pd, costD]
    omega
  | .t zs, ⟨h1, h2⟩ => by
    obtain ⟨a, b, c⟩ := okAll_strs h2
    refine ⟨by simpa only [pd, okD] using a, ?_, ?_⟩
    · simp only [pd, costD]
      omega
    · simp only [pd, PyData.depth, c]
      decide
theorem eqv_w : ∀ (p : Part) (y : Str), PyData.eqv (pd p) (.str y) = isW p y
  | .s z, y => by
    simp only [pd, isW, PyData.eqv]
    by_cases h : z = y
    · rw [h, decide_eq_true rfl]
      exact beq_self_eq_true y
    · rw [decide_eq_false h]
      exact beq_eq_false_iff_ne.mpr h
  | .t zs, y => by simp [pd, isW, PyData.eqv]
theorem fn_or {P : Program} {w : World} {K : PySem.W.Frag} {mg : Str → Option Value} {base : Heap} {CX : CXT} {k : Nat} {f : Addr} {fd : FuncData} {ps : List Str} {sp sp' : Sp} (F : FnOk P w K mg base CX k f fd ps sp) (F' : FnOk P w K mg base CX k f fd ps sp') :
    FnOk P w K mg base CX k f fd ps (fun vs H Q E => sp vs H Q E ∨ sp' vs H Q E) :=
  ⟨fun vs H Q E h => h.elim (F.len vs H Q E) (F'.len vs H Q E), fun A outer s H args us vs Q E hr e0 hb r h => h.elim (F.run A outer s H args us vs Q E hr e0 hb r) (F'.run A outer s H args us vs Q E hr e0 hb r)⟩
/-- asked of a part, told what g says of it -/
def spPt (g : Part → Bool) : Sp := fun vs H Q _ => ∃ (x : V) (p : Part), vs = [x] ∧ PtAt H x p ∧ okP p ∧ ∀ H', Same H H' → Q (.bl (g p)) H'
abbrev s_iname : Stmt := topS 13
abbrev N_iname : List Str := ["part"]
theorem sc_iname : FnScope N_iname ["part"] (defScope s_iname) := ⟨rfl, rfl, rfl, by decide +kernel, rfl, by decide +kernel, by decide +kernel⟩
abbrev s_dif : Stmt := topS 14
abbrev N_dif : List Str := ["part", "thing"]
theorem sc_dif : FnScope N_dif ["part"] (defScope s_dif) := ⟨rfl, rfl, rfl, by decide +kernel, rfl, by decide +kernel, by decide +kernel⟩
section
variable {P : Program} {w : World} {K : PySem.W.Frag} {mg : Str → Option Value} {base : Heap}
theorem ok_iname {f : Addr} {fd : FuncData} (F : Fun K "_is_name" "_is_name" s_iname f fd) (T : TxS mg) (C_valid_name : Cal P w K mg base "valid_name" 1 spName) : FnOk P w K mg base CX0 2 f fd ["part"] (spPt nmP) := by
  refine F.ok sc_iname (fun vs H Q E h => ?_) (fun cdv A outer s H vs Q E hr h => ?_)
  · obtain ⟨x, p, rfl, _⟩ := h
    rfl
  · obtain ⟨x, p, rfl, hp, ho, q⟩ := h
    refine ⟨_, (pss_one (ps_ret (pe_and (pe_callB call_isi (by rfl) T.m_isinstance (by decide +kernel) (pa_cons (pv 0) (pa_cons (pe_bltn (v := .ty "str") (by rfl) T.m_str (by decide +kernel) rfl) pa_nil))) (pe_one (pe_cal C_valid_name (hr.mono (by decide)) (by rfl) (pa_cons (pv 0) pa_nil)))))), ?_⟩
    cases p with
    | s z =>
      cases (show x = V.str z from hp)
      refine ⟨_, rfl, .str z, .ty "str", .type "str", .type "str", true, rfl, .ty "str", .base (.str z), kit_ty (by decide +kernel), _, rfl, ?_⟩
      rw [if_pos rfl]
      have h1 := ho.1
      exact ⟨_, rfl, z, rfl, by omega, fun H' s' => q H' s'⟩
    | t zs =>
      obtain ⟨a, rfl, ha⟩ := hp
      refine ⟨_, rfl, .ref a, .ty "str", .type "tuple", .type "str", false, rfl, .ty "str", .base (.tup ha), kit_ty (by decide +kernel), _, rfl, ?_⟩
      rw [if_neg (by decide)]
      exact q H (Same.refl H)
/-- the law's own: a tuple is no name -/
theorem ok_lname2 {f : Addr} {fd : FuncData} (F : Fun K "_law_is_name" "_law_is_name" s_lname f fd) (T : TxS mg) : FnOk P w K mg base CX0 1 f fd ["_law_part"] (spPt nmP) := by
  have A1 := ok_lname (P := P) (w := w) (base := base) F T
  have A2 : FnOk P w K mg base CX0 1 f fd ["_law_part"] (fun vs H Q _ => ∃ (a : Addr) (zs : List Str), vs = [.ref a] ∧ H a = some (.tup (zs.map V.str)) ∧ Q (.bl false) H) := by
    refine F.ok sc_lname (fun vs H Q E h => ?_) (fun cdv A outer s H vs Q E hr h => ?_)
    · obtain ⟨a, zs, rfl, _⟩ := h
      rfl
    · obtain ⟨a, zs, rfl, ha, q⟩ := h
      refine ⟨_, (pss_cons (ps_if (PW.pt (pw_or (pt_not (pt_val (pe_callB call_isi (by rfl) T.m_isinstance (by decide +kernel) (pa_cons (pv 0) (pa_cons (pe_bltn (v := .ty "str") (by rfl) T.m_str (by decide +kernel) rfl) pa_nil))))) (pw_or (pt_cmpR op_lt (pe_callB call_len_str (by rfl) T.m_len (by decide +kernel) (pa_cons (pv 0) pa_nil)) pe_int (nomark _)) (pw_or1 (pt_cmpR op_gt (pe_callB call_len_str (by rfl) T.m_len (by decide +kernel) (pa_cons (pv 0) pa_nil)) pe_int (nomark _))))))
        (pss_one (ps_ret pe_bl))
        pss_nil)
      (pss_cons (ps_for PassesOwn.never rfl (pi_range1 (by rfl) T.m_range (pa_cons (pe_callB call_len_str (by rfl) T.m_len (by decide +kernel) (pa_cons (pv 0) pa_nil)) pa_nil)) (pg_name (i := 1) sc_lname.nd rfl (Or.inl rfl))
        (pss_one (ps_if (pt_cmpR op_notIn_sign (pe_ix ix_str (pv 0) (pv 1) (fun _ _ => rfl)) pe_str rfl)
          (pss_one (ps_if (PW.pt (pw_or (pt_cmpR op_eq (pv 1) pe_int (nomark _)) (pw_or1 (pt_cmpR op_notIn_sign (pe_ix ix_str (pv 0) (pv 1) (fun _ _ => rfl)) pe_str rfl))))
            (pss_one (ps_ret pe_bl))
            pss_nil))
          pss_nil)))
      (pss_one (ps_ret pe_bl)))), ?_⟩
      exact ⟨_, rfl, .ref a, .ty "str", .type "tuple", .type "str", false, rfl, .ty "str", .base (.tup ha), kit_ty (by decide +kernel), _, rfl, iteT q⟩
  refine (fn_or A1 A2).imp fun vs H Q E h => ?_
  obtain ⟨x, p, rfl, hp, ho, q⟩ := h
  cases p with
  | s z =>
    cases (show x = V.str z from hp)
    have h1 := ho.1
    exact .inl ⟨z, rfl, by omega, q⟩
  | t zs =>
    obtain ⟨a, rfl, ha⟩ := hp
    exact .inr ⟨a, zs, rfl, ha, q H (Same.refl H)⟩
theorem ok_dif {f : Addr} {fd : FuncData} (F : Fun K "_are_different_names" "_are_different_names" s_dif f fd) (T : TxS mg) (C_is_name : Cal P w K mg base "_is_name" 2 (spPt nmP)) : FnOk P w K mg base CX0 3 f fd ["part"] (spPt difP) := by
  refine F.ok sc_dif (fun vs H Q E h => ?_) (fun cdv A outer s H vs Q E hr h => ?_)
  · obtain ⟨x, p, rfl, _⟩ := h
    rfl
  · obtain ⟨x, p, rfl, hp, ho, q⟩ := h
    refine ⟨_, (pss_cons (ps_if (pt_not (pt_val (pe_callB call_isi (by rfl) T.m_isinstance (by decide +kernel) (pa_cons (pv 0) (pa_cons (pe_bltn (v := .ty "tuple") (by rfl) T.m_tuple (by decide +kernel) rfl) pa_nil)))))
        (pss_one (ps_ret pe_bl))
        pss_nil)
      (pss_one (ps_ret (pe_and (pe_callB (cr_all rfl) (by rfl) T.m_all (by decide +kernel) (pa_cons (pe_lc (own := [("thing", 1)]) (g := gName 1) (tt := tYes) rfl sc_dif.nd (pi_tup (pv 0)) (blkOk_by (own := [("thing", 1)]) (N := N_dif) (sc := defScope s_dif) (by decide +kernel)) (fun _ _ _ _ _ => pg_name (i := 1) sc_dif.nd rfl (Or.inl rfl)) (fun _ _ _ _ _ => pts_nil) (fun _ _ _ _ _ => (pe_cal C_is_name (hr.mono (by decide)) (by rfl) (pa_cons (pv 1) pa_nil)))) pa_nil)) (pe_one (pe_cmpR op_eq (pe_lenSetT rfl (by rfl) T.m_len (by rfl) T.m_set (pv 0)) (pe_callB call_len_seq (by rfl) T.m_len (by decide +kernel) (pa_cons (pv 0) pa_nil)) (nomark _))))))), ?_⟩
    cases p with
    | s z =>
      cases (show x = V.str z from hp)
      exact ⟨_, rfl, .str z, .ty "tuple", .type "str", .type "tuple", false, rfl, .ty "tuple", .base (.str z), kit_ty (by decide +kernel), _, rfl, iteT (q H (Same.refl H))⟩
    | t zs =>
      obtain ⟨a, rfl, ha⟩ := hp
      refine ⟨_, rfl, .ref a, .ty "tuple", .type "tuple", .type "tuple", true, rfl, .ty "tuple", .base (.tup ha), kit_ty (by decide +kernel), _, rfl, iteF ?_⟩
      refine ⟨_, rfl, a, rfl, ⟨_, .inl (.inl ha)⟩, fun D hD => ?_⟩
      refine lc_tup (xs := zs.map V.str) (fun i H1 => Same H H1 ∧ H1 D = some (.lst ((zs.take i).map fun z => V.bl (nameB z)))) ⟨same_upd hD, upd_same⟩ (fun i H1 _ ⟨s1, _⟩ => .inl (.inl (s1 _ _ ha))) ?_ ?_
      · rintro i y H1 hy ⟨s1, d1⟩
        obtain ⟨z, hz, rfl⟩ : ∃ z, zs[i]? = some z ∧ y = .str z := by
          rw [List.getElem?_map] at hy
          cases e : zs[i]? with
          | none => rw [e] at hy; cases hy
          | some n => rw [e] at hy; exact ⟨n, rfl, (Option.some.inj hy).symm⟩
        have hl20 := ho.1
        refine ⟨rfl, _, rfl, .str z, .s z, rfl, rfl, ho.2 z (List.mem_of_getElem? hz), fun H2 s2 => ⟨_, s2 _ _ d1, ?_, same_mut (s1.trans s2) hD, ?_⟩⟩
        · rw [List.length_map, List.length_take]
          exact sz8 (by omega)
        · rw [upd_same, List.take_add_one, hz, List.map_append]
          rfl
      · rintro H1 ⟨s1, d1⟩
        have hl20 := ho.1
        rw [List.length_map, List.take_length] at d1
        refine ⟨D, zs.map nameB, rfl, .inl (.inl ?_), _, rfl, ?_⟩
        · rw [d1, List.map_map]
          rfl
        have ea : (zs.map nameB).all id = zs.all nameB := by
          rw [List.all_map]
          rfl
        rw [ea]
        refine iteB (fun h1 => ?_) (fun h1 => ?_)
        · have ha1 := s1 _ _ ha
          refine ⟨_, rfl, a, zs, rfl, .inl (.inl ha1), by omega, _, rfl, a, _, rfl, .inr (.inl (.inl ha1)), rfl, ?_⟩
          have e : difP (.t zs) = decide (V.int ((met zs).length : Nat) = V.int (((zs.map V.str).length : Nat) : Int)) := by
            show (zs.all nameB && decide zs.Nodup) = _
            rw [h1, Bool.true_and, List.length_map]
            have hm := met_nodup zs
            by_cases hn : zs.Nodup
            · rw [decide_eq_true hn, hm.mpr hn, decide_eq_true rfl]
            · rw [decide_eq_false hn, decide_eq_false]
              intro z
              injection z with z
              exact hn (hm.mp (by omega))
          rw [← e]
          exact q _ s1
        · have e : difP (.t zs) = false := by
            show (zs.all nameB && decide zs.Nodup) = _
            rw [h1]
            rfl
          rw [← e]
          exact q _ s1
end
end Kx

namespace Kx
open PySem PySem.Spec PyProof.Rows L2 NdefX Kr Ke Ks
def wBegin : Str := "begin"
def wQuit : Str := "quit"
def wRead : Str := "read"
def wClose : Str := "close"
def StAt (H : Hp) (a : Addr) (ps : List Part) : Prop := ∃ xs, H a = some (.tup xs) ∧ Paired (PtAt H) xs ps
theorem StAt.same {H H' : Hp} {a : Addr} {ps : List Part} (h : StAt H a ps) (s : Same H H') : StAt H' a ps := let ⟨xs, e, p⟩ := h; ⟨xs, s _ _ e, Paired.mono (fun _ _ z => z.same s) p⟩
def stepB : List Part → Bool
  | w :: p :: rest => nmP p && (if (isW w wBegin || isW w wQuit) = true then decide (rest.length = 0) else if isW w wRead = true then decide (rest.length = 1) && nmP (rest.headD (.s wBegin)) else if isW w wClose = true then decide (rest.length = 1) && difP (rest.headD (.s wBegin)) else false)
  | _ => false
def spStp (g : List Part → Bool) : Sp := fun vs H Q _ => ∃ (a : Addr) (ps : List Part), vs = [.ref a] ∧ StAt H a ps ∧ (∀ p ∈ ps, okP p) ∧ ps.length ≤ 1100 ∧ ∀ H', Same H H' → Q (.bl (g ps)) H'
theorem shW (w : Str) (h : okD (.str w) = true) : SeqAt.shaped (.str w) = true := Bool.and_eq_true_iff.mpr ⟨by
    have h' : w.cps.toList.all (fun c => decide (c < 1114112)) = true := by simpa only [okD] using h
    have h2 : w.cps.all (fun c => decide (c < 0x110000)) = true := by
      rw [← Array.all_toList]
      exact h'
    simpa [PyData.canLay0, PyData.strOk] using h2, by simp [PyData.depth]⟩
theorem can_strs : ∀ {zs : List Str}, (∀ z ∈ zs, Sht z 1000) → PyData.canLayAll0 (zs.map PyData.str) = true
  | [], _ => by simp [PyData.canLayAll0]
  | z :: zs, h => by
    have h1 := (Bool.and_eq_true_iff.mp (shW z (h z List.mem_cons_self).ok)).1
    rw [List.map_cons]
    simp only [PyData.canLayAll0, h1, can_strs fun y hy => h y (List.mem_cons_of_mem _ hy), Bool.and_self]
theorem okP.sh : ∀ {p : Part}, okP p → SeqAt.shaped (pd p) = true
  | .s z, h => shW z h.ok
  | .t zs, h => Bool.and_eq_true_iff.mpr ⟨by simpa only [pd, PyData.canLay0] using can_strs h.2, decide_eq_true (by have := (okP.d (p := .t zs) h).2.2; omega)⟩
theorem okb : okD (.str wBegin) = true := by decide +kernel
theorem okq : okD (.str wQuit) = true := by decide +kernel
theorem okr : okD (.str wRead) = true := by decide +kernel
theorem okc : okD (.str wClose) = true := by decide +kernel
theorem lenI (n m : Nat) : decide (V.int (n : Int) = V.int (m : Int)) = decide (n = m) := by
  by_cases h : n = m
  · rw [h, decide_eq_true rfl, decide_eq_true rfl]
  · rw [decide_eq_false h, decide_eq_false]
    intro z
    injection z with z
    exact h (by omega)
abbrev s_valid_step : Stmt := topS 9
abbrev N_valid_step : List Str := ["step", "word"]
theorem sc_valid_step : FnScope N_valid_step ["step"] (defScope s_valid_step) := ⟨rfl, rfl, rfl, by decide +kernel, rfl, by decide +kernel, by decide +kernel⟩
section
variable {P : Program} {w : World} {K : PySem.W.Frag} {mg : Str → Option Value} {base : Heap}
theorem ok_valid_step {f : Addr} {fd : FuncData} (F : Fun K "valid_step" "valid_step" s_valid_step f fd) (T : TxS mg) (C_is_name : Cal P w K mg base "_is_name" 2 (spPt nmP)) (C_dif : Cal P w K mg base "_are_different_names" 3 (spPt difP)) :
    FnOk P w K mg base CX0 4 f fd ["step"] (spStp stepB) := by
  refine F.ok sc_valid_step (fun vs H Q E h => ?_) (fun cdv A outer s H vs Q E hr h => ?_)
  · obtain ⟨a, ps, rfl, _⟩ := h
    rfl
  · obtain ⟨a, ps, rfl, hst, ho, hl, q⟩ := h
    refine ⟨_, (pss_cons (ps_if (PW.pt (pw_or (pt_cmpR op_lt (pe_callB call_len_seq (by rfl) T.m_len (by decide +kernel) (pa_cons (pv 0) pa_nil)) pe_int (nomark _)) (pw_or1 (pt_not (pt_val (pe_cal C_is_name (hr.mono (by decide)) (by rfl) (pa_cons (pe_ix ix_tup (pv 0) pe_int (fun _ _ => rfl)) pa_nil)))))))
        (pss_one (ps_ret pe_bl))
        pss_nil)
      (pss_cons (ps_set (i := 1) sc_valid_step.nd rfl (Or.inl rfl) (pe_ix ix_tup (pv 0) pe_int (fun _ _ => rfl)))
      (pss_cons (ps_if (PW.pt (pw_or (pt_cmpR (op_eqD hr.units) (pv 1) pe_str (nomark _)) (pw_or1 (pt_cmpR (op_eqD hr.units) (pv 1) pe_str (nomark _)))))
        (pss_one (ps_ret (pe_cmpR op_eq (pe_callB call_len_seq (by rfl) T.m_len (by decide +kernel) (pa_cons (pv 0) pa_nil)) pe_int (nomark _))))
        pss_nil)
      (pss_cons (ps_if (pt_cmpR (op_eqD hr.units) (pv 1) pe_str (nomark _))
        (pss_one (ps_ret (pe_and (pe_cmpR op_eq (pe_callB call_len_seq (by rfl) T.m_len (by decide +kernel) (pa_cons (pv 0) pa_nil)) pe_int (nomark _)) (pe_one (pe_cal C_is_name (hr.mono (by decide)) (by rfl) (pa_cons (pe_ix ix_tup (pv 0) pe_int (fun _ _ => rfl)) pa_nil))))))
        pss_nil)
      (pss_cons (ps_if (pt_cmpR (op_eqD hr.units) (pv 1) pe_str (nomark _))
        (pss_one (ps_ret (pe_and (pe_cmpR op_eq (pe_callB call_len_seq (by rfl) T.m_len (by decide +kernel) (pa_cons (pv 0) pa_nil)) pe_int (nomark _)) (pe_one (pe_cal C_dif (hr.mono (by decide)) (by rfl) (pa_cons (pe_ix ix_tup (pv 0) pe_int (fun _ _ => rfl)) pa_nil))))))
        pss_nil)
      (pss_one (ps_ret pe_bl))))))), ?_⟩
    obtain ⟨xs, ha, hp⟩ := id hst
    have hT : ∀ H' : Hp, Same H H' → SqT K H' a xs := fun _ s' => .inl (.inl (s' _ _ ha))
    refine ⟨_, rfl, a, xs, rfl, .inr (hT _ (Same.refl H)), _, _, rfl, rfl, _, rfl, ?_⟩
    have hlen := hp.length
    match xs, ps, hp, hT, ho, hlen, q with
    | [], [], _, _, _, _, q => exact iteT (q H (Same.refl H))
    | [_], [_], _, _, _, _, q => exact iteT (q H (Same.refl H))
    | x0 :: x1 :: xr, w0 :: p0 :: rest, .cons h0 (.cons h1 hr'), hT, ho, hlen, q =>
      refine iteB (fun h => ?_) (fun _ => ?_)
      · have := of_decide_eq_true h
        simp only [List.length_cons] at this
        omega
      have o0 := ho w0 List.mem_cons_self
      have o1 := ho p0 (List.mem_cons_of_mem _ List.mem_cons_self)
      have hle : xr.length = rest.length := hr'.length
      refine ⟨_, rfl, a, _, 1, x1, rfl, rfl, hT _ (Same.refl H), atI_nat (j := 1) rfl, x1, p0, rfl, h1, o1, fun H1 s1 => ⟨_, rfl, iteB (fun hn => ?_) (fun hn => ?_)⟩⟩
      · have e : stepB (w0 :: p0 :: rest) = false := by
          have : nmP p0 = false := by simpa using hn
          simp only [stepB, this, Bool.false_and]
        exact e ▸ q H1 s1
      have hn' : nmP p0 = true := by simpa using hn
      have eS : stepB (w0 :: p0 :: rest) = (if (isW w0 wBegin || isW w0 wQuit) = true then decide (rest.length = 0) else if isW w0 wRead = true then decide (rest.length = 1) && nmP (rest.headD (.s wBegin)) else if isW w0 wClose = true then decide (rest.length = 1) && difP (rest.headD (.s wBegin)) else false) := by
        simp only [stepB, hn', Bool.true_and]
      refine ⟨_, rfl, a, _, 0, x0, rfl, rfl, hT _ s1, atI_nat (j := 0) rfl, ?_⟩
      have dp0 : ∀ H', Same H H' → Dp K H' x0 (pd w0) := fun H' s' => (h0.same s').dp
      have sh0 := o0.sh
      -- begin, quit
      refine ⟨_, rfl, pd w0, .str wBegin, dp0 _ s1, .str _, sh0, shW _ okb, _, rfl, ?_⟩
      rw [eqv_w]
      have lenT : ∀ H', Same H H' → (SqL K H' a (x0 :: x1 :: xr) ∨ SqT K H' a (x0 :: x1 :: xr)) := fun H' s' => .inr (hT H' s')
      have fin1 : ∀ n : Nat, decide (V.int (((x0 :: x1 :: xr).length : Nat) : Int) = V.int (((n + 2 : Nat)) : Int)) = decide (rest.length = n) := fun n => by
        rw [lenI]
        have e : ((x0 :: x1 :: xr).length = n + 2) ↔ rest.length = n := by
          simp only [List.length_cons]
          omega
        by_cases h : rest.length = n
        · rw [decide_eq_true h, decide_eq_true (e.mpr h)]
        · rw [decide_eq_false h, decide_eq_false (fun z => h (e.mp z))]
      have ret0 : (isW w0 wBegin || isW w0 wQuit) = true → Q (.bl (decide (V.int (((x0 :: x1 :: xr).length : Nat) : Int) = V.int ((2 : Nat) : Int)))) H1 := fun hb => by
        rw [fin1 0]
        have e : stepB (w0 :: p0 :: rest) = decide (rest.length = 0) := by rw [eS, if_pos hb]
        rw [← e]
        exact q H1 s1
      refine iteB (fun hb => ?_) (fun hb => ?_)
      · exact ⟨_, rfl, a, _, rfl, lenT _ s1, rfl, ret0 (by rw [hb]; rfl)⟩
      refine ⟨_, rfl, pd w0, .str wQuit, dp0 _ s1, .str _, sh0, shW _ okq, _, rfl, ?_⟩
      rw [eqv_w]
      refine iteB (fun hq => ?_) (fun hq => ?_)
      · exact ⟨_, rfl, a, _, rfl, lenT _ s1, rfl, ret0 (by rw [hq, Bool.or_true])⟩
      have e1 : (isW w0 wBegin || isW w0 wQuit) = false := by rw [hb, hq]; rfl
      rw [e1, if_neg Bool.false_ne_true] at eS
      -- the third part
      have third : ∀ (g : Part → Bool) (C : Prop), True → True := fun _ _ _ => trivial
      refine ⟨_, rfl, pd w0, .str wRead, dp0 _ s1, .str _, sh0, shW _ okr, _, rfl, ?_⟩
      rw [eqv_w]
      refine iteB (fun hrd => ?_) (fun hrd => ?_)
      · rw [hrd, if_pos rfl] at eS
        refine ⟨_, rfl, a, _, rfl, lenT _ s1, rfl, _, rfl, ?_⟩
        have f1 := fin1 1
        refine iteB (fun h3 => ?_) (fun h3 => ?_)
        · have h3' : rest.length = 1 := of_decide_eq_true (f1.symm.trans h3)
          match xr, rest, hr', h3' with
          | [x2], [p2], .cons h2 _, _ =>
            refine ⟨_, rfl, a, _, 2, x2, rfl, rfl, hT _ s1, atI_nat (j := 2) rfl, x2, p2, rfl, h2.same s1, ho p2 (by simp), fun H2 s2 => ?_⟩
            have e : stepB [w0, p0, p2] = nmP p2 := by rw [eS]; simp
            exact e ▸ q H2 (s1.trans s2)
        · have h3' : decide (rest.length = 1) = false := f1.symm.trans h3
          rw [h3', Bool.false_and] at eS
          exact eS ▸ q H1 s1
      rw [hrd, if_neg Bool.false_ne_true] at eS
      refine ⟨_, rfl, pd w0, .str wClose, dp0 _ s1, .str _, sh0, shW _ okc, _, rfl, ?_⟩
      rw [eqv_w]
      refine iteB (fun hcl => ?_) (fun hcl => ?_)
      · rw [hcl, if_pos rfl] at eS
        refine ⟨_, rfl, a, _, rfl, lenT _ s1, rfl, _, rfl, ?_⟩
        have f1 := fin1 1
        refine iteB (fun h3 => ?_) (fun h3 => ?_)
        · have h3' : rest.length = 1 := of_decide_eq_true (f1.symm.trans h3)
          match xr, rest, hr', h3' with
          | [x2], [p2], .cons h2 _, _ =>
            refine ⟨_, rfl, a, _, 2, x2, rfl, rfl, hT _ s1, atI_nat (j := 2) rfl, x2, p2, rfl, h2.same s1, ho p2 (by simp), fun H2 s2 => ?_⟩
            have e : stepB [w0, p0, p2] = difP p2 := by rw [eS]; simp
            exact e ▸ q H2 (s1.trans s2)
        · have h3' : decide (rest.length = 1) = false := f1.symm.trans h3
          rw [h3', Bool.false_and] at eS
          exact eS ▸ q H1 s1
      · rw [hcl, if_neg Bool.false_ne_true] at eS
        exact eS ▸ q H1 s1
end
end Kx

namespace Kx
open PySem PySem.Spec PyProof.Rows L2 NdefX Kr Ke Ks
theorem cut_take {xs : List V} {k : Nat} (h : k ≤ xs.length) : cutV xs none (some (k : Int)) = xs.take k := by
  unfold cutV
  rw [HT.sIx_nat, Nat.min_eq_left h]
  have e : HT.sIx xs.length 0 none = 0 := rfl
  rw [e, List.drop_zero, Nat.sub_zero]
theorem inV_strs (z : Str) : ∀ ys : List Str, inV (.str z) (ys.map V.str) = decide (z ∈ ys)
  | [] => by simp [inV]
  | y :: ys => by
    have ih := inV_strs z ys
    unfold inV at ih ⊢
    rw [List.map_cons, List.any_cons, ih]
    have e : eqV (.str y) (.str z) = decide (y = z) := by
      by_cases h : y = z
      · rw [h, decide_eq_true rfl]
        exact beq_self_eq_true z
      · rw [decide_eq_false h]
        exact beq_eq_false_iff_ne.mpr h
    rw [e]
    by_cases h : y = z
    · simp [h]
    · have h' : ¬ z = y := fun q => h q.symm
      simp [h, h']
theorem flat_strs : ∀ ys : List Str, (ys.map V.str).all flatV = true
  | [] => rfl
  | y :: ys => by
    rw [List.map_cons, List.all_cons, flat_strs ys]
    rfl
abbrev s_lstep : Stmt := topS 22
abbrev N_lstep : List Str := ["_law_step", "_law_k"]
theorem sc_lstep : FnScope N_lstep ["_law_step"] (defScope s_lstep) := ⟨rfl, rfl, rfl, by decide +kernel, rfl, by decide +kernel, by decide +kernel⟩
section
variable {P : Program} {w : World} {K : PySem.W.Frag} {mg : Str → Option Value} {base : Heap}
theorem ok_lstep {f : Addr} {fd : FuncData} (F : Fun K "_law_is_step" "_law_is_step" s_lstep f fd) (T : TxS mg) (C_is_name : Cal P w K mg base "_law_is_name" 1 (spPt nmP)) : FnOk P w K mg base CX0 2 f fd ["_law_step"] (spStp stepB) := by
  refine F.ok sc_lstep (fun vs H Q E h => ?_) (fun cdv A outer s H vs Q E hr h => ?_)
  · obtain ⟨a, ps, rfl, _⟩ := h
    rfl
  · obtain ⟨a, ps, rfl, hst, ho, hl, q⟩ := h
    refine ⟨_, (pss_cons (ps_if (PW.pt (pw_or (pt_cmpR op_lt (pe_callB call_len_seq (by rfl) T.m_len (by decide +kernel) (pa_cons (pv 0) pa_nil)) pe_int (nomark _)) (pw_or1 (pt_not (pt_val (pe_cal C_is_name (hr.mono (by decide)) (by rfl) (pa_cons (pe_ix ix_tup (pv 0) pe_int (fun _ _ => rfl)) pa_nil)))))))
        (pss_one (ps_ret pe_bl))
        pss_nil)
      (pss_cons (ps_if (PW.pt (pw_or (pt_cmpR (op_eqD hr.units) (pe_ix ix_tup (pv 0) pe_int (fun _ _ => rfl)) pe_str (nomark _)) (pw_or1 (pt_cmpR (op_eqD hr.units) (pe_ix ix_tup (pv 0) pe_int (fun _ _ => rfl)) pe_str (nomark _)))))
        (pss_one (ps_ret (pe_cmpR op_eq (pe_callB call_len_seq (by rfl) T.m_len (by decide +kernel) (pa_cons (pv 0) pa_nil)) pe_int (nomark _))))
        pss_nil)
      (pss_cons (ps_if (pt_cmpR (op_eqD hr.units) (pe_ix ix_tup (pv 0) pe_int (fun _ _ => rfl)) pe_str (nomark _))
        (pss_one (ps_ret (pe_and (pe_cmpR op_eq (pe_callB call_len_seq (by rfl) T.m_len (by decide +kernel) (pa_cons (pv 0) pa_nil)) pe_int (nomark _)) (pe_one (pe_cal C_is_name (hr.mono (by decide)) (by rfl) (pa_cons (pe_ix ix_tup (pv 0) pe_int (fun _ _ => rfl)) pa_nil))))))
        pss_nil)
      (pss_cons (ps_if (PW.pt (pw_or (pt_cmpR (op_neD hr.units) (pe_ix ix_tup (pv 0) pe_int (fun _ _ => rfl)) pe_str (nomark _)) (pw_or (pt_cmpR op_ne (pe_callB call_len_seq (by rfl) T.m_len (by decide +kernel) (pa_cons (pv 0) pa_nil)) pe_int (nomark _)) (pw_or1 (pt_not (pt_val (pe_callB call_isi (by rfl) T.m_isinstance (by decide +kernel) (pa_cons (pe_ix ix_tup (pv 0) pe_int (fun _ _ => rfl)) (pa_cons (pe_bltn (v := .ty "tuple") (by rfl) T.m_tuple (by decide +kernel) rfl) pa_nil)))))))))
        (pss_one (ps_ret pe_bl))
        pss_nil)
      (pss_cons (ps_for PassesOwn.never rfl (pi_range1 (by rfl) T.m_range (pa_cons (pe_callB call_len_seq (by rfl) T.m_len (by decide +kernel) (pa_cons (pe_ix ix_tup (pv 0) pe_int (fun _ _ => rfl)) pa_nil)) pa_nil)) (pg_name (i := 1) sc_lstep.nd rfl (Or.inl rfl))
        (pss_one (ps_if (PW.pt (pw_or (pt_not (pt_val (pe_cal C_is_name (hr.mono (by decide)) (by rfl) (pa_cons (pe_ix ix_tup (pe_ix ix_tup (pv 0) pe_int (fun _ _ => rfl)) (pv 1) (fun _ _ => rfl)) pa_nil)))) (pw_or1 (pt_cmpR op_in_seq (pe_ix ix_tup (pe_ix ix_tup (pv 0) pe_int (fun _ _ => rfl)) (pv 1) (fun _ _ => rfl)) (pe_slice sl_tup (pe_ix ix_tup (pv 0) pe_int (fun _ _ => rfl)) po_none (po_some (pv 1))) rfl))))
          (pss_one (ps_ret pe_bl))
          pss_nil)))
      (pss_one (ps_ret pe_bl))))))), ?_⟩
    obtain ⟨xs, ha, hp⟩ := id hst
    have hT : ∀ H' : Hp, Same H H' → SqT K H' a xs := fun _ s' => .inl (.inl (s' _ _ ha))
    refine ⟨_, rfl, a, xs, rfl, .inr (hT _ (Same.refl H)), _, _, rfl, rfl, _, rfl, ?_⟩
    have hlen := hp.length
    match xs, ps, hp, hT, ho, hlen, q with
    | [], [], _, _, _, _, q => exact iteT (q H (Same.refl H))
    | [_], [_], _, _, _, _, q => exact iteT (q H (Same.refl H))
    | x0 :: x1 :: xr, w0 :: p0 :: rest, .cons h0 (.cons h1 hr'), hT, ho, hlen, q =>
      refine iteB (fun h => ?_) (fun _ => ?_)
      · have := of_decide_eq_true h
        simp only [List.length_cons] at this
        omega
      have o0 := ho w0 List.mem_cons_self
      have o1 := ho p0 (List.mem_cons_of_mem _ List.mem_cons_self)
      have hle : xr.length = rest.length := hr'.length
      refine ⟨_, rfl, a, _, 1, x1, rfl, rfl, hT _ (Same.refl H), atI_nat (j := 1) rfl, x1, p0, rfl, h1, o1, fun H1 s1 => ⟨_, rfl, iteB (fun hn => ?_) (fun hn => ?_)⟩⟩
      · have e : stepB (w0 :: p0 :: rest) = false := by
          have : nmP p0 = false := by simpa using hn
          simp only [stepB, this, Bool.false_and]
        exact e ▸ q H1 s1
      have hn' : nmP p0 = true := by simpa using hn
      have eS : stepB (w0 :: p0 :: rest) = (if (isW w0 wBegin || isW w0 wQuit) = true then decide (rest.length = 0) else if isW w0 wRead = true then decide (rest.length = 1) && nmP (rest.headD (.s wBegin)) else if isW w0 wClose = true then decide (rest.length = 1) && difP (rest.headD (.s wBegin)) else false) := by
        simp only [stepB, hn', Bool.true_and]
      have dp0 : ∀ H', Same H H' → Dp K H' x0 (pd w0) := fun H' s' => (h0.same s').dp
      have sh0 := o0.sh
      refine ⟨_, rfl, a, _, 0, x0, rfl, rfl, hT _ s1, atI_nat (j := 0) rfl, pd w0, .str wBegin, dp0 _ s1, .str _, sh0, shW _ okb, _, rfl, ?_⟩
      rw [eqv_w]
      have lenT : ∀ H', Same H H' → (SqL K H' a (x0 :: x1 :: xr) ∨ SqT K H' a (x0 :: x1 :: xr)) := fun H' s' => .inr (hT H' s')
      have fin1 : ∀ n : Nat, decide (V.int (((x0 :: x1 :: xr).length : Nat) : Int) = V.int (((n + 2 : Nat)) : Int)) = decide (rest.length = n) := fun n => by
        rw [lenI]
        have e : ((x0 :: x1 :: xr).length = n + 2) ↔ rest.length = n := by
          simp only [List.length_cons]
          omega
        by_cases h : rest.length = n
        · rw [decide_eq_true h, decide_eq_true (e.mpr h)]
        · rw [decide_eq_false h, decide_eq_false (fun z => h (e.mp z))]
      have ret0 : (isW w0 wBegin || isW w0 wQuit) = true → Q (.bl (decide (V.int (((x0 :: x1 :: xr).length : Nat) : Int) = V.int ((2 : Nat) : Int)))) H1 := fun hb => by
        rw [fin1 0]
        have e : stepB (w0 :: p0 :: rest) = decide (rest.length = 0) := by rw [eS, if_pos hb]
        rw [← e]
        exact q H1 s1
      refine iteB (fun hb => ?_) (fun hb => ?_)
      · exact ⟨_, rfl, a, _, rfl, lenT _ s1, rfl, ret0 (by rw [hb]; rfl)⟩
      refine ⟨_, rfl, a, _, 0, x0, rfl, rfl, hT _ s1, atI_nat (j := 0) rfl, pd w0, .str wQuit, dp0 _ s1, .str _, sh0, shW _ okq, _, rfl, ?_⟩
      rw [eqv_w]
      refine iteB (fun hq => ?_) (fun hq => ?_)
      · exact ⟨_, rfl, a, _, rfl, lenT _ s1, rfl, ret0 (by rw [hq, Bool.or_true])⟩
      have e1 : (isW w0 wBegin || isW w0 wQuit) = false := by rw [hb, hq]; rfl
      rw [e1, if_neg Bool.false_ne_true] at eS
      refine ⟨_, rfl, a, _, 0, x0, rfl, rfl, hT _ s1, atI_nat (j := 0) rfl, pd w0, .str wRead, dp0 _ s1, .str _, sh0, shW _ okr, _, rfl, ?_⟩
      rw [eqv_w]
      refine iteB (fun hrd => ?_) (fun hrd => ?_)
      · rw [hrd, if_pos rfl] at eS
        refine ⟨_, rfl, a, _, rfl, lenT _ s1, rfl, _, rfl, ?_⟩
        have f1 := fin1 1
        refine iteB (fun h3 => ?_) (fun h3 => ?_)
        · have h3' : rest.length = 1 := of_decide_eq_true (f1.symm.trans h3)
          match xr, rest, hr', h3' with
          | [x2], [p2], .cons h2 _, _ =>
            refine ⟨_, rfl, a, _, 2, x2, rfl, rfl, hT _ s1, atI_nat (j := 2) rfl, x2, p2, rfl, h2.same s1, ho p2 (by simp), fun H2 s2 => ?_⟩
            have e : stepB [w0, p0, p2] = nmP p2 := by rw [eS]; simp
            exact e ▸ q H2 (s1.trans s2)
        · have h3' : decide (rest.length = 1) = false := f1.symm.trans h3
          rw [h3', Bool.false_and] at eS
          exact eS ▸ q H1 s1
      rw [hrd, if_neg Bool.false_ne_true] at eS
      -- close
      refine ⟨_, rfl, a, _, 0, x0, rfl, rfl, hT _ s1, atI_nat (j := 0) rfl, pd w0, .str wClose, dp0 _ s1, .str _, sh0, shW _ okc, _, rfl, ?_⟩
      rw [eqv_w]
      refine iteB (fun hcl => ?_) (fun hcl => ?_)
      · have hcl' : isW w0 wClose = false := by simpa using hcl
        rw [hcl', if_neg Bool.false_ne_true] at eS
        exact eS ▸ q H1 s1
      have hcl' : isW w0 wClose = true := by simpa using hcl
      rw [hcl', if_pos rfl] at eS
      refine ⟨_, rfl, a, _, rfl, lenT _ s1, rfl, _, rfl, ?_⟩
      have f1 := fin1 1
      refine iteB (fun h3 => ?_) (fun h3 => ?_)
      · have h3' : decide (rest.length = 1) = false := by
          rw [← f1]
          simpa using h3
        rw [h3', Bool.false_and] at eS
        have qq := q H1 s1
        rw [eS] at qq
        exact qq
      have h3' : rest.length = 1 := of_decide_eq_true (f1.symm.trans (by simpa using h3))
      match xr, rest, hr', h3' with
      | [x2], [p2], .cons h2 _, _ =>
        have eD : stepB [w0, p0, p2] = difP p2 := by rw [eS]; simp
        cases p2 with
        | s z =>
          cases (show x2 = V.str z from h2)
          refine ⟨_, rfl, a, _, 2, _, rfl, rfl, hT _ s1, atI_nat (j := 2) rfl, .str z, .ty "tuple", .type "str", .type "tuple", false, rfl, .ty "tuple", .base (.str z), kit_ty (by decide +kernel), _, rfl, iteT ?_⟩
          have qq := q H1 s1
          rw [eD] at qq
          exact qq
        | t zs =>
          obtain ⟨b, rfl, hb⟩ := h2
          have ob : okP (.t zs) := ho (.t zs) (by simp)
          have hl20 := ob.1
          refine ⟨_, rfl, a, _, 2, _, rfl, rfl, hT _ s1, atI_nat (j := 2) rfl, .ref b, .ty "tuple", .type "tuple", .type "tuple", true, rfl, .ty "tuple", .base (.tup (s1 _ _ hb)), kit_ty (by decide +kernel), _, rfl, iteF ?_⟩
          have hB : ∀ H' : Hp, Same H H' → SqT K H' b (zs.map V.str) := fun _ s' => .inl (.inl (s' _ _ hb))
          have hlm : (zs.map V.str).length = zs.length := List.length_map _
          refine ⟨_, rfl, a, _, 2, _, rfl, rfl, hT _ s1, atI_nat (j := 2) rfl, b, _, rfl, .inr (hB _ s1), _, rfl, by rw [hlm]; omega, by rw [hlm]; omega, ?_⟩
          refine for_range (lo := 0) (n := (((zs.map V.str).length : Nat) : Int).toNat) (fun i σ H' => ∃ x1, σ = [some (.ref a), x1] ∧ Same H H' ∧ (∀ j z, j < i → zs[j]? = some z → nameB z = true) ∧ (zs.take i).Nodup)
            ⟨none, rfl, s1, fun j z hj => absurd hj (Nat.not_lt_zero _), by simp⟩ ?_ ?_
          · rintro i σ H2 hi ⟨x1', rfl, s2, hn2, hd2⟩
            rw [Int.zero_add]
            have hil : i < zs.length := by
              rw [hlm] at hi
              omega
            obtain ⟨z, hz⟩ : ∃ z, zs[i]? = some z := ⟨_, List.getElem?_eq_getElem hil⟩
            have hzm : (zs.map V.str)[i]? = some (V.str z) := by
              rw [List.getElem?_map, hz]
              rfl
            have hzi := List.mem_of_getElem? hz
            refine ⟨_, rfl, a, _, 2, _, rfl, rfl, hT _ s2, atI_nat (j := 2) rfl, _, rfl, b, _, _, .str z, rfl, rfl, hB _ s2, atI_nat hzm, .str z, .s z, rfl, rfl, ob.2 z hzi, fun H3 s3 => ⟨_, rfl, iteB (fun hbad => iteT ?_) (fun hgood => ?_)⟩⟩
            · have hbad' : nameB z = false := by simpa [nmP] using hbad
              have e : difP (.t zs) = false := by
                have : zs.all nameB = false := by
                  rw [List.all_eq_false]
                  exact ⟨z, hzi, by simp [hbad']⟩
                simp [difP, this]
              have qq := q H3 (s2.trans s3)
              rw [eD, e] at qq
              exact qq
            have hgood' : nameB z = true := by simpa [nmP] using hgood
            have s23 := s2.trans s3
            refine ⟨_, rfl, a, _, 2, _, rfl, rfl, hT _ s23, atI_nat (j := 2) rfl, _, rfl, b, _, _, .str z, rfl, rfl, hB _ s23, atI_nat hzm, ?_⟩
            refine ⟨_, rfl, a, _, 2, _, rfl, rfl, hT _ s23, atI_nat (j := 2) rfl, _, rfl, _, rfl, b, _, rfl, hB _ s23, ?_, fun c nc => ?_⟩
            · rw [HT.sIx_nat, hlm]
              intro hc
              have := hc.2
              omega
            rw [cut_take (by rw [hlm]; omega), ← List.map_take]
            refine ⟨c, _, rfl, .inr (.inl (.inl upd_same)), rfl, flat_strs _, _, rfl, ?_⟩
            rw [if_neg Bool.false_ne_true, inV_strs]
            refine iteB (fun hin => ?_) (fun hout => ?_)
            · have hin' : z ∈ zs.take i := of_decide_eq_true hin
              have e : difP (.t zs) = false := by
                have : ¬ zs.Nodup := fun hnd => by
                  obtain ⟨j, hj⟩ := List.mem_iff_getElem?.mp hin'
                  rw [List.getElem?_take] at hj
                  split at hj
                  · rename_i hji
                    have := nd_ix hnd hj hz
                    omega
                  · cases hj
                simp [difP, this]
              have qq := q _ (s23.trans (same_upd (o := .tup ((zs.take i).map V.str)) nc))
              rw [eD, e] at qq
              exact qq
            · have hout' : z ∉ zs.take i := of_decide_eq_false hout
              refine ⟨_, rfl, s23.trans (same_upd nc), fun j y hj hy => ?_, ?_⟩
              · by_cases e : j = i
                · rw [e, hz] at hy
                  cases hy
                  exact hgood'
                · exact hn2 j y (by omega) hy
              · rw [List.take_add_one, hz]
                refine List.nodup_append.mpr ⟨hd2, by simp, ?_⟩
                intro x hx y hy e
                have hy' : y = z := by simpa using hy
                rw [e, hy'] at hx
                exact hout' hx
          · rintro σ H2 ⟨x1', rfl, s2, hn2, hd2⟩
            have el : (((zs.map V.str).length : Nat) : Int).toNat = zs.length := by rw [hlm]; exact Int.toNat_natCast _
            rw [el, List.take_length] at hd2
            rw [el] at hn2
            have e : difP (.t zs) = true := by
              have h1 : zs.all nameB = true := by
                rw [List.all_eq_true]
                intro y hy
                obtain ⟨j, hj⟩ := List.mem_iff_getElem?.mp hy
                exact hn2 j y (List.getElem?_eq_some_iff.mp hj).1 hj
              simp [difP, h1, hd2]
            have qq := q H2 s2
            rw [eD, e] at qq
            exact qq
end
end Kx

namespace Kx
open PySem PySem.Spec PyProof.Rows L2 NdefX Kr Ke Ks
/-- for c in text -/
theorem for_txt {z : Str} {g : TG} {tb : TS} {D : Ends} {σ : L2.St} {H : Hp} (Pv : Nat → L2.St → Hp → Prop) (h0 : Pv 0 σ H)
    (hs : ∀ i c σ H, z.cps.toList[i]? = some c → Pv i σ H → g (.str ⟨#[c]⟩) σ H fun σ2 H2 => tb { D with nx := Pv (i + 1), ct := Pv (i + 1), bk := D.nx } σ2 H2) (hd : ∀ σ H, Pv z.cps.toList.length σ H → D.nx σ H) :
    ∃ W : Nat → Nat → L2.St → Hp → Prop, (∃ m, W 0 m σ H) ∧ ∀ i m σ H, W i m σ H →
      ((Its z).stop i H ∧ D.nx σ H) ∨ ((Its z).go i H ∧ ∃ N : L2.St → Hp → Prop, (∀ σ' H', N σ' H' → ∃ m', m' < m ∧ W (i + 1) m' σ' H') ∧ ∀ x H', (Its z).yld i H x H' → g x σ H' fun σ2 H2 => tb { D with nx := N, ct := N, bk := D.nx } σ2 H2) := by
  refine ⟨fun i m σ H => i + m = z.cps.toList.length ∧ Pv i σ H, ⟨z.cps.toList.length, by omega, h0⟩, ?_⟩
  rintro i m σ H ⟨em, p⟩
  by_cases hi : i < z.cps.toList.length
  · refine .inr ⟨(by show i < z.cps.size; rw [← Array.length_toList]; exact hi), Pv (i + 1), fun σ' H' p' => ⟨m - 1, by omega, by omega, p'⟩, fun x H' y => ?_⟩
    obtain ⟨rfl, d, hd', rfl⟩ := y
    exact hs i d σ H' (by rw [Array.getElem?_toList]; exact hd') p
  · have e : i = z.cps.toList.length := by omega
    refine .inl ⟨(by show z.cps.size ≤ i; rw [← Array.length_toList]; omega), ?_⟩
    subst e
    exact hd σ H p
/-- the words of a line -/
def wSp : Str := " "
def wordsL (z : Str) : List Str := Txt.split z wSp
theorem words_spl (z : Str) : (wordsL z).map TL.tl = TL.spl [32] 0 [] (TL.tl z) := TL.split_spl z wSp (by decide +kernel) (TL.kind_ok (by decide +kernel))
theorem spl_sp {acc r : List Nat} : TL.spl [32] 0 acc (32 :: r) = acc :: TL.spl [32] 0 [] r := rfl
theorem spl_no {acc r : List Nat} {c : Nat} (h : ¬ c = 32) : TL.spl [32] 0 acc (c :: r) = TL.spl [32] 0 (acc ++ [c]) r := by
  show (if TL.pre [32] (c :: r) = true then acc :: TL.spl [32] 0 [] r else TL.spl [32] 0 (acc ++ [c]) r) = _
  rw [if_neg]
  intro z
  have z' : ([c] : List Nat) = [32] := beq_iff_eq.mp z
  injection z' with z'
  exact h z'
abbrev s_words_of : Stmt := topS 25
abbrev N_words_of : List Str := ["_law_line", "_law_words", "_law_char"]
theorem sc_words_of : FnScope N_words_of ["_law_line"] (defScope s_words_of) := ⟨rfl, rfl, rfl, by decide +kernel, rfl, by decide +kernel, by decide +kernel⟩
def spWords : Sp := fun vs H Q _ => ∃ z : Str, vs = [.str z] ∧ z.length ≤ 10000 ∧ ∀ l H', Same H H' → H l = none → H' l = some (.lst ((wordsL z).map V.str)) → Q (.ref l) H'
theorem dsp {c : Nat} : decide (V.str ⟨#[c]⟩ = V.str wSp) = decide (c = 32) := by
  by_cases h : c = 32
  · rw [h]
    exact decide_eq_true (by show V.str ⟨#[32]⟩ = V.str wSp; congr 1)
  · rw [decide_eq_false h, decide_eq_false]
    intro z
    injection z with z
    have z' : (#[c] : Array Nat) = #[32] := congrArg Str.cps z
    exact h (by simpa using z')
section
variable {P : Program} {w : World} {K : PySem.W.Frag} {mg : Str → Option Value} {base : Heap}
theorem ok_words_of {f : Addr} {fd : FuncData} (F : Fun K "_law_words_of" "_law_words_of" s_words_of f fd) : FnOk P w K mg base CX0 1 f fd ["_law_line"] spWords := by
  refine F.ok sc_words_of (fun vs H Q E h => ?_) (fun cdv A outer s H vs Q E hr h => ?_)
  · obtain ⟨z, rfl, _⟩ := h
    rfl
  · obtain ⟨z, rfl, hz, q⟩ := h
    refine ⟨_, (pss_cons (ps_set (i := 1) sc_words_of.nd rfl (Or.inl rfl) (pe_lst (pa_cons pe_str pa_nil)))
      (pss_cons (ps_for PassesOwn.never rfl (pi_str (pv 0)) (pg_name (i := 2) sc_words_of.nd rfl (Or.inl rfl))
        (pss_one (ps_if (pt_cmpR op_eq (pv 2) pe_str (nomark _))
          (pss_one (ps_expr (pe_bm PySem.F.plainAttrs_list PySem.F.slot_list_append PySem.F.type_list_append mt_append (pv 1) (pa_cons pe_str pa_nil))))
          (pss_one (ps_asg (pe_op op_add_str (pe_ix ix_list (pv 1) (pe_un un_neg pe_int) (fun _ _ => rfl)) (pv 2)) (pg_sub (pv 1) (pe_un un_neg pe_int) set_list))))))
      (pss_one (ps_ret (pv 1))))), ?_⟩
    refine ⟨by show 1 ≤ sizeLine; decide, fun l nl => ?_⟩
    refine ⟨_, rfl, z, rfl, ?_⟩
    have hzl : z.cps.toList.length = z.length := Array.length_toList
    refine for_txt (z := z) (fun i σ H' => ∃ (x2 : Option V) (ds : List Str) (cur : Str), σ = [some (.str z), some (.ref l), x2] ∧ Same H H' ∧ H' l = some (.lst ((ds ++ [cur]).map V.str)) ∧ ds.length ≤ i ∧ cur.length ≤ i ∧
      ds.map TL.tl ++ TL.spl [32] 0 (TL.tl cur) (z.cps.toList.drop i) = TL.spl [32] 0 [] (TL.tl z))
      ⟨none, [], "", rfl, same_upd nl, upd_same, Nat.le_refl _, Nat.le_refl _, rfl⟩ ?_ ?_
    · rintro i c σ H' hc ⟨x2, ds, cur, rfl, sm, el, h1, h2, h3⟩
      have hil : i < z.cps.toList.length := (List.getElem?_eq_some_iff.mp hc).1
      have hdrop : z.cps.toList.drop i = c :: z.cps.toList.drop (i + 1) := by
        rw [List.drop_eq_getElem_cons hil]
        congr 1
        exact (List.getElem?_eq_some_iff.mp hc).2
      have hll : ((ds ++ [cur]).map V.str).length = ds.length + 1 := by rw [List.length_map, List.length_append]; rfl
      rw [hdrop] at h3
      refine ⟨_, rfl, rfl, _, rfl, ?_⟩
      rw [show decide (V.str ⟨#[c]⟩ = V.str (Str.ofString " ")) = decide (c = 32) from dsp]
      refine iteB (fun hsp => ?_) (fun hsp => ?_)
      · have e : c = 32 := of_decide_eq_true hsp
        rw [e, spl_sp] at h3
        refine ⟨_, rfl, .inl ⟨rfl, _, .inl (.inl el)⟩, l, _, _, rfl, rfl, el, sl9 (by rw [hll]; omega), ?_⟩
        refine ⟨_, ds ++ [cur], "", rfl, same_mut sm nl, ?_, by rw [List.length_append, List.length_singleton]; omega, Nat.zero_le _, ?_⟩
        · rw [upd_same, List.map_append (l₁ := ds ++ [cur])]
          rfl
        · rw [List.map_append, List.append_assoc]
          exact h3
      · have e : ¬ c = 32 := of_decide_eq_false hsp
        rw [spl_no e] at h3
        have hx : ixN ((ds ++ [cur]).map V.str).length (-1) = some ds.length := by
          rw [hll]
          unfold ixN
          rw [if_neg (by decide), if_pos (by omega)]
          congr 1
          omega
        have hat : atI ((ds ++ [cur]).map V.str) (-1) = some (.str cur) := by
          unfold atI
          rw [hx]
          show ((ds ++ [cur]).map V.str)[ds.length]? = _
          rw [List.getElem?_map, List.getElem?_append_right (Nat.le_refl _), Nat.sub_self]
          rfl
        refine ⟨_, rfl, 1, rfl, l, _, -1, .str cur, rfl, rfl, .inl (.inl el), hat, _, rfl, cur, ⟨#[c]⟩, rfl, rfl, sz9 (by show cur.length + 1 ≤ 100000; omega), _, rfl, 1, rfl, l, _, -1, ds.length, rfl, rfl, el, hx, ?_⟩
        refine ⟨_, ds, cur ++ ⟨#[c]⟩, rfl, same_mut sm nl, ?_, by omega, ?_, ?_⟩
        · rw [upd_same, List.map_append, List.map_append]
          have e2 : (ds.map V.str ++ [cur].map V.str).set ds.length (V.str (cur ++ ⟨#[c]⟩)) = ds.map V.str ++ [V.str (cur ++ ⟨#[c]⟩)] := by
            rw [List.set_append_right _ _ (by rw [List.length_map]; exact Nat.le_refl _)]
            rw [List.length_map, Nat.sub_self]
            rfl
          rw [e2]
          rfl
        · have e3 : (cur ++ (⟨#[c]⟩ : Str)).length = cur.length + 1 := Array.size_append
          rw [e3]
          omega
        · have e4 : TL.tl (cur ++ (⟨#[c]⟩ : Str)) = TL.tl cur ++ [c] := by
            show (cur.cps ++ #[c]).toList = _
            rw [Array.toList_append]
          rw [e4]
          exact h3
    · rintro σ H' ⟨x2, ds, cur, rfl, sm, el, h1, h2, h3⟩
      refine ⟨_, rfl, q l H' sm nl ?_⟩
      rw [el]
      rw [List.drop_length, TL.spl_nil, ← words_spl] at h3
      have e : ds ++ [cur] = wordsL z := by
        have h4 : (ds ++ [cur]).map TL.tl = (wordsL z).map TL.tl := by
          rw [List.map_append]
          exact h3
        have inj : ∀ {xs ys : List Str}, xs.map TL.tl = ys.map TL.tl → xs = ys := by
          intro xs
          induction xs with
          | nil => intro ys h; cases ys with
            | nil => rfl
            | cons y ys => cases h
          | cons x xs ih => intro ys h; cases ys with
            | nil => cases h
            | cons y ys =>
              rw [List.map_cons, List.map_cons] at h
              injection h with ha hb
              rw [TL.ext_tl ha, ih hb]
        exact inj h4
      rw [e]
end
end Kx

namespace Kx
open PySem PySem.Spec PyProof.Rows L2 NdefX Kr Ke Ks Kn
abbrev s_draws_of : Stmt := topS 18
abbrev N_draws_of : List Str := ["_law_script", "_law_pool", "_law_cell", "_law_left", "_law_k"]
theorem sc_draws_of : FnScope N_draws_of ["_law_script"] (defScope s_draws_of) := ⟨rfl, rfl, rfl, by decide +kernel, rfl, by decide +kernel, by decide +kernel⟩
abbrev s_nth : Stmt := topS 19
abbrev N_nth : List Str := ["_law_pool", "_law_k"]
theorem sc_nth : FnScope N_nth ["_law_pool", "_law_k"] (defScope s_nth) := ⟨rfl, rfl, rfl, by decide +kernel, rfl, by decide +kernel, by decide +kernel⟩
section
variable {P : Program} {w : World} {K : PySem.W.Frag} {mg : Str → Option Value} {base : Heap}
theorem ok_draws_of {f : Addr} {fd : FuncData} (F : Fun K "_law_draws_of" "_law_draws_of" s_draws_of f fd) (T : TB mg) : FnOk P w K mg base CX0 1 f fd ["_law_script"] (spDraws K) := by
  refine F.ok sc_draws_of (fun vs H Q E h => ?_) (fun cdv A outer s H vs Q E hr h => ?_)
  · obtain ⟨a, ns, rfl, _⟩ := h
    rfl
  · obtain ⟨a, ns, rfl, hS, hlen, q⟩ := h
    refine ⟨_, (pss_cons (ps_set (i := 1) sc_draws_of.nd rfl (Or.inl rfl) (pe_lst pa_nil))
      (pss_cons (ps_for PassesOwn.never rfl (pi_list (pv 0)) (pg_name (i := 2) sc_draws_of.nd rfl (Or.inl rfl))
        (pss_one (ps_if (pt_cmpR op_lt (pe_callB call_len_seq (by rfl) T.m_len (by decide +kernel) (pa_cons (pv 1) pa_nil)) pe_int (nomark _))
          (pss_cons (ps_set (i := 3) sc_draws_of.nd rfl (Or.inl rfl) (pe_callB call_abs (by rfl) T.m_abs (by decide +kernel) (pa_cons (pe_callTy call_int1 (by rfl) T.m_int (by decide +kernel) (pa_cons (pv 2) pa_nil)) pa_nil)))
          (pss_one (ps_if (pt_cmpR op_lt (pv 3) (pe_op op_pow pe_int pe_int) (nomark _))
            (pss_one (ps_for PassesOwn.never rfl (pi_range1 (by rfl) T.m_range (pa_cons pe_int pa_nil)) (pg_name (i := 4) sc_draws_of.nd rfl (Or.inl rfl))
              (pss_cons (ps_set (i := 3) sc_draws_of.nd rfl (Or.inl rfl) (pe_op op_mod (pe_callTy call_int1 (by rfl) T.m_int (by decide +kernel) (pa_cons (pe_op op_add (pe_op op_add (pe_op op_mul (pv 3) pe_int) (pe_op op_mul pe_int (pv 4))) pe_int) pa_nil)) pe_int))
              (pss_one (ps_expr (pe_bm PySem.F.plainAttrs_list PySem.F.slot_list_append PySem.F.type_list_append mt_append (pv 1) (pa_cons (pv 3) pa_nil)))))))
            (pss_one (ps_for PassesOwn.never rfl (pi_range1 (by rfl) T.m_range (pa_cons pe_int pa_nil)) (pg_name (i := 4) sc_draws_of.nd rfl (Or.inl rfl))
              (pss_one (ps_if (pt_cmpR op_gt (pv 3) pe_int (nomark _))
                (pss_cons (ps_expr (pe_bm PySem.F.plainAttrs_list PySem.F.slot_list_append PySem.F.type_list_append mt_append (pv 1) (pa_cons (pe_op op_mod (pe_callTy call_int1 (by rfl) T.m_int (by decide +kernel) (pa_cons (pv 3) pa_nil)) pe_int) pa_nil)))
                (pss_one (ps_set (i := 3) sc_draws_of.nd rfl (Or.inl rfl) (pe_op op_fdiv (pv 3) pe_int))))
                pss_nil)))))))
          pss_nil)))
      (pss_cons (ps_if (pt_cmpR (op_eqD hr.units) (pv 1) (pe_lst pa_nil) (nomark _))
        (pss_one (ps_set (i := 1) sc_draws_of.nd rfl (Or.inl rfl) (pe_lst (pa_cons pe_int (pa_cons pe_int (pa_cons pe_int (pa_cons pe_int (pa_cons pe_int (pa_cons pe_int (pa_cons pe_int (pa_cons pe_int (pa_cons pe_int (pa_cons pe_int (pa_cons pe_int (pa_cons pe_int (pa_cons pe_int pa_nil))))))))))))))))
        pss_nil)
      (pss_one (ps_ret (pv 1)))))), ?_⟩
    refine ⟨Nat.zero_le _, fun o no => ?_⟩
    -- the loop over the script
    refine ⟨.ref a, rfl, a, rfl, ⟨_, (same_upd no).seq hS⟩, ?_⟩
    refine for_list (xs := ns.map V.int) (fun i σ H1 => ∃ x2 x3 x4 ms, σ = [some (.ref a), some (.ref o), x2, x3, x4] ∧ Same H H1 ∧ H1 o = some (.lst (ms.map V.int)) ∧ ms.length ≤ 132 ∧ (ms = [] ∨ 3 ≤ ms.length) ∧ ∀ v ∈ ms, inR v)
      ⟨none, none, none, [], rfl, same_upd no, upd_same, Nat.zero_le _, .inl rfl, fun v hv => nomatch hv⟩ ?_ ?_ ?_
    · rintro i σ H1 _ ⟨_, _, _, ms, _, sm, _⟩
      exact sm.seq hS
    · rintro i x σ H1 hx ⟨x2, x3, x4, ms, rfl, sm, eo, hm, h3, hrg⟩
      obtain ⟨n, rfl⟩ : ∃ n : Int, x = .int n := by
        rw [List.getElem?_map] at hx
        cases e : ns[i]? with
        | none => rw [e] at hx; cases hx
        | some n => rw [e] at hx; exact ⟨n, (Option.some.inj hx).symm⟩
      refine ⟨_, rfl, o, _, rfl, .inl (.inl (.inl eo)), _, _, rfl, rfl, _, rfl, iteB (fun h1 => ?_) (fun h1 => ?_)⟩
      · have hl72 : ms.length < 72 := by
          have := of_decide_eq_true h1
          rw [List.length_map] at this
          omega
        refine ⟨_, rfl, .inl ⟨n, rfl, n, rfl, ?_⟩⟩
        generalize hL : (if n < 0 then -n else n) = L
        have hL0 : 0 ≤ L := by rw [← hL]; split <;> omega
        refine ⟨_, rfl, _, _, rfl, rfl, ⟨by decide, by decide, by decide⟩, _, _, rfl, rfl, _, rfl, iteB (fun h2 => ?_) (fun h2 => ?_)⟩
        · have hL1 : L < 1000000000000000000 := by rw [← pe10]; exact of_decide_eq_true h2
          refine ⟨3, rfl, by decide, by decide, ?_⟩
          refine for_range (lo := 0) (n := 3) (fun i σ H2 => ∃ x4 L ms', σ = [some (.ref a), some (.ref o), some (.int n), some (.int L), x4] ∧ Same H H2 ∧ H2 o = some (.lst (ms'.map V.int)) ∧ ms'.length = ms.length + i ∧ (∀ v ∈ ms', inR v) ∧ 0 ≤ L ∧ L < 1000000000000000000) 
            ⟨x4, L, ms, rfl, sm, eo, rfl, hrg, hL0, hL1⟩ ?_ ?_
          · rintro i σ H2 hi ⟨x4, L, ms', rfl, sm2, eo2, hm2, hrg2, hLa, hLb⟩
            refine ⟨_, rfl, _, _, rfl, rfl, .inl ⟨by omega, by omega⟩, _, rfl, _, _, rfl, rfl, .inl ⟨by decide, by decide⟩, _, _, rfl, rfl, _, _, rfl, rfl, .inl ⟨_, rfl, _, _, rfl, rfl, (by show (0 : Int) < 65521; decide), ?_⟩⟩
            refine ⟨_, rfl, .inl ⟨rfl, _, .inl (.inl eo2)⟩, _, rfl, o, _, _, rfl, rfl, eo2, sl9 (by rw [List.length_map]; omega), ?_⟩
            have hvr : inR ((L * 30011 + 7919 * (0 + (i : Int)) + 977) % 65521) := by constructor <;> omega
            refine ⟨_, (L * 30011 + 7919 * (0 + (i : Int)) + 977) % 65521, ms' ++ [(L * 30011 + 7919 * (0 + (i : Int)) + 977) % 65521], rfl, same_mut sm2 no, ?_, by rw [List.length_append, List.length_singleton]; omega, rg_app hrg2 hvr, hvr.1, by have := hvr.2; omega⟩
            rw [upd_same, map_app]
          · rintro σ H2 ⟨x4, L, ms', rfl, sm2, eo2, hm2, hrg2, hLa, hLb⟩
            exact ⟨_, _, _, ms', rfl, sm2, eo2, by omega, .inr (by omega), hrg2⟩
        · have hL1 : 1000000000000000000 ≤ L := by
            have := of_decide_eq_false h2
            rw [pe10] at this
            omega
          refine ⟨60, rfl, by decide, by decide, ?_⟩
          refine for_range (lo := 0) (n := 60) (fun i σ H2 => ∃ x4 L ms', σ = [some (.ref a), some (.ref o), some (.int n), some (.int L), x4] ∧ Same H H2 ∧ H2 o = some (.lst (ms'.map V.int)) ∧ ms'.length ≤ ms.length + i ∧ (∀ v ∈ ms', inR v) ∧ 0 ≤ L ∧
              (i = 0 → 1000000000000000000 ≤ L) ∧ (i = 1 → 10000000000 ≤ L ∧ 1 ≤ ms'.length) ∧ (i = 2 → 100000 ≤ L ∧ 2 ≤ ms'.length) ∧ (3 ≤ i → 3 ≤ ms'.length)) 
            ⟨x4, L, ms, rfl, sm, eo, Nat.le_refl _, hrg, hL0, fun _ => hL1, by omega, by omega, by omega⟩ ?_ ?_
          · rintro i σ H2 hi ⟨x4, L, ms', rfl, sm2, eo2, hm2, hrg2, hLa, c0, c1, c2, c3⟩
            refine ⟨_, rfl, _, _, rfl, rfl, _, rfl, iteB (fun h4 => ?_) (fun h4 => ?_)⟩
            · refine ⟨_, rfl, .inl ⟨rfl, _, .inl (.inl eo2)⟩, _, rfl, .inl ⟨_, rfl, _, _, rfl, rfl, (by show (0 : Int) < 65536; decide), o, _, _, rfl, rfl, eo2, sl9 (by rw [List.length_map]; omega), ?_⟩⟩
              refine ⟨_, rfl, _, _, rfl, rfl, ⟨by decide, by decide⟩, ?_⟩
              have hvr : inR (L % 65536) := by constructor <;> omega
              refine ⟨_, L / 65536, ms' ++ [L % 65536], rfl, same_mut sm2 no, ?_, by rw [List.length_append, List.length_singleton]; omega, rg_app hrg2 hvr, by omega, by omega, ?_, ?_, ?_⟩
              · rw [upd_same, map_app]
              · intro e; rw [List.length_append, List.length_singleton]; have := c0 (by omega); constructor <;> omega
              · intro e; rw [List.length_append, List.length_singleton]; have := c1 (by omega); constructor <;> omega
              · intro e; rw [List.length_append, List.length_singleton]
                by_cases e2 : i = 2
                · have := c2 e2; omega
                · have := c3 (by omega); omega
            · have h4' : ¬ (0 < L) := of_decide_eq_false h4
              refine ⟨_, L, ms', rfl, sm2, eo2, by omega, hrg2, hLa, by omega, ?_, ?_, ?_⟩
              · intro e; have := c0 (by omega); omega
              · intro e; have := c1 (by omega); omega
              · intro e
                by_cases e2 : i = 2
                · have := c2 e2; omega
                · exact c3 (by omega)
          · rintro σ H2 ⟨x4, L, ms', rfl, sm2, eo2, hm2, hrg2, hLa, c0, c1, c2, c3⟩
            exact ⟨_, _, _, ms', rfl, sm2, eo2, by omega, .inr (c3 (by omega)), hrg2⟩
      · exact ⟨_, _, _, ms, rfl, sm, eo, hm, h3, hrg⟩
    · rintro σ H1 ⟨x2, x3, x4, ms, rfl, sm, eo, hm, h3, hrg⟩
      refine ⟨_, rfl, Nat.zero_le _, fun p np => ?_⟩
      have nop : o ≠ p := ne_of_none eo np
      refine ⟨_, .list [], .lst (.inl (.inl ((upd_ne nop).trans eo))) (dp_ints ms), .lst (.inl (.inl upd_same)) .nil, shp_ints ms, by decide, _, rfl, iteB (fun h1 => ?_) (fun h1 => ?_)⟩
      · refine ⟨by show 13 ≤ sizeLine; decide, fun r nr => ⟨_, rfl, ?_⟩⟩
        have s1 : Same H (upd H1 p (.lst [])) := sm.trans (same_upd np)
        refine q _ r [2, 10, 1, 0, 4, 0, 1052, 0, 148, 26, 132, 0, 20] (s1.trans (same_upd nr)) (s1.free nr) upd_same ⟨by decide, by decide, ?_⟩
        intro v hv
        simp only [List.mem_cons, List.not_mem_nil, or_false] at hv
        unfold inR
        omega
      · rw [eqv_nil] at h1
        have h3' : 3 ≤ ms.length := by
          rcases h3 with rfl | h3
          · simp at h1
          · exact h3
        refine ⟨_, rfl, ?_⟩
        refine q _ o ms (sm.trans (same_upd np)) no ((upd_ne nop).trans eo) ⟨h3', by omega, hrg⟩
theorem ok_nth {f : Addr} {fd : FuncData} (F : Fun K "_law_nth" "_law_nth" s_nth f fd) (T : TB mg) : FnOk P w K mg base CX0 1 f fd ["_law_pool", "_law_k"] (spNth K) := by
  refine F.ok sc_nth (fun vs H Q E h => ?_) (fun cdv A outer s H vs Q E hr h => ?_)
  · obtain ⟨p, ms, k, rfl, _⟩ := h
    rfl
  · obtain ⟨p, ms, k, rfl, hS, hP, hk0, hk1, q⟩ := h
    refine ⟨_, (pss_cons (ps_if (pt_cmpR op_lt (pv 1) (pe_callB call_len_seq (by rfl) T.m_len (by decide +kernel) (pa_cons (pv 0) pa_nil)) (nomark _))
        (pss_one (ps_ret (pe_ix ix_list (pv 0) (pv 1) (fun _ _ => rfl))))
        pss_nil)
      (pss_one (ps_ret (pe_op op_mod (pe_callTy call_int1 (by rfl) T.m_int (by decide +kernel) (pa_cons (pe_op op_add (pe_op op_mul (pe_ix ix_list (pv 0) (pe_op op_mod (pv 1) (pe_callB call_len_seq (by rfl) T.m_len (by decide +kernel) (pa_cons (pv 0) pa_nil))) (fun _ _ => rfl)) pe_int) (pe_op op_mul (pv 1) pe_int)) pa_nil)) pe_int)))), ?_⟩
    have hl : (ms.map V.int).length = ms.length := List.length_map _
    have hlo := hP.lo
    refine ⟨_, rfl, _, rfl, p, _, rfl, .inl hS, _, _, rfl, rfl, _, rfl, iteB (fun h1 => ?_) (fun h1 => ?_)⟩
    · have h1' : k < (ms.length : Int) := by have := of_decide_eq_true h1; rw [hl] at this; exact this
      refine ⟨_, rfl, _, rfl, p, _, k, _, rfl, rfl, hS, at_pool hk0 h1', ?_⟩
      have e : nthV ms k = ms.getD k.toNat 0 := if_pos h1'
      rw [← e]
      exact q
    · have h1' : ¬ k < (ms.length : Int) := by have := of_decide_eq_false h1; rw [hl] at this; exact this
      have hi : (k % (ms.length : Int)).toNat < ms.length := by
        have h0 := Int.emod_nonneg k (show (ms.length : Int) ≠ 0 by omega)
        have h1 := Int.emod_lt_of_pos k (show 0 < (ms.length : Int) by omega)
        omega
      have hv := (getD_rg hP.rg hi).2
      refine ⟨_, rfl, _, rfl, _, rfl, p, _, rfl, .inl hS, _, _, rfl, rfl, (by show (0 : Int) < (((ms.map V.int).length : Nat) : Int); rw [hl]; omega), ?_⟩
      rw [hl]
      refine ⟨p, _, _, _, rfl, rfl, hS, at_pool (Int.emod_nonneg k (by omega)) (Int.emod_lt_of_pos k (by omega)), _, _, rfl, rfl, .inr ⟨by decide, by decide⟩, _, rfl, _, _, rfl, rfl, .inl ⟨by omega, by omega⟩, _, _, rfl, rfl, .inl ⟨_, rfl, _, _, rfl, rfl, (by show (0 : Int) < 65521; decide), ?_⟩⟩
      have e : nthV ms k = (ms.getD (k % (ms.length : Int)).toNat 0 * 31 + k * 7919) % 65521 := if_neg h1'
      rw [e] at q
      exact q
end
abbrev s_named : Stmt := topS 20
abbrev N_named : List Str := ["_law_k", "_law_style", "_law_one", "_law_kind", "_law_words", "_law_base"]
theorem sc_named : FnScope N_named ["_law_k", "_law_style"] (defScope s_named) := ⟨rfl, rfl, rfl, by decide +kernel, rfl, by decide +kernel, by decide +kernel⟩
def spNamed : Sp := fun vs H Q _ => ∃ k st : Int, vs = [.int k, .int st] ∧ 0 ≤ k ∧ k < 16 ∧ 0 ≤ st ∧ st < 70000 ∧ ∀ H', Same H H' → Q (.str (nameV k st)) H'
theorem a26_len2 : A26.length ≤ 100000 := by decide +kernel
theorem small_log {i : Int} (h : i.natAbs < 20000) : i.natAbs.log2 < 1920 := by
  by_cases h0 : i.natAbs = 0
  · rw [h0]
    decide
  · exact (Nat.log2_lt h0).mpr (Nat.lt_of_lt_of_le h (by decide +kernel))
theorem ws_at {k : Int} (h0 : 0 ≤ k) : atI (WS.map V.str) (k % 10) = some (.str (WS.getD (k % 10).toNat "")) := by
  obtain ⟨j, hj⟩ : ∃ j : Nat, k % 10 = (j : Int) := ⟨(k % 10).toNat, by omega⟩
  rw [hj, Int.toNat_natCast]
  have hl : j < WS.length := by show j < 10; omega
  refine atI_nat ?_
  rw [List.getElem?_map, List.getElem?_eq_getElem hl, List.getD_eq_getElem?_getD, List.getElem?_eq_getElem hl]
  rfl
theorem ws_sht (j : Nat) : Sht (WS.getD j "") 8 := by
  by_cases hl : j < WS.length
  · rw [List.getD_eq_getElem?_getD, List.getElem?_eq_getElem hl]
    have h : ∀ z ∈ WS, z.length ≤ 8 ∧ ∀ c ∈ z.cps.toList, c < 1114112 := by decide +kernel
    exact h _ (List.getElem_mem hl)
  · rw [List.getD_eq_getElem?_getD, List.getElem?_eq_none (by omega)]
    exact ⟨by decide, by decide +kernel⟩
theorem sl {x y : Str} {n m : Nat} (h : Sht x n) (h' : Sht y m) (hn : n + m ≤ 100000) : x.length + y.length ≤ sizeLine := sz9 (by have := h.1; have := h'.1; omega)
theorem ifI {i j : Int} {A B : Prop} (h1 : i = j → A) (h2 : i ≠ j → B) : if decide (V.int i = V.int j) = true then A else B := by
  by_cases h : i = j
  · rw [if_pos (decide_eq_true (congrArg V.int h))]
    exact h1 h
  · rw [if_neg (fun e => h (by injection of_decide_eq_true e))]
    exact h2 h
section
variable {P : Program} {w : World} {K : PySem.W.Frag} {mg : Str → Option Value} {base : Heap}
theorem ok_named {f : Addr} {fd : FuncData} (F : Fun K "_law_named" "_law_named" s_named f fd) (T : TxS mg) : FnOk P w K mg base CX0 1 f fd ["_law_k", "_law_style"] spNamed := by
  refine F.ok sc_named (fun vs H Q E h => ?_) (fun cdv A outer s H vs Q E hr h => ?_)
  · obtain ⟨k, st, rfl, _⟩ := h
    rfl
  · obtain ⟨k, st, rfl, k0, k1, s0, s1, q⟩ := h
    refine ⟨_, (pss_cons (ps_set (i := 2) sc_named.nd rfl (Or.inl rfl) (pe_ix ix_str pe_str (pe_op op_mod (pe_callTy call_int1 (by rfl) T.m_int (by decide +kernel) (pa_cons (pe_op op_add (pe_op op_mul (pv 0) pe_int) (pe_op op_fdiv (pv 1) pe_int)) pa_nil)) pe_int) (fun _ _ => rfl)))
      (pss_cons (ps_set (i := 3) sc_named.nd rfl (Or.inl rfl) (pe_op op_mod (pe_callTy call_int1 (by rfl) T.m_int (by decide +kernel) (pa_cons (pv 1) pa_nil)) pe_int))
      (pss_cons (ps_if (PW.pt (pw_and (pt_cmpR op_eq (pv 3) pe_int (nomark _)) (pw_and1 (pt_cmpR op_eq (pe_op op_mod (pe_op op_fdiv (pe_callTy call_int1 (by rfl) T.m_int (by decide +kernel) (pa_cons (pv 1) pa_nil)) pe_int) pe_int) pe_int (nomark _)))))
        (pss_cons (ps_set (i := 4) sc_named.nd rfl (Or.inl rfl) (pe_lst (pa_cons pe_str (pa_cons pe_str (pa_cons pe_str (pa_cons pe_str (pa_cons pe_str (pa_cons pe_str (pa_cons pe_str (pa_cons pe_str (pa_cons pe_str (pa_cons pe_str pa_nil))))))))))))
        (pss_one (ps_ret (pe_op op_add_str (pe_ix ix_list (pv 4) (pe_op op_mod (pe_callTy call_int1 (by rfl) T.m_int (by decide +kernel) (pa_cons (pv 0) pa_nil)) pe_int) (fun _ _ => rfl)) (pe_op op_repE pe_str (pe_op op_fdiv (pe_callTy call_int1 (by rfl) T.m_int (by decide +kernel) (pa_cons (pv 0) pa_nil)) pe_int))))))
        pss_nil)
      (pss_cons (ps_if (PW.pt (pw_and (pt_cmpR op_eq (pv 3) pe_int (nomark _)) (pw_and1 (pt_cmpR op_eq (pe_op op_mod (pe_op op_fdiv (pe_callTy call_int1 (by rfl) T.m_int (by decide +kernel) (pa_cons (pv 1) pa_nil)) pe_int) pe_int) pe_int (nomark _)))))
        (pss_one (ps_ret (pe_op op_add_str (pe_op op_repE pe_str (pe_op op_fdiv (pe_callTy call_int1 (by rfl) T.m_int (by decide +kernel) (pa_cons (pv 0) pa_nil)) pe_int)) (pe_op op_repE pe_str (pe_op op_add (pe_op op_mod (pe_callTy call_int1 (by rfl) T.m_int (by decide +kernel) (pa_cons (pv 0) pa_nil)) pe_int) pe_int)))))
        pss_nil)
      (pss_cons (ps_if (pt_cmpR op_eq (pv 3) pe_int (nomark _))
        (pss_one (ps_ret (pe_op op_add_str (pe_op op_repE pe_str (pe_op op_mod (pe_callTy call_int1 (by rfl) T.m_int (by decide +kernel) (pa_cons (pv 0) pa_nil)) pe_int)) (pv 2))))
        pss_nil)
      (pss_cons (ps_if (pt_cmpR op_eq (pv 3) pe_int (nomark _))
        (pss_cons (ps_set (i := 5) sc_named.nd rfl (Or.inl rfl) (pe_op op_add_str (pv 2) (pe_callTy call_str_int (by rfl) T.m_str (by decide +kernel) (pa_cons (pe_op op_mod (pe_callTy call_int1 (by rfl) T.m_int (by decide +kernel) (pa_cons (pe_op op_fdiv (pv 1) pe_int) pa_nil)) pe_int) pa_nil))))
        (pss_cons (ps_if (pt_cmpR op_eq (pe_op op_mod (pe_callTy call_int1 (by rfl) T.m_int (by decide +kernel) (pa_cons (pv 0) pa_nil)) pe_int) pe_int (nomark _))
          (pss_one (ps_ret (pe_op op_add_str (pv 5) (pe_op op_repE pe_str (pe_op op_sub pe_int (pe_callB call_len_str (by rfl) T.m_len (by decide +kernel) (pa_cons (pv 5) pa_nil)))))))
          pss_nil)
        (pss_one (ps_ret (pe_op op_add_str (pv 5) (pe_op op_repE pe_str (pe_op op_mod (pe_callTy call_int1 (by rfl) T.m_int (by decide +kernel) (pa_cons (pv 0) pa_nil)) pe_int)))))))
        pss_nil)
      (pss_cons (ps_if (pt_cmpR op_eq (pv 3) pe_int (nomark _))
        (pss_one (ps_ret (pe_op op_add_str pe_str (pe_callTy call_str_int (by rfl) T.m_str (by decide +kernel) (pa_cons (pe_op op_sub pe_int (pe_op op_mul pe_int (pv 0))) pa_nil)))))
        pss_nil)
      (pss_one (ps_ret (pv 2)))))))))), ?_⟩
    have hc := at_26 k st
    have one := sht_one k st
    refine ⟨_, rfl, _, _, rfl, rfl, .inr ⟨by decide, by decide⟩, _, rfl, _, _, rfl, rfl, ⟨by decide, by decide⟩, _, _, rfl, rfl, .inl ⟨_, rfl, _, _, rfl, rfl, (by show (0 : Int) < 26; decide), A26, _, _, rfl, rfl, sz9 a26_len2, hc, ?_⟩⟩
    refine ⟨_, rfl, .inl ⟨_, rfl, _, _, rfl, rfl, (by show (0 : Int) < 4; decide), ?_⟩⟩
    have Wret : st % 4 = 1 ∧ st / 4 % 2 = 1 → nameV k st = WS.getD (k % 10).toNat "" ++ repT 50 (k / 10).toNat := fun c => if_pos c
    have c50 : ("2" : Str).cps = #[50] := by decide +kernel
    have c98 : ("b" : Str).cps = #[98] := by decide +kernel
    have c97 : ("a" : Str).cps = #[97] := by decide +kernel
    have c113 : ("q" : Str).cps = #[113] := by decide +kernel
    have c120 : ("x" : Str).cps = #[120] := by decide +kernel
    refine ⟨_, rfl, rfl, _, rfl, ifI (fun a1 => ?_) (fun a1 => ?_)⟩
    · refine ⟨_, rfl, .inl ⟨_, rfl, _, _, rfl, rfl, ⟨by decide, by decide⟩, _, _, rfl, rfl, (by show (0 : Int) < 2; decide), rfl, _, rfl, ifI (fun b1 => ?_) (fun b1 => ?_)⟩⟩
      · refine ⟨by show 10 ≤ sizeLine; decide, fun l nl => ?_⟩
        refine ⟨_, rfl, _, rfl, .inl ⟨_, rfl, _, _, rfl, rfl, (by show (0 : Int) < 10; decide), l, _, _, _, rfl, rfl, .inl (.inl upd_same), ws_at k0, ?_⟩⟩
        refine ⟨_, rfl, .inl ⟨_, rfl, _, _, rfl, rfl, ⟨by decide, by decide⟩, "2", 50, _, rfl, rfl, c50, by omega, by omega, _, _, rfl, rfl, sl (ws_sht _) (sht_rep (by decide)) (by omega), ?_⟩⟩
        have hq := q _ (same_upd (o := .lst (WS.map V.str)) nl)
        rw [Wret ⟨a1, b1⟩] at hq
        exact hq
      · refine ⟨_, rfl, rfl, _, rfl, ifI (fun h => absurd h (by omega)) (fun _ => ?_)⟩
        refine ⟨_, rfl, rfl, _, rfl, ifI (fun _ => ?_) (fun h => absurd a1 h)⟩
        refine ⟨_, rfl, .inl ⟨_, rfl, _, _, rfl, rfl, (by show (0 : Int) < 3; decide), "q", 113, _, rfl, rfl, c113, by omega, by omega, ?_⟩⟩
        refine ⟨_, rfl, _, _, rfl, rfl, sl (sht_rep (by decide)) one (by omega), ?_⟩
        have hq := q _ (Same.refl H)
        rw [show nameV k st = repT 113 (k % 3).toNat ++ ⟨#[oneV k st]⟩ by unfold nameV; rw [if_neg (fun h => b1 h.2), if_neg (by omega), if_pos a1]] at hq
        exact hq
    · refine ⟨_, rfl, rfl, _, rfl, ifI (fun a3 => ?_) (fun a3 => ?_)⟩
      · refine ⟨_, rfl, .inl ⟨_, rfl, _, _, rfl, rfl, ⟨by decide, by decide⟩, _, _, rfl, rfl, (by show (0 : Int) < 2; decide), rfl, _, rfl, ifI (fun b1 => ?_) (fun b1 => ?_)⟩⟩
        · refine ⟨_, rfl, .inl ⟨_, rfl, _, _, rfl, rfl, ⟨by decide, by decide⟩, "b", 98, _, rfl, rfl, c98, by omega, by omega, ?_⟩⟩
          refine ⟨_, rfl, .inl ⟨_, rfl, _, _, rfl, rfl, (by show (0 : Int) < 7; decide), _, _, rfl, rfl, "a", 97, _, rfl, rfl, c97, by omega, by omega, _, _, rfl, rfl, sl (sht_rep (by decide)) (sht_rep (by decide)) (by omega), ?_⟩⟩
          have hq := q _ (Same.refl H)
          rw [show nameV k st = repT 98 (k / 7).toNat ++ repT 97 (k % 7 + 1).toNat by unfold nameV; rw [if_neg (by omega), if_pos ⟨a3, b1⟩]] at hq
          exact hq
        · refine ⟨_, rfl, rfl, _, rfl, ifI (fun h => absurd h (by omega)) (fun _ => ?_)⟩
          refine ⟨_, rfl, rfl, _, rfl, ifI (fun h => absurd h (by omega)) (fun _ => ?_)⟩
          refine ⟨_, rfl, rfl, _, rfl, ifI (fun _ => ?_) (fun h => absurd a3 h)⟩
          obtain ⟨m, rfl⟩ : ∃ m : Nat, k = (m : Int) := ⟨k.toNat, by omega⟩
          have hs : Sht (m7 m) 12 := (fin_of fin_m7 (show m < 16 by omega)).1
          have hl2 : (tS (100 - 7 * (m : Int))).length ≤ 12 := by
            have h1 : (m7 m).length = ("m" : Str).length + (tS (100 - 7 * (m : Int))).length := Array.size_append
            have := hs.1
            omega
          refine ⟨_, rfl, _, _, rfl, rfl, .inl ⟨by decide, by decide⟩, _, _, rfl, rfl, _, rfl, small_log (by omega), _, _, rfl, rfl, sz9 (Nat.le_trans (Nat.add_le_add (show ("m" : Str).length ≤ 1 by decide +kernel) hl2) (by decide)), ?_⟩
          have hq := q _ (Same.refl H)
          rw [show nameV (m : Int) st = ("m" : Str) ++ tS (100 - 7 * (m : Int)) by unfold nameV; rw [if_neg (by omega), if_neg (fun h => b1 h.2), if_neg (by omega), if_neg (by omega), if_pos a3]] at hq
          exact hq
      · refine ⟨_, rfl, rfl, _, rfl, ifI (fun h => absurd h a1) (fun _ => ?_)⟩
        refine ⟨_, rfl, rfl, _, rfl, ifI (fun a2 => ?_) (fun a2 => ?_)⟩
        · have base := base_len k st
          have hb := base.1
          obtain ⟨m, hm⟩ : ∃ m : Nat, st / 4 % 10000 = (m : Int) := ⟨(st / 4 % 10000).toNat, by omega⟩
          have hsm : Sht (tS (st / 4 % 10000)) 10 := by rw [hm]; exact tS_sht (by omega)
          have hN : nameV k st = if k % 4 = 3 then baseV k st ++ repT 120 (8 - ((baseV k st).length : Int)).toNat else baseV k st ++ repT 120 (k % 4).toNat := by
            unfold nameV; rw [if_neg (by omega), if_neg (by omega), if_neg (by omega), if_pos a2]
          refine ⟨_, rfl, _, rfl, _, _, rfl, rfl, ⟨by decide, by decide⟩, .inl ⟨_, rfl, _, _, rfl, rfl, (by show (0 : Int) < 10000; decide), _, rfl, small_log (by omega), ?_⟩⟩
          refine ⟨_, _, rfl, rfl, sl one hsm (by omega), ?_⟩
          refine ⟨_, rfl, .inl ⟨_, rfl, _, _, rfl, rfl, (by show (0 : Int) < 4; decide), rfl, _, rfl, ifI (fun b2 => ?_) (fun b2 => ?_)⟩⟩
          · rw [if_pos b2] at hN
            refine ⟨_, rfl, _, rfl, baseV k st, rfl, base.sz (by omega), _, _, rfl, rfl, "x", 120, _, rfl, rfl, c120, by omega, by omega, baseV k st, _, rfl, rfl, sl (n := 11) (m := 11) base ((sht_rep (c := 120) (n := (8 - ((baseV k st).length : Int)).toNat) (by decide)).le (by omega)) (by omega), ?_⟩
            have hq := q _ (Same.refl H)
            rw [hN] at hq
            exact hq
          · rw [if_neg b2] at hN
            refine ⟨_, rfl, _, rfl, .inl ⟨_, rfl, _, _, rfl, rfl, (by show (0 : Int) < 4; decide), "x", 120, _, rfl, rfl, c120, by omega, by omega, baseV k st, _, rfl, rfl, sl base (sht_rep (by decide)) (by omega), ?_⟩⟩
            have hq := q _ (Same.refl H)
            rw [hN] at hq
            exact hq
        · refine ⟨_, rfl, rfl, _, rfl, ifI (fun h => absurd h a3) (fun _ => ?_)⟩
          refine ⟨_, rfl, ?_⟩
          have hq := q _ (Same.refl H)
          rw [show nameV k st = ⟨#[oneV k st]⟩ by unfold nameV; rw [if_neg (by omega), if_neg (by omega), if_neg a1, if_neg a2, if_neg a3]] at hq
          exact hq
end
/-- a text of at most n plain signs without a newline -/
def Lin (n : Nat) (z : Str) : Prop := Sht z n ∧ 10 ∉ z.cps.toList
theorem Lin.le {n m : Nat} {z : Str} (h : Lin n z) (k : n ≤ m) : Lin m z := ⟨h.1.le k, h.2⟩
theorem Lin.app {n m : Nat} {y z : Str} (h : Lin n y) (h' : Lin m z) : Lin (n + m) (y ++ z) := ⟨h.1.app h'.1, fun hc => by
  rw [app_cps, List.mem_append] at hc
  exact hc.elim h.2 h'.2⟩
def linB (n : Nat) (z : Str) : Bool := decide (z.length ≤ n) && z.cps.toList.all fun c => decide (c < 1114112) && c != 10
theorem lin_of {n : Nat} {z : Str} (h : linB n z = true) : Lin n z := by
  obtain ⟨h1, h2⟩ := Bool.and_eq_true_iff.mp h
  refine ⟨⟨of_decide_eq_true h1, fun c hc => of_decide_eq_true (Bool.and_eq_true_iff.mp (List.all_eq_true.mp h2 c hc)).1⟩, fun hc => ?_⟩
  have h3 := (Bool.and_eq_true_iff.mp (List.all_eq_true.mp h2 10 hc)).2
  exact absurd h3 (by decide)
theorem lin_rep {c n : Nat} (h : c < 1114112) (h' : c ≠ 10) : Lin n (repT c n) := ⟨sht_rep h, fun hc => by
  rw [rep_cps] at hc
  exact h' (List.mem_replicate.mp hc).2.symm⟩
theorem a26_nl : ∀ c ∈ A26.cps.toList, c ≠ 10 := by decide +kernel
theorem one_nl (k st : Int) : oneV k st ≠ 10 := by
  have hl : ((k * 7 + st / 4) % 26).toNat < A26.cps.toList.length := by rw [a26_len]; omega
  unfold oneV
  rw [List.getD_eq_getElem?_getD, List.getElem?_eq_getElem hl]
  exact a26_nl _ (List.getElem_mem hl)
theorem lin_one (k st : Int) : Lin 1 (⟨#[oneV k st]⟩ : Str) := by
  refine ⟨sht_one k st, fun hc => one_nl k st ?_⟩
  have h : 10 = oneV k st := by simpa using hc
  exact h.symm
theorem lin_tS {n : Nat} (h : n < 10 ^ 10) : Lin 10 (tS (n : Int)) := ⟨tS_sht h, fun hc => by
  rw [tS_nat] at hc
  obtain ⟨d, hd, e⟩ := List.mem_map.mp hc
  have hg := digits_dig n d hd
  simp only [Char.isDigit, Bool.and_eq_true, decide_eq_true_eq] at hg
  obtain ⟨a, _⟩ := hg
  have a' : 48 ≤ d.toNat := a
  omega⟩
theorem lin_base (k st : Int) : Lin 11 (baseV k st) := by
  unfold baseV
  obtain ⟨m, hm⟩ : ∃ m : Nat, st / 4 % 10000 = (m : Int) := ⟨(st / 4 % 10000).toNat, by omega⟩
  rw [hm]
  exact (lin_one k st).app (lin_tS (n := m) (by omega))
def finL (f : Nat → Str) : Bool := (List.range 16).all fun a => linB 12 (f a)
theorem finL_ws : finL ws10 = true := by decide +kernel
theorem finL_ba : finL ba = true := by decide +kernel
theorem finL_m7 : finL m7 = true := by decide +kernel
theorem finL_of {f : Nat → Str} (h : finL f = true) {a : Nat} (ha : a < 16) : Lin 12 (f a) := lin_of (List.all_eq_true.mp h a (List.mem_range.mpr ha))
theorem name_lin {k st : Int} (h0 : 0 ≤ k) (h1 : k < 16) : Lin 20 (nameV k st) := by
  refine ⟨(name_facts (st := st) h0 h1).1, ?_⟩
  obtain ⟨a, rfl⟩ : ∃ a : Nat, k = (a : Int) := ⟨k.toNat, by omega⟩
  have ha : a < 16 := by omega
  unfold nameV
  by_cases c1 : st % 4 = 1 ∧ st / 4 % 2 = 1
  · rw [if_pos c1]
    have e : WS.getD ((a : Int) % 10).toNat "" ++ repT 50 ((a : Int) / 10).toNat = ws10 a := by
      unfold ws10
      rw [show ((a : Int) % 10).toNat = a % 10 by omega, show ((a : Int) / 10).toNat = a / 10 by omega]
    rw [e]
    exact (finL_of finL_ws ha).2
  rw [if_neg c1]
  by_cases c2 : st % 4 = 3 ∧ st / 4 % 2 = 1
  · rw [if_pos c2]
    have e : repT 98 ((a : Int) / 7).toNat ++ repT 97 ((a : Int) % 7 + 1).toNat = ba a := by
      unfold ba
      rw [show ((a : Int) / 7).toNat = a / 7 by omega, show ((a : Int) % 7 + 1).toNat = a % 7 + 1 by omega]
    rw [e]
    exact (finL_of finL_ba ha).2
  rw [if_neg c2]
  by_cases c3 : st % 4 = 1
  · rw [if_pos c3]
    exact ((lin_rep (by decide) (by decide)).app (lin_one _ _)).2
  rw [if_neg c3]
  by_cases c4 : st % 4 = 2
  · rw [if_pos c4]
    split
    · exact ((lin_base _ _).app (lin_rep (by decide) (by decide))).2
    · exact ((lin_base _ _).app (lin_rep (by decide) (by decide))).2
  rw [if_neg c4]
  by_cases c5 : st % 4 = 3
  · rw [if_pos c5]
    exact (finL_of finL_m7 ha).2
  · rw [if_neg c5]
    exact (lin_one _ _).2
def spNamedL : Sp := fun vs H Q _ => ∃ k st : Int, vs = [.int k, .int st] ∧ 0 ≤ k ∧ k < 16 ∧ 0 ≤ st ∧ st < 70000 ∧ ∀ z H', Same H H' → Lin 20 z → Q (.str z) H'
theorem named_lin {P : Program} {w : World} {K : PySem.W.Frag} {mg : Str → Option Value} {base : Heap} {f : Addr} {fd : FuncData} (F : FnOk P w K mg base CX0 1 f fd ["_law_k", "_law_style"] spNamed) : FnOk P w K mg base CX0 1 f fd ["_law_k", "_law_style"] spNamedL :=
  F.imp fun vs H Q E h => by
    obtain ⟨k, st, e, k0, k1, s0, s1, q⟩ := h
    exact ⟨k, st, e, k0, k1, s0, s1, fun H' s' => q _ H' s' (name_lin k0 k1)⟩
def joinB (acc : Str) (zs : List Str) : Str := zs.foldl (fun acc z => acc ++ wSp ++ z) acc
/-- the written form -/
def textP : List Part → Str
  | [.s w, .s p] => w ++ wSp ++ p
  | [.s w, .s p, .s x] => w ++ wSp ++ p ++ wSp ++ x
  | [.s w, .s p, .t zs] => joinB (w ++ wSp ++ p) zs
  | _ => wSp
theorem isW_s {w : Part} {y : Str} (h : isW w y = true) : w = .s y := by
  cases w with
  | s z => exact congrArg Part.s (of_decide_eq_true h)
  | t zs => cases h
theorem nmP_s {p : Part} (h : nmP p = true) : ∃ z, p = .s z ∧ nameB z = true := by
  cases p with
  | s z => exact ⟨z, rfl, h⟩
  | t zs => cases h
theorem difP_t {p : Part} (h : difP p = true) : ∃ zs, p = .t zs := by
  cases p with
  | s z => cases h
  | t zs => exact ⟨zs, rfl⟩
/-- the four forms -/
inductive Form : List Part → Prop
  | b (p : Str) : Form [.s wBegin, .s p]
  | q (p : Str) : Form [.s wQuit, .s p]
  | r (p x : Str) : Form [.s wRead, .s p, .s x]
  | c (p : Str) (zs : List Str) : Form [.s wClose, .s p, .t zs]
theorem form_of : ∀ {ps : List Part}, stepB ps = true → Form ps
  | [], h => by cases h
  | [_], h => by cases h
  | w0 :: p0 :: rest, h => by
    simp only [stepB] at h
    obtain ⟨h1, h2⟩ := Bool.and_eq_true_iff.mp h
    obtain ⟨p, rfl, _⟩ := nmP_s h1
    by_cases e1 : (isW w0 wBegin || isW w0 wQuit) = true
    · rw [if_pos e1] at h2
      have h3 : rest.length = 0 := of_decide_eq_true h2
      have h4 : rest = [] := List.length_eq_zero_iff.mp h3
      subst h4
      rcases Bool.or_eq_true_iff.mp e1 with e | e
      · rw [isW_s e]
        exact .b p
      · rw [isW_s e]
        exact .q p
    rw [if_neg e1] at h2
    by_cases e2 : isW w0 wRead = true
    · rw [if_pos e2] at h2
      obtain ⟨h3, h4⟩ := Bool.and_eq_true_iff.mp h2
      have h5 : rest.length = 1 := of_decide_eq_true h3
      match rest, h5 with
      | [x], _ =>
        obtain ⟨y, hy, _⟩ := nmP_s (show nmP x = true from h4)
        rw [isW_s e2, hy]
        exact .r p y
    rw [if_neg e2] at h2
    by_cases e3 : isW w0 wClose = true
    · rw [if_pos e3] at h2
      obtain ⟨h3, h4⟩ := Bool.and_eq_true_iff.mp h2
      have h5 : rest.length = 1 := of_decide_eq_true h3
      match rest, h5 with
      | [x], _ =>
        obtain ⟨zs, hy⟩ := difP_t (show difP x = true from h4)
        rw [isW_s e3, hy]
        exact .c p zs
    rw [if_neg e3] at h2
    cases h2
theorem dBR : decide (V.str wBegin = V.str wRead) = false := by decide +kernel
theorem dBC : decide (V.str wBegin = V.str wClose) = false := by decide +kernel
theorem dQR : decide (V.str wQuit = V.str wRead) = false := by decide +kernel
theorem dQC : decide (V.str wQuit = V.str wClose) = false := by decide +kernel
theorem dRC : decide (V.str wRead = V.str wClose) = false := by decide +kernel
theorem dCR : decide (V.str wClose = V.str wRead) = false := by decide +kernel
theorem apl (x y : Str) : (x ++ y).length = x.length + y.length := Array.size_append
theorem wlen : wBegin.length = 5 ∧ wQuit.length = 4 ∧ wRead.length = 4 ∧ wClose.length = 5 ∧ wSp.length = 1 := by decide +kernel
theorem pr2 {H : Hp} {xs : List V} {w p : Str} (h : Paired (PtAt H) xs [.s w, .s p]) : xs = [.str w, .str p] := by
  cases h with
  | cons h0 h =>
    cases h with
    | cons h1 h =>
      cases h
      cases (show _ = V.str w from h0)
      cases (show _ = V.str p from h1)
      rfl
theorem pr3 {H : Hp} {xs : List V} {w p : Str} {q : Part} (h : Paired (PtAt H) xs [.s w, .s p, q]) : ∃ y, xs = [.str w, .str p, y] ∧ PtAt H y q := by
  cases h with
  | cons h0 h =>
    cases h with
    | cons h1 h =>
      cases h with
      | cons h2 h =>
        cases h
        cases (show _ = V.str w from h0)
        cases (show _ = V.str p from h1)
        exact ⟨_, rfl, h2⟩
abbrev s_good_step : Stmt := topS 23
abbrev N_good_step : List Str := ["_law_draw", "_law_style", "_law_name", "_law_stride", "_law_things", "_law_k"]
theorem sc_good_step : FnScope N_good_step ["_law_draw", "_law_style"] (defScope s_good_step) := ⟨rfl, rfl, rfl, by decide +kernel, rfl, by decide +kernel, by decide +kernel⟩
/-- a step of the four forms, as the law draws it -/
def GoodP : List Part → Prop
  | [.s w, .s p] => (w = wBegin ∨ w = wQuit) ∧ Lin 20 p
  | [.s w, .s p, .s x] => w = wRead ∧ Lin 20 p ∧ Lin 20 x
  | [.s w, .s p, .t zs] => w = wClose ∧ Lin 20 p ∧ zs.length ≤ 6 ∧ ∀ z ∈ zs, Lin 20 z
  | _ => False
def spGood : Sp := fun vs H Q _ => ∃ d st : Int, vs = [.int d, .int st] ∧ 0 ≤ d ∧ d < 70000 ∧ 0 ≤ st ∧ st < 70000 ∧ ∀ (a : Addr) (ps : List Part) H', Same H H' → StAt H' a ps → GoodP ps → Q (.ref a) H'
section
variable {P : Program} {w : World} {K : PySem.W.Frag} {mg : Str → Option Value} {base : Heap}
theorem ok_good_step {f : Addr} {fd : FuncData} (F : Fun K "_law_good_step" "_law_good_step" s_good_step f fd) (T : TxS mg) (C_named : Cal P w K mg base "_law_named" 1 spNamedL) : FnOk P w K mg base CX0 2 f fd ["_law_draw", "_law_style"] spGood := by
  refine F.ok sc_good_step (fun vs H Q E h => ?_) (fun cdv A outer s H vs Q E hr h => ?_)
  · obtain ⟨d, st, rfl, _⟩ := h
    rfl
  · obtain ⟨d, st, rfl, d0, d1, s0, s1, q⟩ := h
    refine ⟨_, (pss_cons (ps_set (i := 2) sc_good_step.nd rfl (Or.inl rfl) (pe_cal C_named (hr.mono (by decide)) (by rfl) (pa_cons (pe_op op_mod (pe_op op_fdiv (pe_callTy call_int1 (by rfl) T.m_int (by decide +kernel) (pa_cons (pv 0) pa_nil)) pe_int) pe_int) (pa_cons (pv 1) pa_nil))))
      (pss_cons (ps_if (pt_cmpR op_eq (pe_op op_mod (pe_callTy call_int1 (by rfl) T.m_int (by decide +kernel) (pa_cons (pv 0) pa_nil)) pe_int) pe_int (nomark _))
        (pss_one (ps_ret (pe_tup (pa_cons pe_str (pa_cons (pv 2) pa_nil)))))
        pss_nil)
      (pss_cons (ps_if (pt_cmpR op_eq (pe_op op_mod (pe_callTy call_int1 (by rfl) T.m_int (by decide +kernel) (pa_cons (pv 0) pa_nil)) pe_int) pe_int (nomark _))
        (pss_one (ps_ret (pe_tup (pa_cons pe_str (pa_cons (pv 2) (pa_cons (pe_cal C_named (hr.mono (by decide)) (by rfl) (pa_cons (pe_op op_mod (pe_op op_fdiv (pe_callTy call_int1 (by rfl) T.m_int (by decide +kernel) (pa_cons (pv 0) pa_nil)) pe_int) pe_int) (pa_cons (pv 1) pa_nil))) pa_nil))))))
        pss_nil)
      (C8.pss_cut (ps_if (PW.pt (pw_and (pt_cmpR op_eq (pe_op op_mod (pe_callTy call_int1 (by rfl) T.m_int (by decide +kernel) (pa_cons (pv 0) pa_nil)) pe_int) pe_int (nomark _)) (pw_and1 (pt_cmpR op_eq (pe_op op_mod (pe_op op_fdiv (pe_callTy call_int1 (by rfl) T.m_int (by decide +kernel) (pa_cons (pv 0) pa_nil)) pe_int) pe_int) pe_int (nomark _)))))
        (pss_one (ps_ret (pe_tup (pa_cons pe_str (pa_cons (pv 2) pa_nil)))))
        pss_nil)
      (pss_cons (ps_set (i := 3) sc_good_step.nd rfl (Or.inl rfl) (pe_op op_add pe_int (pe_op op_mod (pe_op op_fdiv (pe_callTy call_int1 (by rfl) T.m_int (by decide +kernel) (pa_cons (pv 0) pa_nil)) pe_int) pe_int)))
      (pss_cons (ps_set (i := 4) sc_good_step.nd rfl (Or.inl rfl) (pe_tup pa_nil))
      (pss_cons (ps_for PassesOwn.never rfl (pi_range1 (by rfl) T.m_range (pa_cons (pe_op op_mod (pe_op op_fdiv (pe_callTy call_int1 (by rfl) T.m_int (by decide +kernel) (pa_cons (pv 0) pa_nil)) pe_int) pe_int) pa_nil)) (pg_name (i := 5) sc_good_step.nd rfl (Or.inl rfl))
        (pss_one (ps_set (i := 4) sc_good_step.nd rfl (Or.inl rfl) (pe_op op_catA (pv 4) (pe_tup (pa_cons (pe_cal C_named (hr.mono (by decide)) (by rfl) (pa_cons (pe_op op_add (pe_op op_mod (pe_op op_fdiv (pe_callTy call_int1 (by rfl) T.m_int (by decide +kernel) (pa_cons (pv 0) pa_nil)) pe_int) pe_int) (pe_op op_mul (pv 5) (pv 3))) (pa_cons (pv 1) pa_nil))) pa_nil))))))
      (pss_one (ps_ret (pe_tup (pa_cons pe_str (pa_cons (pv 2) (pa_cons (pv 4) pa_nil))))))))))))), ?_⟩
    refine ⟨_, rfl, .inl ⟨_, rfl, _, _, rfl, rfl, ⟨by decide, by decide⟩, _, _, rfl, rfl, (by show (0 : Int) < 12; decide), _, rfl, _, _, rfl, by omega, by omega, s0, s1, fun z H1 s1' hz => ?_⟩⟩
    refine ⟨_, rfl, .inl ⟨_, rfl, _, _, rfl, rfl, (by show (0 : Int) < 4; decide), rfl, _, rfl, iteB (fun h1 => ?_) (fun h1 => ?_)⟩⟩
    · exact ⟨_, rfl, by show 2 ≤ sizeLine; decide, fun a na => q a [.s wBegin, .s z] _ (s1'.trans (same_upd na)) ⟨_, upd_same, .cons rfl (.cons rfl .nil)⟩ ⟨.inl rfl, hz⟩⟩
    refine ⟨_, rfl, .inl ⟨_, rfl, _, _, rfl, rfl, (by show (0 : Int) < 4; decide), rfl, _, rfl, iteB (fun h2 => ?_) (fun h2 => ?_)⟩⟩
    · exact ⟨_, rfl, _, rfl, .inl ⟨_, rfl, _, _, rfl, rfl, ⟨by decide, by decide⟩, _, _, rfl, rfl, (by show (0 : Int) < 12; decide), _, rfl, _, _, rfl, by omega, by omega, s0, s1, fun x H2 s2 hx => ⟨by show 3 ≤ sizeLine; decide, fun a na => q a [.s wRead, .s z, .s x] _ ((s1'.trans s2).trans (same_upd na)) ⟨_, upd_same, .cons rfl (.cons rfl (.cons rfl .nil))⟩ ⟨rfl, hz, hx⟩⟩⟩⟩
    refine ⟨fun σ' H' => σ' = [some (.int d), some (.int st), some (.str z), none, none, none] ∧ H1 = H', ?_, ?_⟩
    · refine ⟨_, rfl, .inl ⟨_, rfl, _, _, rfl, rfl, (by show (0 : Int) < 4; decide), rfl, _, rfl, iteB (fun h3 => ?_) (fun h3 => ⟨rfl, rfl⟩)⟩⟩
      refine ⟨_, rfl, .inl ⟨_, rfl, _, _, rfl, rfl, ⟨by decide, by decide⟩, _, _, rfl, rfl, (by show (0 : Int) < 8; decide), rfl, _, rfl, iteB (fun h4 => ?_) (fun h4 => ⟨rfl, rfl⟩)⟩⟩
      exact ⟨_, rfl, by show 2 ≤ sizeLine; decide, fun a na => q a [.s wQuit, .s z] _ (s1'.trans (same_upd na)) ⟨_, upd_same, .cons rfl (.cons rfl .nil)⟩ ⟨.inr rfl, hz⟩⟩
    rintro _ _ ⟨rfl, rfl⟩
    have hr0 : 1 + d / 64 % 2 = 1 ∨ 1 + d / 64 % 2 = 2 := by omega
    refine ⟨_, rfl, .inl ⟨_, rfl, _, _, rfl, rfl, ⟨by decide, by decide⟩, _, _, rfl, rfl, (by show (0 : Int) < 2; decide), _, _, rfl, rfl, ?_⟩⟩
    refine ⟨Nat.zero_le _, fun e ne => ?_⟩
    have se := same_upd (o := .tup []) ne
    refine ⟨_, rfl, .inl ⟨_, rfl, _, _, rfl, rfl, ⟨by decide, by decide⟩, _, _, rfl, rfl, (by show (0 : Int) < 7; decide), _, rfl, by omega, by omega, ?_⟩⟩
    refine for_range (lo := 0) (n := (d / 512 % 7).toNat) (fun i σ H' => ∃ (a : Addr) (zs : List Str) (x5 : Option V), σ = [some (.int d), some (.int st), some (.str z), some (.int (1 + d / 64 % 2)), some (.ref a), x5] ∧ Same H H' ∧ H' a = some (.tup (zs.map V.str)) ∧ zs.length = i ∧ ∀ z ∈ zs, Lin 20 z)
      ⟨e, [], none, rfl, s1'.trans se, upd_same, rfl, fun z hz => nomatch hz⟩ ?_ ?_
    · rintro i σ H2 hi ⟨a, zs, x5, rfl, s2, ha, hl, hzs⟩
      rw [Int.zero_add]
      have hm : 0 ≤ (i : Int) * (1 + d / 64 % 2) ∧ (i : Int) * (1 + d / 64 % 2) ≤ 12 := by
        rcases hr0 with h | h <;> rw [h] <;> omega
      refine ⟨_, rfl, _, rfl, .inl ⟨_, rfl, _, _, rfl, rfl, ⟨by decide, by decide⟩, _, _, rfl, rfl, (by show (0 : Int) < 3; decide), _, rfl, _, rfl, _, _, rfl, rfl, .inl ⟨by omega, by omega⟩, _, _, rfl, rfl, _, rfl, _, _, rfl, by omega, by omega, s0, s1, fun x H3 s3 hx => ?_⟩⟩
      refine ⟨by show 1 ≤ sizeLine; decide, fun t nt => ?_⟩
      have st' := same_upd (o := .tup [V.str x]) nt
      have ha2 := st' _ _ (s3 _ _ ha)
      refine ⟨a, t, zs.map V.str, [V.str x], rfl, rfl, .inl (.inl ha2), .inl (.inl upd_same), ?_, fun h0 => ?_, fun _ h => by simp at h, fun _ _ p np => ?_⟩
      · rw [List.length_map]
        exact sz9 (by show zs.length + 1 ≤ 100000; omega)
      · have h0' : zs = [] := List.map_eq_nil_iff.mp h0
        subst h0'
        exact ⟨t, [x], _, rfl, (s2.trans s3).trans st', upd_same, by rw [← hl]; rfl, fun y hy => by rw [List.mem_singleton.mp hy]; exact hx⟩
      · refine ⟨p, zs ++ [x], _, rfl, ((s2.trans s3).trans st').trans (same_upd np), ?_, by rw [List.length_append, hl]; rfl, fun y hy => ?_⟩
        · rw [upd_same, List.map_append]
          rfl
        · rcases List.mem_append.mp hy with hy | hy
          · exact hzs y hy
          · rw [List.mem_singleton.mp hy]
            exact hx
    · rintro σ H2 ⟨a, zs, x5, rfl, s2, ha, hl, hzs⟩
      have hl6 : zs.length ≤ 6 := by omega
      exact ⟨_, rfl, _, rfl, by show 3 ≤ sizeLine; decide, fun b nb => q b [.s wClose, .s z, .t zs] _ (s2.trans (same_upd nb)) ⟨_, upd_same, .cons rfl (.cons rfl (.cons ⟨a, rfl, same_upd nb _ _ ha⟩ .nil))⟩ ⟨rfl, hz, hl6, hzs⟩⟩
end
end Kx

namespace Kx
open PySem PySem.Spec PyProof.Rows L2 NdefX Kr Ke Ks
def ok2 : Part → Prop
  | .s z => Sht z 200
  | .t zs => zs.length ≤ 20 ∧ ∀ z ∈ zs, Sht z 200
def spText : Sp := fun vs H Q _ => ∃ (a : Addr) (ps : List Part), vs = [.ref a] ∧ StAt H a ps ∧ (∀ p ∈ ps, ok2 p) ∧ Form ps ∧ ∀ H', Same H H' → Q (.str (textP ps)) H'
abbrev s_text_of : Stmt := topS 24
abbrev N_text_of : List Str := ["_law_step", "_law_text", "_law_thing"]
theorem sc_text_of : FnScope N_text_of ["_law_step"] (defScope s_text_of) := ⟨rfl, rfl, rfl, by decide +kernel, rfl, by decide +kernel, by decide +kernel⟩
abbrev s_parsed : Stmt := topS 26
abbrev N_parsed : List Str := ["_law_line", "_law_words", "_law_step"]
theorem sc_parsed : FnScope N_parsed ["_law_line"] (defScope s_parsed) := ⟨rfl, rfl, rfl, by decide +kernel, rfl, by decide +kernel, by decide +kernel⟩
abbrev s_parts : Stmt := topS 16
abbrev N_parts : List Str := ["line", "words"]
theorem sc_parts : FnScope N_parts ["line"] (defScope s_parts) := ⟨rfl, rfl, rfl, by decide +kernel, rfl, by decide +kernel, by decide +kernel⟩
/-- the program's step of a line's words, and the law's -/
def partsP : List Str → List Part
  | w :: p :: r => if w = wClose then [.s wClose, .s p, .t r] else (w :: p :: r).map .s
  | ws => ws.map .s
def partsL : List Str → List Part
  | w :: r => if w = wClose then [.s wClose] ++ (r.take 1).map .s ++ [.t (r.drop 1)] else (w :: r).map .s
  | [] => []
theorem parts_two {w p : Str} {r : List Str} : partsL (w :: p :: r) = partsP (w :: p :: r) := rfl
theorem parts_one (w : Str) : stepB (partsL [w]) = false ∧ stepB (partsP [w]) = false := by
  refine ⟨?_, rfl⟩
  show stepB (if w = wClose then _ else _) = false
  by_cases h : w = wClose
  · rw [if_pos h]
    rfl
  · rw [if_neg h]
    rfl
theorem parts_same : ∀ ws : List Str, stepB (partsL ws) = stepB (partsP ws) ∧ (stepB (partsP ws) = true → partsL ws = partsP ws)
  | [] => ⟨rfl, fun h => by cases h⟩
  | [w] => ⟨(parts_one w).1.trans (parts_one w).2.symm, fun h => by rw [(parts_one w).2] at h; cases h⟩
  | w :: p :: r => ⟨by rw [parts_two], fun _ => parts_two⟩
section
variable {P : Program} {w : World} {K : PySem.W.Frag} {mg : Str → Option Value} {base : Heap}
theorem ok_text_of {f : Addr} {fd : FuncData} (F : Fun K "_law_text_of" "_law_text_of" s_text_of f fd) : FnOk P w K mg base CX0 1 f fd ["_law_step"] spText := by
  refine F.ok sc_text_of (fun vs H Q E h => ?_) (fun cdv A outer s H vs Q E hr h => ?_)
  · obtain ⟨a, ps, rfl, _⟩ := h
    rfl
  · obtain ⟨a, ps, rfl, ⟨xs, ha, hp⟩, ho, hB, q⟩ := h
    refine ⟨_, (pss_cons (ps_set (i := 1) sc_text_of.nd rfl (Or.inl rfl) (pe_op op_add_str (pe_op op_add_str (pe_ix ix_tup (pv 0) pe_int (fun _ _ => rfl)) pe_str) (pe_ix ix_tup (pv 0) pe_int (fun _ _ => rfl))))
      (C8.pss_cut (ps_if (pt_cmpR op_eq (pe_ix ix_tup (pv 0) pe_int (fun _ _ => rfl)) pe_str (nomark _))
        (pss_one (ps_set (i := 1) sc_text_of.nd rfl (Or.inl rfl) (pe_op op_add_str (pe_op op_add_str (pv 1) pe_str) (pe_ix ix_tup (pv 0) pe_int (fun _ _ => rfl)))))
        pss_nil)
      (C8.pss_cut (ps_if (pt_cmpR op_eq (pe_ix ix_tup (pv 0) pe_int (fun _ _ => rfl)) pe_str (nomark _))
        (pss_one (ps_for PassesOwn.never rfl (pi_tup (pe_ix ix_tup (pv 0) pe_int (fun _ _ => rfl))) (pg_name (i := 2) sc_text_of.nd rfl (Or.inl rfl))
          (pss_one (ps_set (i := 1) sc_text_of.nd rfl (Or.inl rfl) (pe_op op_add_str (pe_op op_add_str (pv 1) pe_str) (pv 2))))))
        pss_nil)
      (pss_one (ps_ret (pv 1)))))), ?_⟩
    obtain ⟨n1, n2, n3, n4, n5⟩ := wlen
    have hT : SqT K H a xs := .inl (.inl ha)
    cases hB with
    | b p =>
      have e := pr2 hp
      subst e
      have op := (ho (.s p) (by simp)).1
      refine ⟨_, rfl, a, _, 0, _, rfl, rfl, hT, atI_nat (j := 0) rfl, wBegin, wSp, rfl, rfl, sz9 (by omega), _, rfl, a, _, 1, _, rfl, rfl, hT, atI_nat (j := 1) rfl, _, p, rfl, rfl, sz9 (by rw [apl]; omega), ?_⟩
      refine ⟨fun σ' H' => σ' = [some (.ref a), some (.str (wBegin ++ wSp ++ p)), none] ∧ H = H', ?_, ?_⟩
      · refine ⟨_, rfl, a, _, 0, _, rfl, rfl, hT, atI_nat (j := 0) rfl, rfl, _, rfl, ?_⟩
        rw [show decide (V.str wBegin = V.str (Str.ofString "read")) = false from dBR]
        exact iteF ⟨rfl, rfl⟩
      rintro _ _ ⟨rfl, rfl⟩
      refine ⟨fun σ' H' => σ' = [some (.ref a), some (.str (wBegin ++ wSp ++ p)), none] ∧ H = H', ?_, ?_⟩
      · refine ⟨_, rfl, a, _, 0, _, rfl, rfl, hT, atI_nat (j := 0) rfl, rfl, _, rfl, ?_⟩
        rw [show decide (V.str wBegin = V.str (Str.ofString "close")) = false from dBC]
        exact iteF ⟨rfl, rfl⟩
      rintro _ _ ⟨rfl, rfl⟩
      exact ⟨_, rfl, q H (Same.refl H)⟩
    | q p =>
      have e := pr2 hp
      subst e
      have op := (ho (.s p) (by simp)).1
      refine ⟨_, rfl, a, _, 0, _, rfl, rfl, hT, atI_nat (j := 0) rfl, wQuit, wSp, rfl, rfl, sz9 (by omega), _, rfl, a, _, 1, _, rfl, rfl, hT, atI_nat (j := 1) rfl, _, p, rfl, rfl, sz9 (by rw [apl]; omega), ?_⟩
      refine ⟨fun σ' H' => σ' = [some (.ref a), some (.str (wQuit ++ wSp ++ p)), none] ∧ H = H', ?_, ?_⟩
      · refine ⟨_, rfl, a, _, 0, _, rfl, rfl, hT, atI_nat (j := 0) rfl, rfl, _, rfl, ?_⟩
        rw [show decide (V.str wQuit = V.str (Str.ofString "read")) = false from dQR]
        exact iteF ⟨rfl, rfl⟩
      rintro _ _ ⟨rfl, rfl⟩
      refine ⟨fun σ' H' => σ' = [some (.ref a), some (.str (wQuit ++ wSp ++ p)), none] ∧ H = H', ?_, ?_⟩
      · refine ⟨_, rfl, a, _, 0, _, rfl, rfl, hT, atI_nat (j := 0) rfl, rfl, _, rfl, ?_⟩
        rw [show decide (V.str wQuit = V.str (Str.ofString "close")) = false from dQC]
        exact iteF ⟨rfl, rfl⟩
      rintro _ _ ⟨rfl, rfl⟩
      exact ⟨_, rfl, q H (Same.refl H)⟩
    | r p x =>
      obtain ⟨y, e, hy⟩ := pr3 hp
      subst e
      cases (show y = V.str x from hy)
      have op := (ho (.s p) (by simp)).1
      have ox := (ho (.s x) (by simp)).1
      refine ⟨_, rfl, a, _, 0, _, rfl, rfl, hT, atI_nat (j := 0) rfl, wRead, wSp, rfl, rfl, sz9 (by omega), _, rfl, a, _, 1, _, rfl, rfl, hT, atI_nat (j := 1) rfl, _, p, rfl, rfl, sz9 (by rw [apl]; omega), ?_⟩
      refine ⟨fun σ' H' => σ' = [some (.ref a), some (.str (wRead ++ wSp ++ p ++ wSp ++ x)), none] ∧ H = H', ?_, ?_⟩
      · refine ⟨_, rfl, a, _, 0, _, rfl, rfl, hT, atI_nat (j := 0) rfl, rfl, _, rfl, ?_⟩
        refine iteT ?_
        exact ⟨_, rfl, _, wSp, rfl, rfl, sz9 (by rw [apl, apl]; omega), _, rfl, a, _, 2, _, rfl, rfl, hT, atI_nat (j := 2) rfl, _, x, rfl, rfl, sz9 (by rw [apl, apl, apl]; omega), rfl, rfl⟩
      rintro _ _ ⟨rfl, rfl⟩
      refine ⟨fun σ' H' => σ' = [some (.ref a), some (.str (wRead ++ wSp ++ p ++ wSp ++ x)), none] ∧ H = H', ?_, ?_⟩
      · refine ⟨_, rfl, a, _, 0, _, rfl, rfl, hT, atI_nat (j := 0) rfl, rfl, _, rfl, ?_⟩
        rw [show decide (V.str wRead = V.str (Str.ofString "close")) = false from dRC]
        exact iteF ⟨rfl, rfl⟩
      rintro _ _ ⟨rfl, rfl⟩
      exact ⟨_, rfl, q H (Same.refl H)⟩
    | c p zs =>
      obtain ⟨y, e, b, rfl, hb⟩ := pr3 hp
      subst e
      have op := (ho (.s p) (by simp)).1
      have oz : ok2 (.t zs) := ho (.t zs) (by simp)
      have hl20 := oz.1
      refine ⟨_, rfl, a, _, 0, _, rfl, rfl, hT, atI_nat (j := 0) rfl, wClose, wSp, rfl, rfl, sz9 (by omega), _, rfl, a, _, 1, _, rfl, rfl, hT, atI_nat (j := 1) rfl, _, p, rfl, rfl, sz9 (by rw [apl]; omega), ?_⟩
      refine ⟨fun σ' H' => σ' = [some (.ref a), some (.str (wClose ++ wSp ++ p)), none] ∧ H = H', ?_, ?_⟩
      · refine ⟨_, rfl, a, _, 0, _, rfl, rfl, hT, atI_nat (j := 0) rfl, rfl, _, rfl, ?_⟩
        rw [show decide (V.str wClose = V.str (Str.ofString "read")) = false from dCR]
        exact iteF ⟨rfl, rfl⟩
      rintro _ _ ⟨rfl, rfl⟩
      refine ⟨fun σ' H' => ∃ x2 : Option V, σ' = [some (.ref a), some (.str (joinB (wClose ++ wSp ++ p) zs)), x2] ∧ H = H', ?_, ?_⟩
      · refine ⟨_, rfl, a, _, 0, _, rfl, rfl, hT, atI_nat (j := 0) rfl, rfl, _, rfl, iteT ?_⟩
        refine ⟨_, rfl, a, _, 2, _, rfl, rfl, hT, atI_nat (j := 2) rfl, b, rfl, ⟨_, .inl (.inl hb)⟩, ?_⟩
        refine for_tup (xs := zs.map V.str) (fun i σ H' => ∃ (x2 : Option V) (t : Str), σ = [some (.ref a), some (.str t), x2] ∧ H = H' ∧ t = joinB (wClose ++ wSp ++ p) (zs.take i) ∧ t.length ≤ 300 + 300 * i)
          ⟨none, _, rfl, rfl, rfl, by rw [apl, apl]; omega⟩ (fun i σ H' _ ⟨_, _, _, e, _⟩ => e ▸ .inl (.inl hb)) ?_ ?_
        · rintro i y σ H' hy ⟨x2, t, rfl, rfl, et, ht⟩
          obtain ⟨z, hz, rfl⟩ : ∃ z, zs[i]? = some z ∧ y = .str z := by
            rw [List.getElem?_map] at hy
            cases e : zs[i]? with
            | none => rw [e] at hy; cases hy
            | some n => rw [e] at hy; exact ⟨n, rfl, (Option.some.inj hy).symm⟩
          have hi : i < zs.length := (List.getElem?_eq_some_iff.mp hz).1
          have oz1 := (oz.2 z (List.mem_of_getElem? hz)).1
          refine ⟨_, rfl, _, wSp, rfl, rfl, sz9 (by omega), _, rfl, _, z, rfl, rfl, sz9 (by rw [apl]; omega), ?_⟩
          refine ⟨_, _, rfl, rfl, ?_, by rw [apl, apl]; omega⟩
          rw [List.take_add_one, hz, et]
          unfold joinB
          rw [List.foldl_append]
          rfl
        · rintro σ H' ⟨x2, t, rfl, rfl, et, ht⟩
          rw [List.length_map, List.take_length] at et
          subst et
          exact ⟨x2, rfl, rfl⟩
      rintro _ _ ⟨x2, rfl, rfl⟩
      exact ⟨_, rfl, q H (Same.refl H)⟩
def spParts : Sp := fun vs H Q _ => ∃ z : Str, vs = [.str z] ∧ z.length ≤ 1000 ∧ ∀ a H', Same H H' → StAt H' a (partsP (wordsL z)) → Q (.ref a) H'
theorem cut_two (w p : Str) (r : List Str) : cutV ((w :: p :: r).map V.str) (some 2) none = r.map V.str := by
  unfold cutV
  have e1 : HT.sIx ((w :: p :: r).map V.str).length 0 (some ((2 : Nat) : Int)) = 2 := by
    rw [HT.sIx_nat, List.length_map, List.length_cons, List.length_cons]
    omega
  have e2 : HT.sIx ((w :: p :: r).map V.str).length ((w :: p :: r).map V.str).length none = ((w :: p :: r).map V.str).length := rfl
  rw [show (some (2 : Int)) = some ((2 : Nat) : Int) from rfl, e1, e2]
  show (r.map V.str).take ((w :: p :: r).map V.str).length.pred.pred = _
  rw [List.take_of_length_le]
  simp
theorem prs {H : Hp} : ∀ ws : List Str, Paired (PtAt H) (ws.map V.str) (ws.map Part.s)
  | [] => .nil
  | w :: ws => .cons rfl (prs ws)
theorem ok_parts {f : Addr} {fd : FuncData} (F : Fun K "_parts" "_parts" s_parts f fd) (T : TxS mg) : FnOk P w K mg base CX0 1 f fd ["line"] spParts := by
  refine F.ok sc_parts (fun vs H Q E h => ?_) (fun cdv A outer s H vs Q E hr h => ?_)
  · obtain ⟨z, rfl, _⟩ := h
    rfl
  · obtain ⟨z, rfl, hz, q⟩ := h
    refine ⟨_, (pss_cons (ps_set (i := 1) sc_parts.nd rfl (Or.inl rfl) (pe_split (pv 0) pe_str))
      (C8.pss_cut (ps_if (PW.pt (pw_and (pt_cmpR op_eq (pe_ix ix_list (pv 1) pe_int (fun _ _ => rfl)) pe_str (nomark _)) (pw_and1 (pt_cmpR op_gt (pe_callB call_len_seq (by rfl) T.m_len (by decide +kernel) (pa_cons (pv 1) pa_nil)) pe_int (nomark _)))))
        (pss_one (ps_ret (pe_tup (pa_cons pe_str (pa_cons (pe_ix ix_list (pv 1) pe_int (fun _ _ => rfl)) (pa_cons (pe_callTy call_tuple_of (by rfl) T.m_tuple (by decide +kernel) (pa_cons (pe_slice sl_list (pv 1) (po_some pe_int) po_none) pa_nil)) pa_nil))))))
        pss_nil)
      (pss_one (ps_ret (pe_callTy call_tuple_of (by rfl) T.m_tuple (by decide +kernel) (pa_cons (pv 1) pa_nil)))))), ?_⟩
    refine ⟨_, rfl, ⟨_, rfl⟩, z, wSp, rfl, rfl, by decide +kernel, sz9 (by omega), fun l nl => ?_⟩
    have hw : ∃ w r, wordsL z = w :: r := by
      have := split_pos z wSp
      cases h : wordsL z with
      | nil =>
        have h' : Txt.split z wSp = [] := h
        rw [h'] at this
        simp at this
      | cons w r => exact ⟨w, r, rfl⟩
    obtain ⟨w0, r, ew⟩ := hw
    have ew' : Txt.split z wSp = w0 :: r := ew
    have hlw : (w0 :: r).length ≤ z.length + 2 := ew' ▸ split_le z wSp
    rw [ew']
    rw [ew] at q
    have el : (upd H l (.lst ((w0 :: r).map V.str))) l = some (.lst ((w0 :: r).map V.str)) := upd_same
    have s1 := same_upd (o := .lst ((w0 :: r).map V.str)) nl
    refine ⟨fun σ' H' => σ' = [some (.str z), some (.ref l)] ∧ upd H l (.lst ((w0 :: r).map V.str)) = H' ∧ partsP (w0 :: r) = (w0 :: r).map Part.s, ?_, ?_⟩
    · refine ⟨_, rfl, l, _, 0, .str w0, rfl, rfl, .inl (.inl el), atI_nat (j := 0) rfl, rfl, _, rfl, iteB (fun h1 => ?_) (fun h1 => ?_)⟩
      · have h1' : w0 = wClose := by
          have := of_decide_eq_true h1
          injection this
        subst h1'
        refine ⟨_, rfl, l, _, rfl, .inl (.inl (.inl el)), _, _, rfl, rfl, _, rfl, iteB (fun h2 => ?_) (fun h2 => ?_)⟩
        · have h2' := of_decide_eq_true h2
          rw [List.length_map] at h2'
          match r, h2' with
          | p :: r, _ =>
            refine ⟨_, rfl, l, _, 1, .str p, rfl, rfl, .inl (.inl el), atI_nat (j := 1) rfl, _, rfl, 2, rfl, l, _, rfl, .inl (.inl el), fun c nc => ?_⟩
            refine ⟨c, _, rfl, .inl ⟨.inl (.inl upd_same), fun t nt => ⟨by show 3 ≤ sizeLine; decide, fun a na => ?_⟩⟩⟩
            have eP : partsP (wClose :: p :: r) = [.s wClose, .s p, .t r] := by simp [partsP]
            rw [eP] at q
            have sc := same_upd (o := .lst (cutV ((wClose :: p :: r).map V.str) (some 2) none)) nc
            have st := same_upd (o := .tup (cutV ((wClose :: p :: r).map V.str) (some 2) none)) nt
            have sa := same_upd (o := .tup [V.str wClose, V.str p, V.ref t]) na
            refine q a _ (((s1.trans sc).trans st).trans sa) ⟨_, upd_same, .cons rfl (.cons rfl (.cons ⟨t, rfl, ?_⟩ .nil))⟩
            refine sa _ _ ?_
            rw [upd_same, cut_two]
        · have h2' := of_decide_eq_false h2
          rw [List.length_map] at h2'
          refine ⟨rfl, rfl, ?_⟩
          match r, h2' with
          | [], _ => rfl
          | p :: r, h => exact absurd (by show (1 : Int) < (((wClose :: p :: r).length : Nat) : Int); simp only [List.length_cons]; omega) h
      · refine ⟨rfl, rfl, ?_⟩
        have h1' : ¬ w0 = wClose := fun e => of_decide_eq_false h1 (congrArg V.str e)
        cases r with
        | nil => rfl
        | cons p r => exact if_neg h1'
    rintro _ _ ⟨rfl, rfl, eP⟩
    rw [eP] at q
    refine ⟨_, rfl, l, _, rfl, .inl ⟨.inl (.inl el), fun t nt => q t _ (s1.trans (same_upd nt)) ⟨_, upd_same, prs _⟩⟩⟩
end
end Kx

namespace Kx
open PySem PySem.Spec PyProof.Rows L2 NdefX Kr Ke Ks
theorem spl_mem : ∀ (l acc : List Nat), ∀ p ∈ TL.spl [32] 0 acc l, ∀ c ∈ p, c ∈ acc ∨ c ∈ l
  | [], acc, p, hp, c, hc => by
    rw [TL.spl_nil] at hp
    rw [List.mem_singleton.mp hp] at hc
    exact .inl hc
  | x :: l, acc, p, hp, c, hc => by
    by_cases h : x = 32
    · rw [h, spl_sp] at hp
      rcases List.mem_cons.mp hp with e | hp
      · rw [e] at hc
        exact .inl hc
      · rcases spl_mem l [] p hp c hc with h | h
        · cases h
        · exact .inr (List.mem_cons_of_mem _ h)
    · rw [spl_no h] at hp
      rcases spl_mem l (acc ++ [x]) p hp c hc with h | h
      · rcases List.mem_append.mp h with h | h
        · exact .inl h
        · rw [List.mem_singleton.mp h]
          exact .inr List.mem_cons_self
      · exact .inr (List.mem_cons_of_mem _ h)
theorem words_sht {z : Str} {n : Nat} (h : Sht z n) : ∀ p ∈ wordsL z, Sht p n := fun p hp => by
  refine ⟨Nat.le_trans (part_short hp) h.1, fun c hc => ?_⟩
  have hm : TL.tl p ∈ TL.spl [32] 0 [] (TL.tl z) := by
    rw [← words_spl]
    exact List.mem_map_of_mem hp
  rcases spl_mem _ _ _ hm c hc with h' | h'
  · cases h'
  · exact h.2 c h'
theorem words_len (z : Str) : (wordsL z).length ≤ z.length + 2 := split_le z wSp
theorem partsP_ok {ws : List Str} (h : ∀ p ∈ ws, Sht p 1000) (hl : ws.length ≤ 902) : (∀ p ∈ partsP ws, okP p) ∧ (partsP ws).length ≤ 1100 := by
  have hm : ∀ ws : List Str, (∀ p ∈ ws, Sht p 1000) → ∀ p ∈ ws.map Part.s, okP p := fun ws h p hp => by
    obtain ⟨w, hw, rfl⟩ := List.mem_map.mp hp
    exact h w hw
  match ws, h, hl with
  | [], _, _ =>
    have e0 : partsP [] = [] := rfl
    refine ⟨fun p hp => ?_, ?_⟩
    · rw [e0] at hp
      cases hp
    · rw [e0]
      exact Nat.zero_le _
  | [w], h, _ => exact ⟨hm [w] h, by show 1 ≤ 1100; decide⟩
  | w :: p :: r, h, hl =>
    by_cases e : w = wClose
    · have e2 : partsP (w :: p :: r) = [.s wClose, .s p, .t r] := by simp [partsP, e]
      rw [e2]
      refine ⟨fun q hq => ?_, by show 3 ≤ 1100; decide⟩
      simp only [List.mem_cons, List.not_mem_nil, or_false] at hq
      rcases hq with rfl | rfl | rfl
      · exact e ▸ h w List.mem_cons_self
      · exact h p (List.mem_cons_of_mem _ List.mem_cons_self)
      · simp only [List.length_cons] at hl
        exact ⟨by omega, fun y hy => h y (List.mem_cons_of_mem _ (List.mem_cons_of_mem _ hy))⟩
    · have e2 : partsP (w :: p :: r) = (w :: p :: r).map Part.s := by simp [partsP, e]
      rw [e2]
      exact ⟨hm _ h, by rw [List.length_map]; omega⟩
theorem partsL_ok {ws : List Str} (h : ∀ p ∈ ws, Sht p 1000) (hl : ws.length ≤ 902) : (∀ p ∈ partsL ws, okP p) ∧ (partsL ws).length ≤ 1100 := by
  match ws, h, hl with
  | [], h, hl => exact partsP_ok (ws := []) h hl
  | [w], h, hl =>
    by_cases e : w = wClose
    · have e2 : partsL [w] = [.s wClose, .t []] := if_pos e
      rw [e2]
      refine ⟨fun q hq => ?_, by show 2 ≤ 1100; decide⟩
      simp only [List.mem_cons, List.not_mem_nil, or_false] at hq
      rcases hq with rfl | rfl
      · exact e ▸ h w List.mem_cons_self
      · exact ⟨Nat.zero_le _, fun y hy => nomatch hy⟩
    · have e2 : partsL [w] = partsP [w] := if_neg e
      rw [e2]
      exact partsP_ok h hl
  | w :: p :: r, h, hl => exact partsP_ok (ws := w :: p :: r) h hl
theorem cut12 (w : Str) (r : List Str) : cutV ((w :: r).map V.str) (some 1) (some 2) = (r.take 1).map V.str := by
  unfold cutV
  have e1 : HT.sIx ((w :: r).map V.str).length 0 (some ((1 : Nat) : Int)) = 1 := by
    rw [HT.sIx_nat, List.length_map, List.length_cons]
    omega
  rw [show (some (1 : Int)) = some ((1 : Nat) : Int) from rfl, show (some (2 : Int)) = some ((2 : Nat) : Int) from rfl, e1, HT.sIx_nat, List.length_map, List.length_cons]
  show (r.map V.str).take (min 2 (r.length + 1) - 1) = _
  cases r with
  | nil => rfl
  | cons p r =>
    have e : min 2 ((p :: r).length + 1) - 1 = 1 := by
      rw [List.length_cons]
      omega
    rw [e]
    rfl
theorem cut2N (w : Str) (r : List Str) : cutV ((w :: r).map V.str) (some 2) none = (r.drop 1).map V.str := by
  cases r with
  | nil => rfl
  | cons p r => exact cut_two w p r
theorem parts_cl (r : List Str) : partsL (wClose :: r) = [.s wClose] ++ (r.take 1).map .s ++ [.t (r.drop 1)] := by
  simp [partsL]
theorem prs_app {H : Hp} {t : Addr} {zs : List Str} : ∀ ws : List Str, H t = some (.tup (zs.map V.str)) → Paired (PtAt H) (ws.map V.str ++ [V.ref t]) (ws.map Part.s ++ [Part.t zs])
  | [], h => .cons ⟨t, rfl, h⟩ .nil
  | w :: ws, h => .cons rfl (prs_app ws h)
def spParsed : Sp := fun vs H Q _ => ∃ z : Str, vs = [.str z] ∧ Sht z 900 ∧ (stepB (partsP (wordsL z)) = true → ∀ a H', Same H H' → StAt H' a (partsP (wordsL z)) → Q (.ref a) H') ∧ (stepB (partsP (wordsL z)) = false → ∀ H', Same H H' → Q .non H')
section
variable {P : Program} {w : World} {K : PySem.W.Frag} {mg : Str → Option Value} {base : Heap}
theorem ok_parsed {f : Addr} {fd : FuncData} (F : Fun K "_law_parsed" "_law_parsed" s_parsed f fd) (T : TxS mg) (C_words_of : Cal P w K mg base "_law_words_of" 1 spWords) (C_is_step : Cal P w K mg base "_law_is_step" 2 (spStp stepB)) : FnOk P w K mg base CX0 3 f fd ["_law_line"] spParsed := by
  refine F.ok sc_parsed (fun vs H Q E h => ?_) (fun cdv A outer s H vs Q E hr h => ?_)
  · obtain ⟨z, rfl, _⟩ := h
    rfl
  · obtain ⟨z, rfl, hz, q1, q0⟩ := h
    refine ⟨_, (pss_cons (ps_set (i := 1) sc_parsed.nd rfl (Or.inl rfl) (pe_cal C_words_of (hr.mono (by decide)) (by rfl) (pa_cons (pv 0) pa_nil)))
      (pss_cons (ps_set (i := 2) sc_parsed.nd rfl (Or.inl rfl) (pe_callTy call_tuple_of (by rfl) T.m_tuple (by decide +kernel) (pa_cons (pv 1) pa_nil)))
      (C8.pss_cut (ps_if (pt_cmpR op_eq (pe_ix ix_list (pv 1) pe_int (fun _ _ => rfl)) pe_str (nomark _))
        (pss_one (ps_set (i := 2) sc_parsed.nd rfl (Or.inl rfl) (pe_op op_catA (pe_op op_catA (pe_tup (pa_cons pe_str pa_nil)) (pe_callTy call_tuple_of (by rfl) T.m_tuple (by decide +kernel) (pa_cons (pe_slice sl_list (pv 1) (po_some pe_int) (po_some pe_int)) pa_nil))) (pe_tup (pa_cons (pe_callTy call_tuple_of (by rfl) T.m_tuple (by decide +kernel) (pa_cons (pe_slice sl_list (pv 1) (po_some pe_int) po_none) pa_nil)) pa_nil)))))
        pss_nil)
      (pss_cons (ps_if (pt_val (pe_cal C_is_step (hr.mono (by decide)) (by rfl) (pa_cons (pv 2) pa_nil)))
        (pss_one (ps_ret (pv 2)))
        pss_nil)
      (pss_one (ps_ret pe_non)))))), ?_⟩
    have hz1 := hz.1
    refine ⟨_, rfl, z, rfl, by omega, fun l H1 s1 nl el => ?_⟩
    have hsh := words_sht hz
    have hwl := words_len z
    have hpos : 1 ≤ (wordsL z).length := split_pos z wSp
    refine ⟨_, rfl, l, _, rfl, .inl ⟨.inl (.inl el), fun t nt => ?_⟩⟩
    have st := same_upd (o := .tup ((wordsL z).map V.str)) nt
    obtain ⟨same1, same2⟩ := parts_same (wordsL z)
    generalize hws : wordsL z = ws at *
    match ws, hpos with
    | w0 :: r, _ =>
      refine ⟨fun σ' H' => ∃ a : Addr, σ' = [some (.str z), some (.ref l), some (.ref a)] ∧ Same H H' ∧ StAt H' a (partsL (w0 :: r)), ?_, ?_⟩
      · have el2 := st _ _ el
        refine ⟨_, rfl, l, _, 0, .str w0, rfl, rfl, .inl (.inl el2), atI_nat (j := 0) rfl, rfl, _, rfl, iteB (fun h1 => ?_) (fun h1 => ?_)⟩
        · have h1' : w0 = wClose := by
            have := of_decide_eq_true h1
            injection this
          subst h1'
          have e1 : H1 = H1 := rfl
          refine ⟨by show 1 ≤ sizeLine; decide, fun a0 n0 => ?_⟩
          have sa0 := same_upd (o := .tup [V.str wClose]) n0
          refine ⟨_, rfl, 1, rfl, 2, rfl, l, _, rfl, .inl (.inl (sa0 _ _ el2)), fun c0 nc0 => ⟨c0, _, rfl, .inl ⟨.inl (.inl upd_same), fun t0 nt0 => ?_⟩⟩⟩
          have sc0 := same_upd (o := .lst (cutV ((wClose :: r).map V.str) (some 1) (some 2))) nc0
          have st0 := same_upd (o := .tup (cutV ((wClose :: r).map V.str) (some 1) (some 2))) nt0
          have S3 := (((s1.trans st).trans sa0).trans sc0).trans st0
          have EA := st0 _ _ (sc0 _ _ (upd_same (H := upd H1 t (.tup ((wClose :: r).map V.str))) (o := .tup [V.str wClose])))
          have EL := st0 _ _ (sc0 _ _ (sa0 _ _ el2))
          rw [cut12] at *
          refine ⟨a0, t0, [V.str wClose], (r.take 1).map V.str, rfl, rfl, .inl (.inl EA), .inl (.inl (upd_same)), sz9 (by simp only [List.length_map, List.length_take, List.length_cons, List.length_nil]; omega), (fun h => by cases h), fun _ hy => ?_, fun _ hy p np => ?_⟩
          · have hy' : r.take 1 = [] := List.map_eq_nil_iff.mp hy
            refine ⟨_, rfl, 2, rfl, l, _, rfl, .inl (.inl EL), fun c1 nc1 => ⟨c1, _, rfl, .inl ⟨.inl (.inl upd_same), fun t1 nt1 => ⟨by show 1 ≤ sizeLine; decide, fun a1 na1 => ?_⟩⟩⟩⟩
            have sc1 := same_upd (o := .lst (cutV ((wClose :: r).map V.str) (some 2) none)) nc1
            have st1 := same_upd (o := .tup (cutV ((wClose :: r).map V.str) (some 2) none)) nt1
            have sa1 := same_upd (o := .tup [V.ref t1]) na1
            refine ⟨a0, a1, [V.str wClose], [V.ref t1], rfl, rfl, .inl (.inl (sa1 _ _ (st1 _ _ (sc1 _ _ EA)))), .inl (.inl upd_same), ?_, (fun h => by cases h), (fun _ h => by cases h), fun _ _ p2 np2 => ?_⟩
            · skip
              exact sz9 (by simp only [List.length_append, List.length_map, List.length_take, List.length_cons, List.length_nil]; omega)
            have sp2 := same_upd (o := .tup ([V.str wClose] ++ [V.ref t1])) np2
            refine ⟨p2, rfl, ((((S3).trans sc1).trans st1).trans sa1).trans sp2, _, upd_same, ?_⟩
            rw [parts_cl]
            skip
            have hk : ∀ (G : Hp) (t : Addr), G t = some (.tup ((r.drop 1).map V.str)) → Paired (PtAt G) ([V.str wClose] ++ [V.ref t]) ([Part.s wClose] ++ (r.take 1).map Part.s ++ [Part.t (r.drop 1)]) := by
              rw [hy']
              exact fun G t h => prs_app [wClose] h
            refine hk _ t1 ?_
            refine sp2 _ _ (sa1 _ _ ?_)
            rw [upd_same, cut2N]
          · have sp := same_upd (o := .tup ([V.str wClose] ++ (r.take 1).map V.str)) np
            refine ⟨_, rfl, 2, rfl, l, _, rfl, .inl (.inl (sp _ _ EL)), fun c1 nc1 => ⟨c1, _, rfl, .inl ⟨.inl (.inl upd_same), fun t1 nt1 => ⟨by show 1 ≤ sizeLine; decide, fun a1 na1 => ?_⟩⟩⟩⟩
            have sc1 := same_upd (o := .lst (cutV ((wClose :: r).map V.str) (some 2) none)) nc1
            have st1 := same_upd (o := .tup (cutV ((wClose :: r).map V.str) (some 2) none)) nt1
            have sa1 := same_upd (o := .tup [V.ref t1]) na1
            refine ⟨p, a1, ([V.str wClose] ++ (r.take 1).map V.str), [V.ref t1], rfl, rfl, .inl (.inl (sa1 _ _ (st1 _ _ (sc1 _ _ upd_same)))), .inl (.inl upd_same), ?_, (fun h => by cases h), (fun _ h => by cases h), fun _ _ p2 np2 => ?_⟩
            · skip
              exact sz9 (by simp only [List.length_append, List.length_map, List.length_take, List.length_cons, List.length_nil]; omega)
            have sp2 := same_upd (o := .tup (([V.str wClose] ++ (r.take 1).map V.str) ++ [V.ref t1])) np2
            refine ⟨p2, rfl, ((((S3.trans sp).trans sc1).trans st1).trans sa1).trans sp2, _, upd_same, ?_⟩
            rw [parts_cl]
            skip
            refine prs_app (t := t1) (wClose :: r.take 1) ?_
            refine sp2 _ _ (sa1 _ _ ?_)
            rw [upd_same, cut2N]
        · have h1' : ¬ w0 = wClose := fun e => of_decide_eq_false h1 (congrArg V.str e)
          refine ⟨t, rfl, s1.trans st, ?_⟩
          have e : partsL (w0 :: r) = (w0 :: r).map Part.s := if_neg h1'
          rw [e]
          exact ⟨_, upd_same, prs _⟩
      · rintro σ' H2 ⟨a, rfl, s2, hst⟩
        have hk := partsL_ok (ws := w0 :: r) (fun p hp => (hsh p hp).le (by decide)) (by omega)
        refine ⟨_, rfl, a, _, rfl, hst, hk.1, hk.2, fun H3 s3 => ⟨_, rfl, ?_⟩⟩
        rw [same1]
        cases hb : stepB (partsP (w0 :: r)) with
        | true =>
          rw [same2 hb] at hst
          exact ⟨_, rfl, q1 hb a H3 (s2.trans s3) (hst.same s3)⟩
        | false => exact q0 hb H3 (s2.trans s3)
end
end Kx

/-! Errors whose context is None: made by an own __init__, through a list comprehension. -/
namespace L2N
open PySem PySem.Spec PyProof.Rows L2
section
variable {X : Cx} {pins : List (Addr × Obj)} {σ : St} {H : Hp} {s : Shared}
/-- the block of a comprehension that a call of its element may leave by an exception, told by E -/
abbrev blkN (X : Cx) (s : Shared) (H : Hp) (scope : Scope) (cenv : Env) (fp : List Addr) (E : XK) : Cx :=
  (X.blk s H scope cenv fp).wish fun u s' => ∃ (pins : List (Addr × Obj)) (σ : St) (H1 : Hp) (s1 : Shared), Inv (X.blk s H scope cenv fp) pins σ H1 s1 ∧ L2N.CX X.prog X.w X.stack H1 s1 E u s'
theorem blkN_passes {scope : Scope} {cenv : Env} {fp : List Addr} {E : XK} : Passes (L2N.CX X.prog X.w) (blkN X s H scope cenv fp E) E := fun pins σ H1 s1 _ _ I c => ⟨pins, σ, H1, s1, I.unwish, c⟩
/-- the exception leaves the block: noted, the block's names let go, passed on -/
theorem block_leftN {scope : Scope} {ce cv : Env} {fp : List Addr} {E : XK} {C : Addr} {s3 s' : Shared} {H3 : Hp} {u : Value} {Q : Value → Shared → Prop} {R : Result → Shared → Prop}
    (hst : X.stack = X.env :: X.outer) (hf : X.env.frame = some X.env.locals) (tk : L2N.Takes X fun cls d _ H => E cls d H) (I3 : Inv X pins σ H3 s3) (hfp : ∀ b ∈ fp, FpOk X pins H3 b) (hC : s3.heap.objs.size = C) (cL : ce.locals = C) (cF : ce.frame = X.env.frame) (vF : cv.frame = X.env.frame)
    (x : ∃ (pins : List (Addr × Obj)) (σ : St) (H1 : Hp) (s1 : Shared), Inv (X.blk s3 H3 scope ce fp) pins σ H1 s1 ∧ L2N.CX X.prog X.w X.stack H1 s1 E u s')
    (hR : ∀ s4 : Shared, (∃ m, s4.heap.Ns C m ∧ ∀ h', Heap.SameBut C s4.heap h' → wpAny (model X.prog X.w) X.A (passOn "comprehension.variables-let-go" u cv) Q X.xe { s4 with heap := h' }) → R (.error u) s4) :
    notedBy (model X.prog X.w) X.A ce (fun e s' => R (.error e) s') u s' := by
  obtain ⟨pins', σ', H1, s1, Ib, a, B, H2, cls, d, rfl, fl, hokB, ub, na, os, ag, hE⟩ := x
  have hfr : X.A.frames = some (X.env :: X.outer) := by rw [I3.ok.frames, hst]
  -- the block's own place
  obtain ⟨m, o, es, ep, hoC, hrC⟩ := Ib.loc.imp fun m h => h.1
  have hoC : s1.heap.get? ce.locals = some o := hoC
  rw [cL] at hoC
  have nC1 : H1 C = none := by have := Ib.free; rw [show (X.blk s3 H3 scope ce fp).env.locals = C from cL] at this; exact this
  have frS : ∀ b ∈ frs X.stack, b ≠ C := fun b hb e => by
    obtain ⟨_, o', e', _⟩ := I3.stack.mem hb
    have := Heap.lt_size e'
    rw [e, hC] at this
    exact absurd this (Nat.lt_irrefl _)
  have hBC : B.get? C = some o := ub.keep C o hoC nC1 fun hm => frS C hm rfl
  have nC2 : H2 C = none := ub.free C o hoC nC1
  have haC : a ≠ C := fun e => by have := fl.2.1; rw [e, hBC] at this; cases this
  have sB : ∀ {b o}, B.get? b = some o → b ≠ C → (PySem.W.hideAll B [C]).get? b = some o := fun e n => PySem.W.hideAll_get _ e fun hm => n (List.mem_singleton.mp hm)
  have sB' : ∀ {b o}, (PySem.W.hideAll B [C]).get? b = some o → B.get? b = some o ∧ b ≠ C := fun {b o} e => ⟨PySem.W.of_hideAll _ e, fun z => by rw [PySem.W.hideAll_none [C] (by rw [z]; exact List.mem_cons_self)] at e; cases e⟩
  have sBn : ∀ {b}, B.get? b = none → (PySem.W.hideAll B [C]).get? b = none := fun {b} e => by
    cases q : (PySem.W.hideAll B [C]).get? b with
    | none => rfl
    | some o => have := (sB' q).1; rw [e] at this; cases this
  generalize hB' : PySem.W.hideAll B [C] = B' at sB sB' sBn
  have fB : ∀ L ∈ frs X.stack, B.get? L = none := fun L hL => (fl.2.2.1.mem hL).1
  -- the state without the exception
  obtain ⟨G, g1, g2⟩ := restrict s'.heap fun b => (B'.get? b).isSome || decide (b ∈ frs X.stack)
  have gB : ∀ b o, B'.get? b = some o → G.get? b = some o := fun b o e => by
    rw [g1 b (by simp [e])]
    exact fl.1 b o (sB' e).1
  have gF : ∀ b, b ∈ frs X.stack → G.get? b = s'.heap.get? b := fun b hb => g1 b (by simp [hb])
  have og : ∀ b o, G.get? b = some o → s'.heap.get? b = some o ∧ ((B'.get? b).isSome = true ∨ b ∈ frs X.stack) := fun b o e => by
    cases q : ((B'.get? b).isSome || decide (b ∈ frs X.stack)) with
    | false => rw [g2 b q] at e; cases e
    | true =>
      rw [g1 b q] at e
      exact ⟨e, by simpa [Bool.or_eq_true] using q⟩
  have ogC : ∀ b o, G.get? b = some o → b ≠ C := fun b o e => by
    rcases (og b o e).2 with h | h
    · obtain ⟨o', q⟩ := Option.isSome_iff_exists.mp h
      exact (sB' q).2
    · exact frS b h
  have hlt : ∀ b o, s3.heap.get? b = some o → b ≠ C := fun b o e z => by
    have := Heap.lt_size e
    rw [z, hC] at this
    exact absurd this (Nat.lt_irrefl _)
  have bs := Ib.base
  have hokG : HOk X.prog X.w H2 G := fun b v q => (hokB b v q).stay (fun c w hc r => gB c w (sB r fun z => by
    subst z
    rcases hc with hc | hc
    · rw [hc, q] at nC2; cases nC2
    · rw [hc] at nC2; cases nC2)) (fun _ r => r) fun _ _ r => r
  have J : Inv X pins σ H2 { s1 with heap := G, gens := s'.gens, drawn := s'.drawn, toks := s'.toks } := by
    refine I3.call' (ch := fp) Ib.os ⟨fun b o e n hb hx => ?_, fun b o e n hb hx => ?_, fun b o e n hx => ?_, fun b o e hx => ?_, fun b xs e => ub.tups b xs (bs.tups b xs e), fun b o xs e => ub.frzs b o xs (bs.frzs b o xs e), fun b ps e => ?_⟩ hokG ag fun b hb => ?_
    · exact gB b o (sB (ub.keep b o (bs.keep b o e n hb hx) (bs.free b o e n hx) hb) (hlt b o e))
    · obtain ⟨sl, e1⟩ := bs.slot b o e n hb hx
      obtain ⟨sl2, e2⟩ := ub.slot b _ e1 hb
      exact ⟨sl2, by rw [gF b hb]; exact e2⟩
    · obtain ⟨o1, e1⟩ := bs.there b o e hx
      exact ub.free b o1 e1 (bs.free b o e n hx)
    · obtain ⟨o1, e1⟩ := bs.there b o e hx
      by_cases hb : b ∈ frs X.stack
      · obtain ⟨sl, q⟩ := ub.slot b o1 e1 hb
        exact ⟨_, by rw [gF b hb]; exact q⟩
      · obtain ⟨o2, q⟩ := ub.there b o1 e1 hb
        exact ⟨o2, gB b o2 (sB q (hlt b o e))⟩
    · obtain ⟨m1, e1⟩ := bs.tbls b ps e
      obtain ⟨m2, e2⟩ := ub.tbls b _ e1
      exact ⟨m1 ++ m2, by rw [e2, Array.append_assoc]⟩
    · exact ⟨(hfp b hb).2.2.2.1, (hfp b hb).2.1, (hfp b hb).2.2.2.2.1, (hfp b hb).2.2.2.2.2⟩
  -- noted, let go, passed on
  show wpAny (model X.prog X.w) X.A (noteFrame (.ref a) ce) (fun _ s'' => R (.error (.ref a)) s'') _ s'
  have eN : noteFrame (.ref a) ce = noteFrame (.ref a) X.env := by
    unfold PySem.noteFrame PySem.frameOf
    rw [cF]
  rw [eN]
  have fl' : HandSPX.FlyingZ B (X.env :: X.outer) a (Zn cls d) s'.heap := by rw [← hst]; exact fl
  refine PXN.looks_onZ Zn.steady hfr hf fl' fun h1 hh up1 => hR _ ⟨m, ⟨o, es, ep, hh.1 C o hBC, hrC⟩, fun h2 sb => ?_⟩
  rw [← hst] at hh
  obtain ⟨k1, k2, k3, oe, vs, T, oT, ts, he, hz, hd, hv, hnT, hTe, hT, hdT, hts⟩ := hh
  have hTC : T ≠ C := fun e => by rw [e, hBC] at hnT; cases hnT
  have he2 : h2.get? a = some oe := (sb.2 a haC).trans he
  have hT2 : h2.get? T = some oT := (sb.2 T hTC).trans hT
  have hh2 : HandSPX.HeldZ B' X.stack a (Zn cls d) X.env.locals h2 := ⟨fun b o e => (sb.2 b (sB' e).2).trans (k1 b o (sB' e).1), sBn k2, frames_move k3 (fun L hL => sb.2 L (frS L hL)) fun L hL => sBn (fB L hL),
    oe, vs, T, oT, ts, he2, hz, hd, hv, sBn hnT, hTe, hT2, hdT, hts⟩
  unfold PySem.passOn
  refine wpAny_bind (wpAny_field he2 hd hv ?_)
  rw [if_neg (show ¬ ((Value.ref T == Value.none) = true) from by simp)]
  have fin : wpAny (model X.prog X.w) X.A (setFlight (.ref a) cv.frame) (fun _ s4 => wpAny (model X.prog X.w) X.A (throw (.ref a) : Sem Value) Q X.xe s4) X.xe { s' with heap := h2 } := by
    rw [vF, hf]
    refine HandSPX.setFlight_onZ hh2 fun h4 hh4 up4 => wpAny_throw (tk _ _ ?_)
    refine ⟨a, B', _, pins, σ, H2, cls, d, rfl, J, fun b o e hb => ?_, fun b o e hnf => ?_, .inr (.inr hh4), na, os, ag, hE⟩
    · obtain ⟨e', h⟩ := og b o e
      rcases h with h | h
      · obtain ⟨o', q⟩ := Option.isSome_iff_exists.mp h
        have z := fl.1 b o' (sB' q).1
        rw [e'] at z; cases z
        exact q
      · exact absurd h hb
    · obtain ⟨e', _⟩ := og b o e
      obtain ⟨sl, e1⟩ := up1 b o e' hnf
      have e2 := (sb.2 b (ogC b o e)).trans e1
      obtain ⟨sl2, e3⟩ := up4 b _ e2 hnf
      exact ⟨sl2, e3⟩
  first
    | exact wpAny_bind (wpAny_pure (wpAny_bind fin))
    | exact wpAny_bind fin
theorem pe_lcXN {elt tg iter : Expr} {scope : Scope} {own : List (Str × Nat)} {pos : Pos} {wi : TI} {g : TG} {te : TE} {E : XK} (hst : X.stack = X.env :: X.outer) (hf : X.env.frame = some X.env.locals) (tk : L2N.Takes X fun cls d _ H => E cls d H)
    (hc : X.calm = true) (hN : X.N.Nodup) (hnf : ∀ x ∈ scope.names, x.2 ≠ .free) (hi : PI X tg iter wi) (ok : BlkOk X.N X.env.scope scope own)
    (hg : ∀ (s : Shared) (H : Hp) (C : Addr) (cl : List (Str × Addr)) (fp : List Addr), PG (X.blk s H scope (compEnvC scope cl C X.env) fp) tg g)
    (he : ∀ (s : Shared) (H : Hp) (C : Addr) (cl : List (Str × Addr)) (fp : List Addr), PE (blkN X s H scope (compEnvC scope cl C X.env) fp E) elt te) (hs : ∀ x, foldedSetIterable iter X.env x = pure x := by intro _; rfl) :
    PE X (.ListComp elt [⟨tg, iter, [], 0⟩] scope pos) (tLc wi g tYes te (own.map (·.2))) := by
  refine ⟨fun pins s σ H Q I h => ?_⟩
  refine wpAny_ListComp hnf ok.kind (fun y hy e => by rw [ok.uniq y hy, e]) ?_ hs
  refine thn (hi.run pins s σ H _ I h) fun xv sa ha => thn ha fun itv sb hb => ?_
  obtain ⟨it, fp, tn, J, Hb, e, Ib, T, tb, fb, q⟩ := hb
  subst e
  refine wpAny_newObj_type (newEnv_comp ?_) (by show 0 ≤ sizeLine; decide)
  generalize hD : sb.heap.objs.size = D
  have nD : Hb D = none := Ib.hok.fresh (Nat.le_of_eq hD)
  obtain ⟨W, ⟨m0, w0⟩, turn⟩ := q D nD
  have pushed : ∀ b o, sb.heap.get? b = some o → (sb.heap.push { cls := .type "list", data := .seq ([] : List Value).toArray }).get? b = some o := fun b o e => Heap.get?_push_of_some _ e
  have atD : (sb.heap.push { cls := .type "list", data := .seq ([] : List Value).toArray }).get? D = some { cls := .type "list", data := .seq ([] : List Value).toArray } := by
    rw [← hD]
    exact Heap.get?_push_size _ rfl
  have hsz : (sb.heap.push { cls := .type "list", data := .seq ([] : List Value).toArray }).objs.size = sb.heap.objs.size + 1 := Heap.size_push ..
  generalize hc3 : ({ sb with heap := sb.heap.push { cls := .type "list", data := .seq ([] : List Value).toArray } } : Shared) = s3
  have heap3 : s3.heap = sb.heap.push { cls := .type "list", data := .seq ([] : List Value).toArray } := by rw [← hc3]
  have I3 : Inv X pins σ (upd Hb D (.lst [])) s3 := by
    rw [← hc3]
    exact Ib.laid (t' := sb.toks) pushed (Nat.le_of_eq hD) ⟨Nat.zero_le _, [], 0, .nil, atD⟩
  have small : ∀ b ∈ fp, b < sb.heap.objs.size := fun b hb => by
    obtain ⟨o, e, _⟩ := T.obj _ _ tb b hb
    exact Heap.lt_size e
  have f3 : ∀ b ∈ fp, FpOk X pins (upd Hb D (.lst [])) b ∧ b < s3.heap.objs.size := fun b hb => by
    have hlt := small b hb
    refine ⟨⟨?_, (fb b hb).2⟩, by rw [heap3, hsz]; exact Nat.lt_succ_of_lt hlt⟩
    rw [upd_ne (by rw [← hD]; exact Nat.ne_of_lt hlt)]
    exact (fb b hb).1
  have t3 : tn 0 s3.heap := T.keep _ _ _ tb fun b _ o e => by rw [heap3]; exact pushed b o e
  have nfp : ∀ b ∈ fp, (upd Hb D (.lst [])) b = none := fun b hb => (f3 b hb).1.1
  have I4 := block_start I3 ok hN f3
  rw [cloFrom_bare hnf] at I4
  have pg := hg s3 (upd Hb D (.lst [])) s3.heap.objs.size (cellsFrom (s3.heap.objs.size + 1) scope.names []) fp
  have pe := he s3 (upd Hb D (.lst [])) s3.heap.objs.size (cellsFrom (s3.heap.objs.size + 1) scope.names []) fp
  have eE : ({ newEnv scope s3.heap.objs.size X.env.globals (cellsFrom (s3.heap.objs.size + 1) scope.names []) X.env.qual none .none (some X.env) X.env.builtins with scope := scope } : Env) = compEnvC scope (cellsFrom (s3.heap.objs.size + 1) scope.names []) s3.heap.objs.size X.env := by
    unfold compEnvC
    rw [relabel_bare hnf]
    rfl
  generalize hcl : cellsFrom (s3.heap.objs.size + 1) scope.names [] = cl at I4 pg pe eE
  show codeAny _ _ (.compStart (.ListComp elt [⟨tg, iter, [], 0⟩] scope pos) 0 (.ref it) (.ref D) ({ newEnv scope s3.heap.objs.size X.env.globals cl X.env.qual none .none (some X.env) X.env.builtins with scope := scope } : Env))
    (fun r s' => ∃ m, s'.heap.Ns s3.heap.objs.size m ∧ ∀ h', Heap.SameBut s3.heap.objs.size s'.heap h' → match r with
      | .ok _ => EP X pins σ Q (.ref D) { s' with heap := h' }
      | .error x => wpAny (model X.prog X.w) X.A (passOn "comprehension.variables-let-go" x ({ newEnv scope s3.heap.objs.size X.env.globals cl X.env.qual none .none (some X.env) X.env.builtins with scope := scope } : Env)) (EP X pins σ Q) X.xe { s' with heap := h' }) { s3 with heap := pushCells (s3.heap.push { cls := .type "dict", data := .dict #[] }) scope.names }
  rw [eE]
  have cL : (compEnvC scope cl s3.heap.objs.size X.env).locals = s3.heap.objs.size := rfl
  have cF : (compEnvC scope cl s3.heap.objs.size X.env).frame = X.env.frame := rfl
  generalize compEnvC scope cl s3.heap.objs.size X.env = ce at I4 pg pe cL cF ⊢
  have ff : ∀ b ∈ fp, FpOk X pins (upd Hb D (.lst [])) b := fun b hb => (f3 b hb).1
  generalize hH3 : upd Hb D (.lst []) = H3 at I3 I4 pg pe w0 nfp ff
  generalize hs4 : ({ s3 with heap := pushCells (s3.heap.push { cls := .type "dict", data := .dict #[] }) scope.names } : Shared) = s4 at I4 ⊢
  have t4 : tn 0 s4.heap := T.keep _ _ _ t3 fun b _ o e => by rw [← hs4]; exact pushCells_keeps _ _ _ _ (Heap.get?_push_of_some _ e)
  have still : ∀ {σ' : St} {H' : Hp} {s' : Shared}, Inv (X.blk s3 H3 scope ce fp) [] σ' H' s' → (∀ b ∈ fp, H' b = none) → ∀ b ∈ fp, FpOk (X.blk s3 H3 scope ce fp) [] H' b := fun {σ' H' s'} I' hn b hb =>
    ⟨hn b hb, (I'.ok.exf b hb).1, I'.ok.exfs b hb, .inl hb, fun x c e => (I'.ok.exf b hb).2 x c e, fun p hp => absurd (show p ∈ ([] : List (Addr × Obj)) ++ [] from hp) (by simp)⟩
  generalize hR : (fun (r : Result) (s' : Shared) => ∃ m, s'.heap.Ns s3.heap.objs.size m ∧ ∀ h', Heap.SameBut s3.heap.objs.size s'.heap h' → match r with
      | .ok _ => EP X pins σ Q (.ref D) { s' with heap := h' }
      | .error x => wpAny (model X.prog X.w) X.A (passOn "comprehension.variables-let-go" x ce) (EP X pins σ Q) X.xe { s' with heap := h' }) = R
  have rOk : ∀ s' m H', Inv X pins σ H' s' → Q (.ref D) H' → s'.heap.Ns s3.heap.objs.size m → FpOk X pins H' s3.heap.objs.size → R (.ok .next) s' := fun s' m H' I' qq hn f => by
    rw [← hR]
    refine ⟨m, hn, fun h'' sb => ?_⟩
    obtain ⟨f0, f1, f2, f3, f4, f5⟩ := f
    exact ⟨.ref D, H', I'.turned (t' := s'.toks) (fun b o hb e => (sb.2 b hb).trans e) f0 f1 f3 f4 f5, rfl, qq⟩
  have rErr : ∀ u s', (∃ (pins : List (Addr × Obj)) (σ : St) (H1 : Hp) (s1 : Shared), Inv (X.blk s3 H3 scope ce fp) pins σ H1 s1 ∧ L2N.CX X.prog X.w X.stack H1 s1 E u s') → notedBy (model X.prog X.w) X.A ce (fun e s' => R (.error e) s') u s' := fun u s' x => by
    refine block_leftN (cv := ce) (Q := EP X pins σ Q) hst hf tk I3 ff rfl cL cF cF x fun s5 h5 => ?_
    rw [← hR]
    exact h5
  have loop : codeAny (model X.prog X.w) X.A (.compLoop (.ListComp elt [⟨tg, iter, [], 0⟩] scope pos) 0 (.ref it) (.ref D) ce) R s4 := by
    refine compLoop_any (fun n s' => ∃ i H', Inv (X.blk s3 H3 scope ce fp) [] (wipe σ (own.map (·.2))) H' s' ∧ tn i s'.heap ∧ (∀ b ∈ fp, H' b = none) ∧ W i n H') ?_ m0 ⟨0, H3, I4, t4, nfp, w0⟩
    rintro n s5 ⟨i, H5, I5, t5, n5, w5⟩
    rcases turn i n H5 w5 with ⟨stop, qq⟩ | ⟨go, Nx, hNx, step⟩
    · refine thnF (T.done (X.blk s3 H3 scope ce fp) rfl rfl rfl hc i [] s5 _ H5 (fun _ _ => False) I5 (still I5 n5) t5 stop) fun r s6 ⟨hr, I6⟩ => ?_
      subst hr
      have I7 : Inv X pins σ H5 s6 := I3.call' (ch := fp) I6.os I6.base I6.hok I6.bare fun b hb => ⟨(ff b hb).2.2.2.1, (ff b hb).2.1, (ff b hb).2.2.2.2.1, (ff b hb).2.2.2.2.2⟩
      have nC : H5 s3.heap.objs.size = none := by
        have z : H5 ce.locals = none := I6.free
        rw [cL] at z
        exact z
      obtain ⟨m, hn, _⟩ := I6.loc
      have hn : s6.heap.Ns ce.locals m := hn
      rw [cL] at hn
      exact rOk s6 m H5 I7 qq hn (I3.fpOk (Nat.le_refl _) nC)
    · refine thnF (T.item (X.blk s3 H3 scope ce fp) rfl rfl rfl hc i [] s5 _ H5 (fun _ _ => False) I5 (still I5 n5) t5 go) fun r s6 ⟨u, hr, h6⟩ => ?_
      subst hr
      refine thnF h6 fun _ s7 ⟨x, H7, I7, r7, y7, t7, n7⟩ => ?_
      have J7 := I7.pinned (still I7 n7) (T.obj _ _ t7)
      refine thnF (pg.run _ s7 _ H7 x u _ J7 r7 (step x H7 y7)) fun _ s8 ⟨σ8, H8, I8, hw8, q8⟩ => ?_
      refine thnF ((pts_nil (X := X.blk s3 H3 scope ce fp)).run _ s8 σ8 H8 _ I8 q8) fun b s9 ⟨H9, I9, q9⟩ => ?_
      have ends : ∀ {s' : Shared} {H' : Hp}, Inv (X.blk s3 H3 scope ce fp) ([] ++ pinsAt fp s7.heap) σ8 H' s' → Nx H' → ∃ m, m < n ∧ ∃ i H', Inv (X.blk s3 H3 scope ce fp) [] (wipe σ (own.map (·.2))) H' s' ∧ tn i s'.heap ∧ (∀ b ∈ fp, H' b = none) ∧ W i m H' := fun {s' H'} I' nx => by
        obtain ⟨m', hm, w'⟩ := hNx H' nx
        have held : ∀ b ∈ fp, ∀ o, s7.heap.get? b = some o → s'.heap.get? b = some o ∧ H' b = none := fun b hb o e =>
          let z := I'.pin (b, o) (List.mem_append_right _ (List.mem_append_right _ (mem_pinsAt hb e)))
          ⟨z.1, z.2.1⟩
        have hl : (wipe σ (own.map (·.2))).length = σ8.length := by rw [← hw8, wipe_length]
        refine ⟨m', hm, i + 1, H', (I'.unpinned (pins := [])).weak hl (fun j v e => ?_), T.keep _ _ _ t7 fun b hb o e => (held b hb o e).1, fun b hb => ?_, w'⟩
        · rw [← hw8] at e
          exact (wipe_some e).1
        · obtain ⟨o, e, _⟩ := T.obj _ _ t7 b hb
          exact (held b hb o e).2
      cases b with
      | false =>
        simp only [Bool.false_eq_true, if_false] at q9 ⊢
        exact ends I9 q9
      | true =>
        simp only [if_true] at q9 ⊢
        refine wpAny_mono (pe.run _ s9 σ8 H9 _ (I9.wish _) q9) (fun z s10 ⟨yv, H10, I10, r10, acc, hD10, hz10, nx⟩ => ?_) fun u s10 x => rErr u s10 x
        exact app_ok (X := X.blk s3 H3 scope ce fp) I10.unwish hD10 hz10 r10 fun s11 I11 => ends I11 nx
  exact codeAny_compStart_list loop (T.self X.A 0 _ _ _ t4 loop)
end
theorem pmk_oexN {e : Expr} {es : List Expr} {ta : TA} {p pos : Pos} {X : Cx} {CX : CXT} {x : Str} {C fI : Addr} {k : Nat} {fd : FuncData} {ps : List Str} {sp : Sp} {ds : List Value} {dvs : List V} (T : OexC X.K C) (iC : PySem.W.findIn X.K (.ref C) "__init__" = some (some (.ref fI))) (tI : PySem.W.typeIn X.K (.ref fI) = some (.type "function"))
    (F1 : FnOk X.prog X.w X.K X.mg X.base CX k fI fd ps sp) (hr : Room (k + 1) X.A) (hb : Binds X.K fd ps ds) (hd : Vals dvs ds) (hx : Passes CX X (fun _ _ _ => False)) (hg : Gl X x) (hm : X.mg x = some (.ref C)) (ha : PA X (e :: es) ta)
    (hdb : (x == ("__debug__" : Str)) = false := by decide) (he : starEach (e :: es) X.env = (false, eval e X.env) :: starEach es X.env := by rfl) (hpl : (backTo pos (starEach es X.env)).any (·.1) = false := by rfl) :
    PMk X (.Call (.Name x p) (e :: es) [] pos) (tMkO C sp dvs ta) := by
  intro pins s σ H Q I h
  obtain ⟨nm, q, N, bs, bm, sn, sub, ab, col, dd, k0, k1, k2, k3, k5, hC, hbm⟩ := T.cls
  refine wpAny_Call_Name_kw (ld_glob I hg hm ?_ hdb)
  refine PySem.W.callWith_K (h₀ := X.base) I.ok.mod.kin T.kC (thn (ha.run pos pins s σ H _ I h) fun us s1 ⟨vs, H1, I1, r1, hz, q1⟩ => ⟨I1.kIn, ?_⟩) he hpl
  show wpAny _ _ (call (.ref C) us) _ _ _
  obtain ⟨hp, g, dr, tk, os⟩ := s1
  have hsz : hp.objs.size ≤ hp.objs.size + 1 := Nat.le_succ _
  have hn : H1 (hp.objs.size + 1) = none := I1.hok.fresh hsz
  have hq := q1 (hp.objs.size + 1) hn
  have kk : ∀ b o, hp.get? b = some o → ((hp.push (PySem.W.kdv_tup us)).push (PySem.HandSPX.excO C hp.objs.size)).get? b = some o := fun b o e => Heap.get?_push_of_some _ (Heap.get?_push_of_some _ e)
  have hget : ((hp.push (PySem.W.kdv_tup us)).push (PySem.HandSPX.excO C hp.objs.size)).get? (hp.objs.size + 1) = some (PySem.HandSPX.excO C hp.objs.size) := by heap_get
  have I2 : Inv X pins σ (upd H1 (hp.objs.size + 1) (exo (hp.objs.size + 1) C none)) ⟨(hp.push (PySem.W.kdv_tup us)).push (PySem.HandSPX.excO C hp.objs.size), g, dr, tk, os⟩ :=
    I1.laid (t' := tk) (a := hp.objs.size + 1) (o := exo (hp.objs.size + 1) C none) (h' := (hp.push (PySem.W.kdv_tup us)).push (PySem.HandSPX.excO C hp.objs.size)) kk hsz (exo_ok hget)
  have r2 : Vals (V.ref (hp.objs.size + 1) :: (vs ++ dvs)) (Value.ref (hp.objs.size + 1) :: (us ++ ds)) := .cons rfl (r1.append hd)
  have hl : (Value.ref (hp.objs.size + 1) :: us ++ ds).length = ps.length := by
    have e := r2.length
    rw [F1.len _ _ _ _ hq] at e
    exact e.symm
  have hus : us.length ≤ sizeLine := by
    rw [← Paired.length r1, sizeLine_eq]
    omega
  refine wpAny_call (PySem.HandSPX.call_own F.excBase_ValueError (fun Y => PySem.HandSPX.refsVE_contains Y bm hbm) (I1.kIn _ _ hC) (PySem.W.looks_findIn I1.kIn iC) (fun self => PySem.W.bind_fn I1.kIn self tI) hus
    (codeAny_mono (F1.run _ X.stack _ _ ⟨Value.ref (hp.objs.size + 1) :: us, []⟩ (Value.ref (hp.objs.size + 1) :: (us ++ ds)) _ _ (fun _ _ _ => False) (hr.make C us []) (I2.env0.make C us []) (hb _ (Value.ref (hp.objs.size + 1) :: us) I2.kIn hl) r2 hq) fun r s' hq' => ?_))
  cases r with
  | error er => exact hx pins σ _ _ er s' I2 hq'
  | ok fl =>
    cases fl with
    | ret u =>
      obtain ⟨v, H2, os2, bare2, un2, hok2, rv, ev, d, fs, ea, ed, hd1, q2⟩ := hq'
      subst ev
      obtain ⟨h2, g2, d2, t2, os'⟩ := s'
      obtain ⟨t0, G, J, kG, ge, hoe, na⟩ := mk_end0 (d2 := d2) (t2 := t2) I1 hsz kk un2 hok2 os2 bare2 ea ed hd1
      refine ⟨rv, hp.objs.size + 1, _, _, ⟨G, g2, d2, t2, os'⟩, _, .ref C, some d, rfl, J, kG, ge, hoe, ⟨rfl, rfl, fun vs hv => ?_⟩, rfl, rfl, na, rfl, bare2, raises_own T.exC T.tyC, q2⟩
      cases hv
      rfl
    | next => exact False.elim hq'
    | brk => exact False.elim hq'
    | cont => exact False.elim hq'

section
variable {P : Program} {w : World} {K : PySem.W.Frag} {mg : Str → Option Value} {base : Heap}
theorem okXN {x qual : Str} {st : Stmt} {f : Addr} {fd : FuncData} {N ps : List Str} {k : Nat} {sp : Sp} (F : Fun K x qual st f fd) (S : FnScope N ps (defScope st)) (len : ∀ vs H Q E, sp vs H Q E → vs.length = ps.length)
    (hbody : ∀ (cdv : Value) (A : Around) (outer : List Env) (s : Shared) (H : Hp) (vs : List V) (Q : VK) (E : XK), Room k (A.deeper (envOfC qual (defScope st) s.heap.objs.size f cdv)) → sp vs H Q E →
      ∃ t, PSs (cxOf (L2N.CX P w) P w K mg base N qual (defScope st) f cdv A outer s H E) (defBody st) t ∧ t { nx := fun _ H' => Q .non H', rt := Q } (L2.start N vs) H) : FnOk P w K mg base (L2N.CX P w) (k + 1) f fd ps sp := by
  obtain ⟨oc, od, kV, doc, pm, an, cdv, ct, osl, rfl, lk, hcd⟩ := F.ex
  exact fn_of lk hcd S len fun A outer s H vs Q E hr hsp => hbody cdv A outer s H vs Q E hr hsp
end
/-- a def that may raise, as its callers see it -/
structure CalN (P : Program) (w : World) (K : PySem.W.Frag) (mg : Str → Option Value) (base : Heap) (x : Str) (k : Nat) (ps : List Str) (sp : Sp) : Prop where
  ex : ∃ (f : Addr) (fd : FuncData), FnOk P w K mg base (L2N.CX P w) k f fd ps sp ∧ Binds K fd ps [] ∧ mg x = some (.ref f) ∧ PySem.W.keepIn K (.ref f) = true
theorem pe_calSN {X : Cx} {x : Str} {k : Nat} {ps : List Str} {sp : Sp} {e : Expr} {es : List Expr} {t : TA} {p pos : Pos} {W : WX} (C : CalN X.prog X.w X.K X.mg X.base x k ps sp) (hr : Room k X.A) (tk : L2N.Takes X W) (hg : Gl X x) (ha : PA X (e :: es) t)
    (hdb : (x == ("__debug__" : Str)) = false := by decide) (he : starEach (e :: es) X.env = (false, eval e X.env) :: starEach es X.env := by rfl) (hpl : (backTo pos (starEach es X.env)).any (·.1) = false := by rfl) :
    PE X (.Call (.Name x p) (e :: es) [] pos) (tCallS sp (WE W) t) := by
  obtain ⟨f, fd, F, b, g, kp⟩ := C.ex
  exact pe_callS F hr hg g kp b (fun σ => L2N.passAt tk σ) ha hdb he hpl
/-- such a call as the element of a comprehension -/
theorem pe_calEN {X : Cx} {s : Shared} {H : Hp} {scope : Scope} {cenv : Env} {fp : List Addr} {E : XK} {x : Str} {k : Nat} {ps : List Str} {sp : Sp} {e : Expr} {es : List Expr} {t : TA} {p pos : Pos} (C : CalN X.prog X.w X.K X.mg X.base x k ps sp) (hr : Room k (blkN X s H scope cenv fp E).A) (hg : Gl (blkN X s H scope cenv fp E) x) (ha : PA (blkN X s H scope cenv fp E) (e :: es) t)
    (hdb : (x == ("__debug__" : Str)) = false := by decide) (he : starEach (e :: es) cenv = (false, eval e cenv) :: starEach es cenv := by rfl) (hpl : (backTo pos (starEach es cenv)).any (·.1) = false := by rfl) :
    PE (blkN X s H scope cenv fp E) (.Call (.Name x p) (e :: es) [] pos) (tCall sp [] E t) := by
  obtain ⟨f, fd, F, b, g, kp⟩ := C.ex
  exact pe_call (X := blkN X s H scope cenv fp E) F hr hg g kp b .nil blkN_passes ha hdb he hpl
end L2N

namespace Kx
open PySem PySem.Spec PyProof.Rows L2 NdefX Kr Ke Ks
theorem empty_app (x : Str) : (Str.empty ++ x).length = x.length := by
  show (#[] ++ x.cps).size = x.cps.size
  simp
theorem app_len (x y : Str) : (x ++ y).length = x.length + y.length := Array.size_append
theorem len1 {c : Str} (h : c.length ≤ 100) : (Str.empty ++ c).length ≤ sizeLine := by
  rw [empty_app]
  exact sz9 (by omega)
theorem len2 {c m : Str} (h : c.length ≤ 100) (h' : m.length ≤ 40000) : (Str.empty ++ c ++ m).length ≤ sizeLine := by
  rw [app_len, empty_app]
  exact sz9 (by omega)
theorem len3 {c m c2 : Str} (h : c.length ≤ 100) (h' : m.length ≤ 40000) (h2 : c2.length ≤ 100) : (Str.empty ++ c ++ m ++ c2).length ≤ sizeLine := by
  rw [app_len, app_len, empty_app]
  exact sz9 (by omega)
theorem len4 {c m c2 m2 : Str} (h : c.length ≤ 100) (h' : m.length ≤ 40000) (h2 : c2.length ≤ 100) (h3 : m2.length ≤ 40000) : (Str.empty ++ c ++ m ++ c2 ++ m2).length ≤ sizeLine := by
  rw [app_len, app_len, app_len, empty_app]
  exact sz9 (by omega)
/-- data that may be shown -/
def ShD (K : PySem.W.Frag) (H : Hp) (x : V) : Prop := ∃ d, Dp K H x d ∧ okD d = true ∧ costD d ≤ 40000 ∧ d.depth ≤ 10
theorem ShD.same {K : PySem.W.Frag} {H H' : Hp} {x : V} (h : ShD K H x) (s : Same H H') : ShD K H' x := let ⟨d, a, b⟩ := h; ⟨d, dp_same s d _ a, b⟩
theorem shd_str {K : PySem.W.Frag} {H : Hp} {z : Str} {n : Nat} (h : Sht z n) (hn : n ≤ 1000) : ShD K H (.str z) := by
  refine ⟨.str z, .str z, h.ok, ?_, by simp [PyData.depth]⟩
  have := h.1
  simp only [costD]
  omega
def c0 : List V → Hp → Prop := fun xs _ => xs = []
theorem int100 : ∀ n : Nat, n < 100 → (((toString (n : Int) : String) : Str)).length ≤ 40000 ∧ (n : Int).natAbs.log2 < 1920 := by decide +kernel
theorem err_new {C a d : Addr} {H : Hp} {fs : List (Str × V)} (ea : H a = some (exo a C none)) (nd : H d = none) (ne : d ≠ a) :
    (∀ b o, H b = some o → b ≠ a → (upd (upd H d (exd d fs)) a (exo a C (some d))) b = some o) ∧ (upd (upd H d (exd d fs)) a (exo a C (some d))) a = some (exo a C (some d)) ∧ (upd (upd H d (exd d fs)) a (exo a C (some d))) d = some (exd d fs) :=
  ⟨fun b o e h => by rw [upd_ne h, upd_ne (ne_of_none e nd)]; exact e, upd_same, (upd_ne ne).trans upd_same⟩
theorem err_more {C a d : Addr} {H H' : Hp} {fs : List (Str × V)} (hk : ∀ b o, H b = some o → b ≠ a → H' b = some o) (nd : H d = none) (ea : H' a = some (exo a C (some d))) (ne : d ≠ a) :
    (∀ b o, H b = some o → b ≠ a → (upd H' d (exd d fs)) b = some o) ∧ (upd H' d (exd d fs)) a = some (exo a C (some d)) ∧ (upd H' d (exd d fs)) d = some (exd d fs) :=
  ⟨fun b o e h => by rw [upd_ne (ne_of_none e nd)]; exact hk b o e h, (upd_ne (Ne.symm ne)).trans ea, upd_same⟩

/-- the error of a line: made with a number and the text -/
def spErrL (C : Addr) : Sp := fun vs H Q _ => ∃ (a : Addr) (n : Nat) (z : Str), vs = [.ref a, .int (n : Int), .str z] ∧ n < 100 ∧ Sht z 900 ∧ H a = some (exo a C none) ∧
  ∀ (d : Addr) (HF : Hp), H d = none → d ≠ a → HF a = some (exo a C (some d)) → HF d = some (exd d [("line", .str z), ("number", .int (n : Int))]) → (∀ b, b ≠ a → b ≠ d → HF b = H b) → Q .non HF
abbrev s_ilInit : Stmt := inClass (topS 3) 0
abbrev N_ilInit : List Str := ["self", "number", "line", "__class__"]
theorem ns_ilInit : NScope N_ilInit ["self", "number", "line"] ["__class__"] (defScope s_ilInit) := nscope_by (by decide +kernel)
section
variable {P : Program} {w : World} {K : PySem.W.Frag} {mg : Str → Option Value} {base : Heap} {CX : CXT}
theorem ok_ilInit {f C cda cc : Addr} {fd : FuncData} {qual : Str} {kV doc pm ct : Value} {an : Option Addr} (S : SupF K P C f fd cda cc "self") (T : SupC K C) (n0 : PySem.W.findIn K (.ref C) "number" = some none) (n1 : PySem.W.findIn K (.ref C) "line" = some none) (hm : mg "super" = none)
    (hfd : fd = PySem.W.fnX "__init__" qual (defArgs s_ilInit) (defBody s_ilInit) (defScope s_ilInit) [("__class__", cc)] .none kV doc pm an (.ref cda) ct) (hcd : PySem.W.codeIn K (.ref cda) qual = true) :
    FnOk P w K mg base CX 1 f fd ["self", "number", "line"] (spErrL C) := by
  refine fn_super (k := 0) (N := N_ilInit) (ps := ["self", "number", "line"]) (me := "self") S T hfd hcd ns_ilInit hm rfl (by decide) (by decide +kernel) (by decide +kernel) (fun vs H Q E h => ?_) (fun A outer s H vs Q E hr h => ?_) (fun env => ⟨_, rfl⟩) (fun env => rfl) (fun env => rfl)
  · obtain ⟨a, n, x, rfl, _⟩ := h
    rfl
  · obtain ⟨a, n, z, rfl, hn, hz, ea, q⟩ := h
    obtain ⟨d, hd, od, zd, pd⟩ := shd_str (K := K) (H := H) hz (by decide)
    refine ⟨a, _, _, rfl, ea, pe_joined (.cons pe_str (.cons (pe_fmt (pv 1)) (.cons pe_str (.cons (pe_fmtD hr (pv 2)) .nil)))), pss_cons (ps_ost (pv 0) (pv 1)) (pss_one (ps_ost (pv 0) (pv 2))), fun R hR => ?_⟩
    obtain ⟨hl, hg⟩ := int100 n hn
    refine ⟨_, rfl, len1 (by decide +kernel), _, rfl, .inr ⟨_, rfl, hg, _, rfl, len2 (by decide +kernel) hl, _, rfl, len3 (by decide +kernel) hl (by decide +kernel), ?_⟩⟩
    refine ⟨_, rfl, d, hd, od, by omega, by omega, fun m2 hm2 => ⟨_, rfl, len4 (by decide +kernel) hl (by decide +kernel) (by omega), ?_⟩⟩
    refine hR H ea ⟨_, rfl, _, rfl, a, C, rfl, T.oex, n0, .inl ⟨ea, fun dx nd ne => ?_⟩⟩
    obtain ⟨k1, k2, k3⟩ := err_new (fs := [("number", _)]) ea nd ne
    refine ⟨_, rfl, _, rfl, a, C, rfl, T.oex, n1, .inr ⟨dx, _, k2, k3, by show 1 ≤ 900; decide, ?_⟩⟩
    obtain ⟨j1, j2, j3⟩ := err_more (fs := [("line", _), ("number", _)]) k1 nd k2 ne
    refine q dx _ nd ne j2 j3 (fun b h1 h2 => ?_)
    rw [upd_ne h2, upd_ne h1, upd_ne h2]
end
theorem made_heap2 {H1 HF : Hp} {a d : Addr} {X : HO} {fs : List (Str × V)} (na : H1 a = none) (nda : d ≠ a) (hF : ∀ b, b ≠ a → b ≠ d → HF b = (upd H1 a X) b) : upd (del HF a) d (.xd fs) = upd H1 d (.xd fs) := by
  funext b
  by_cases hd : b = d
  · rw [hd, upd_same, upd_same]
  · rw [upd_ne hd, upd_ne hd]
    by_cases ha : b = a
    · rw [ha, del_same, na]
    · rw [del_ne ha, hF b ha hd, upd_ne ha]
def fsL (n : Nat) (z : Str) : List (Str × V) := [("line", .str z), ("number", .int (n : Int))]
def spNum (CL : Addr) : Sp := fun vs H Q E => ∃ (n : Nat) (z : Str), vs = [.int (n : Int), .str z] ∧ n < 100 ∧ Sht z 900 ∧ (stepB (partsP (wordsL z)) = true → ∀ a H', Same H H' → StAt H' a (partsP (wordsL z)) → Q (.ref a) H') ∧ (stepB (partsP (wordsL z)) = false → ∀ d H', Same H H' → H' d = some (.xd (fsL n z)) → E (.ref CL) (some d) H')
abbrev s_num : Stmt := topS 15
abbrev N_num : List Str := ["number", "line", "step"]
theorem sc_num : FnScope N_num ["number", "line"] (defScope s_num) := ⟨rfl, rfl, rfl, by decide +kernel, rfl, by decide +kernel, by decide +kernel⟩
section
variable {P : Program} {w : World} {K : PySem.W.Frag} {mg : Str → Option Value} {base : Heap} {CL fI : Addr} {fdI : FuncData}
theorem ok_num {f : Addr} {fd : FuncData} (F : Fun K "_numbered_step" "_numbered_step" s_num f fd) (C_parts : Cal P w K mg base "_parts" 1 spParts) (C_valid_step : Cal P w K mg base "valid_step" 4 (spStp stepB)) (gL : mg "InvalidLine" = some (.ref CL)) (oex : OexC K CL)
    (iC : PySem.W.findIn K (.ref CL) "__init__" = some (some (.ref fI))) (tI : PySem.W.typeIn K (.ref fI) = some (.type "function")) (FI : FnOk P w K mg base CX0 1 fI fdI ["self", "number", "line"] (spErrL CL)) (bI : Binds K fdI ["self", "number", "line"] []) :
    FnOk P w K mg base (L2N.CX P w) 5 f fd ["number", "line"] (spNum CL) := by
  refine L2N.okXN F sc_num (fun vs H Q E h => ?_) (fun cdv A outer s H vs Q E hr h => ?_)
  · obtain ⟨n, z, rfl, _⟩ := h
    rfl
  · obtain ⟨n, z, rfl, hn, hz, q, qe⟩ := h
    refine ⟨_, (pss_cons (ps_set (i := 2) sc_num.nd rfl (Or.inl rfl) (pe_cal C_parts (hr.mono (by decide)) (by rfl) (pa_cons (pv 1) pa_nil)))
      (pss_cons (ps_if (pt_not (pt_val (pe_cal C_valid_step (hr.mono (by decide)) (by rfl) (pa_cons (pv 2) pa_nil))))
        (pss_one (L2N.ps_raise rfl (L2N.takes_of rfl rfl rfl rfl) (L2N.pmk_oexN (sp := spErrL CL) oex iC tI FI (hr.mono (by decide)) bI .nil pass0 (by rfl) gL (pa_cons (pv 0) (pa_cons (pv 1) pa_nil)))))
        pss_nil)
      (pss_one (ps_ret (pv 2))))), ?_⟩
    have hz1 := hz.1
    have hk := partsP_ok (ws := wordsL z) (fun p hp => (words_sht hz p hp).le (by decide)) (by have := words_len z; omega)
    refine ⟨_, rfl, z, rfl, by omega, fun a H1 s1 hst => ⟨_, rfl, a, _, rfl, hst, hk.1, hk.2, fun H2 s2 => ⟨_, rfl, iteB (fun h => ?_) (fun h => ?_)⟩⟩⟩
    · have hB : stepB (partsP (wordsL z)) = false := by simpa using h
      refine ⟨_, rfl, _, rfl, by show 2 ≤ 1000; decide, fun a' na => ⟨a', n, z, rfl, hn, hz, upd_same, fun d HF nd ne e1 e2 hF => ⟨rfl, d, fsL n z, e1, e2, ?_, ?_⟩⟩⟩
      · rw [upd_ne ne] at nd
        exact nd
      · rw [made_heap2 na ne hF]
        rw [upd_ne ne] at nd
        exact qe hB d _ ((s1.trans s2).trans (same_upd nd)) upd_same
    · have hB : stepB (partsP (wordsL z)) = true := by simpa using h
      exact ⟨_, rfl, q hB a H2 (s1.trans s2) (hst.same s2)⟩
end
end Kx

namespace Kx
open PySem PySem.Spec PyProof.Rows L2 NdefX Kr Ke Ks Kn
theorem app_assoc (x y z : Str) : x ++ y ++ z = x ++ (y ++ z) := by
  show (⟨(x.cps ++ y.cps) ++ z.cps⟩ : Str) = ⟨x.cps ++ (y.cps ++ z.cps)⟩
  rw [Array.append_assoc]
theorem joinB_app (x y : Str) : ∀ zs : List Str, joinB (x ++ y) zs = x ++ joinB y zs := by
  intro zs
  induction zs generalizing y with
  | nil => rfl
  | cons z zs ih =>
    show joinB (x ++ y ++ wSp ++ z) zs = x ++ joinB (y ++ wSp ++ z) zs
    rw [app_assoc (x ++ y), app_assoc x y, ih, ← app_assoc y]
theorem join_is (p : Str) : ∀ zs : List Str, Str.join wSp (p :: zs) = joinB p zs
  | [] => rfl
  | z :: zs => by
    show p ++ wSp ++ Str.join wSp (z :: zs) = joinB (p ++ wSp ++ z) zs
    rw [join_is z zs, joinB_app]
theorem txt_join (p : Str) (zs : List Str) : Txt.join wSp (p :: zs) = joinB p zs := by
  rw [← join_is]
  unfold Txt.join
  rw [StrLaws.glued_eq_join]
/-- data that may be shown -/
def ShD2 (K : PySem.W.Frag) (H : Hp) (x : V) : Prop := ∃ d, Dp K H x d ∧ okD d = true ∧ costD d ≤ 1000000 ∧ d.depth ≤ 10
theorem ok2.okP : ∀ {p : Part}, ok2 p → okP p
  | .s z, h => h.le (by decide)
  | .t zs, ⟨h1, h2⟩ => ⟨by omega, fun z hz => (h2 z hz).le (by decide)⟩
theorem ok2.d : ∀ {p : Part}, ok2 p → okD (pd p) = true ∧ costD (pd p) ≤ 210000 ∧ (pd p).depth ≤ 1
  | .s z, h => by
    have h4 := h.1
    refine ⟨h.ok, ?_, by simp [pd, PyData.depth]⟩
    simp only [pd, costD]
    omega
  | .t zs, ⟨h1, h2⟩ => by
    obtain ⟨a, b, c⟩ := okAll_strs fun z hz => (h2 z hz).le (show 200 ≤ 1000 by decide)
    refine ⟨by simpa only [pd, okD] using a, ?_, ?_⟩
    · simp only [pd, costD]
      omega
    · simp only [pd, PyData.depth, c]
      decide
theorem sz7 {n : Nat} (h : n ≤ 10000000) : n ≤ sizeLine := Nat.le_trans h (by decide)
theorem e14 : (("not a step: " : Str)).length ≤ 100 := by decide +kernel
def spErrD (C : Addr) (K : PySem.W.Frag) : Sp := fun vs H Q _ => ∃ (a : Addr) (x : V), vs = [.ref a, x] ∧ ShD2 K H x ∧ H a = some (exo a C none) ∧ ∀ d, H d = none → d ≠ a → Q .non (upd (upd H d (exd d [("step", x)])) a (exo a C (some d)))
abbrev s_isInit : Stmt := inClass (topS 2) 0
abbrev N_isInit : List Str := ["self", "step", "__class__"]
theorem ns_isInit : NScope N_isInit ["self", "step"] ["__class__"] (defScope s_isInit) := nscope_by (by decide +kernel)
section
variable {P : Program} {w : World} {K : PySem.W.Frag} {mg : Str → Option Value} {base : Heap} {CX : CXT}
theorem ok_isInit {f C cda cc : Addr} {fd : FuncData} {qual : Str} {kV doc pm ct : Value} {an : Option Addr} (S : SupF K P C f fd cda cc "self") (T : SupC K C) (hno : PySem.W.findIn K (.ref C) "step" = some none) (hm : mg "super" = none)
    (hfd : fd = PySem.W.fnX "__init__" qual (defArgs s_isInit) (defBody s_isInit) (defScope s_isInit) [("__class__", cc)] .none kV doc pm an (.ref cda) ct) (hcd : PySem.W.codeIn K (.ref cda) qual = true) :
    FnOk P w K mg base CX 1 f fd ["self", "step"] (spErrD C K) := by
  refine fn_super (k := 0) (N := N_isInit) (ps := ["self", "step"]) (me := "self") S T hfd hcd ns_isInit hm rfl (by decide) (by decide +kernel) (by decide +kernel) (fun vs H Q E h => ?_) (fun A outer s H vs Q E hr h => ?_) (fun env => ⟨_, rfl⟩) (fun env => rfl) (fun env => rfl)
  · obtain ⟨a, x, rfl, _⟩ := h
    rfl
  · obtain ⟨a, x, rfl, ⟨d, hd, od, zd, pd⟩, ea, q⟩ := h
    refine ⟨a, _, _, rfl, ea, pe_joined (.cons pe_str (.cons (pe_fmtD hr (pv 1)) .nil)), pss_one (ps_ost (pv 0) (pv 1)), fun R hR => ?_⟩
    have h1 := e14
    refine ⟨_, rfl, ?_, _, rfl, d, hd, od, zd, by omega, fun m hm => ⟨_, rfl, ?_, ?_⟩⟩
    · rw [empty_app]
      exact sz7 (by omega)
    · rw [apl, empty_app]
      exact sz7 (Nat.le_trans (Nat.add_le_add h1 hm) (by omega))
    · exact hR H ea ⟨_, rfl, _, rfl, a, C, rfl, T.oex, hno, .inl ⟨ea, fun d nd ne => q d nd ne⟩⟩
end
theorem made_heap {H1 : Hp} {a d : Addr} {fs : List (Str × V)} (na : H1 a = none) (nda : d ≠ a) (X Y Z : HO) : upd (del (upd (upd (upd H1 a X) d Y) a Z) a) d (.xd fs) = upd H1 d (.xd fs) := by
  funext b
  by_cases hd : b = d
  · rw [hd, upd_same, upd_same]
  · rw [upd_ne hd, upd_ne hd]
    by_cases ha : b = a
    · rw [ha, del_same, na]
    · rw [del_ne ha, upd_ne ha, upd_ne hd, upd_ne ha]
/-- a step's data -/
theorem dp_parts {K : PySem.W.Frag} {H : Hp} : ∀ {xs : List V} {ps : List Part}, Paired (PtAt H) xs ps → DpAll K H xs (ps.map pd)
  | _, _, .nil => .nil
  | _, _, .cons h t => .cons h.dp (dp_parts t)
theorem parts_ok : ∀ {ps : List Part}, (∀ p ∈ ps, ok2 p) → okAll (ps.map pd) = true ∧ costAll (ps.map pd) ≤ 210002 * ps.length ∧ PyData.depthAll (ps.map pd) ≤ 1
  | [], _ => ⟨by simp [okAll], by simp [costAll], by simp [PyData.depthAll]⟩
  | p :: ps, h => by
    obtain ⟨h1, h2, h3⟩ := parts_ok fun y hy => h y (List.mem_cons_of_mem _ hy)
    obtain ⟨a, b, c⟩ := (h p List.mem_cons_self).d
    refine ⟨?_, ?_, ?_⟩
    · rw [List.map_cons]
      simp only [okAll, a, h1, Bool.and_self]
    · rw [List.map_cons, List.length_cons]
      simp only [costAll]
      omega
    · rw [List.map_cons]
      simp only [PyData.depthAll]
      exact Nat.max_le.mpr ⟨c, h3⟩
def stD (ps : List Part) : PyData := .tuple (ps.map pd)
theorem StAt.sh {K : PySem.W.Frag} {H : Hp} {a : Addr} {ps : List Part} (h : StAt H a ps) (ho : ∀ p ∈ ps, ok2 p) (hl : ps.length ≤ 4) : ShD2 K H (.ref a) := by
  obtain ⟨xs, ha, hp⟩ := h
  obtain ⟨h1, h2, h3⟩ := parts_ok ho
  refine ⟨stD ps, .tup (.inl (.inl ha)) (dp_parts hp), by simpa only [stD, okD] using h1, ?_, ?_⟩
  · simp only [stD, costD]
    omega
  · simp only [stD, PyData.depth]
    omega
def spFmt (CI : Addr) : Sp := fun vs H Q E => ∃ (a : Addr) (ps : List Part), vs = [.ref a] ∧ StAt H a ps ∧ (∀ p ∈ ps, ok2 p) ∧ ps.length ≤ 4 ∧ (stepB ps = true → ∀ H', Same H H' → Q (.str (textP ps)) H') ∧ (stepB ps = false → ∀ d H', Same H H' → H' d = some (.xd [("step", .ref a)]) → E (.ref CI) (some d) H')
abbrev s_fmt : Stmt := topS 10
abbrev N_fmt : List Str := ["step", "word", "program", "things"]
theorem sc_fmt : FnScope N_fmt ["step"] (defScope s_fmt) := ⟨rfl, rfl, rfl, by decide +kernel, rfl, by decide +kernel, by decide +kernel⟩
section
variable {P : Program} {w : World} {K : PySem.W.Frag} {mg : Str → Option Value} {base : Heap} {CI fI : Addr} {fdI : FuncData}
theorem ok_fmt {f : Addr} {fd : FuncData} (F : Fun K "format_step" "format_step" s_fmt f fd) (C_valid_step : Cal P w K mg base "valid_step" 4 (spStp stepB)) (gI : mg "InvalidStep" = some (.ref CI)) (oex : OexC K CI)
    (iC : PySem.W.findIn K (.ref CI) "__init__" = some (some (.ref fI))) (tI : PySem.W.typeIn K (.ref fI) = some (.type "function")) (FI : FnOk P w K mg base CX0 1 fI fdI ["self", "step"] (spErrD CI K)) (bI : Binds K fdI ["self", "step"] []) :
    FnOk P w K mg base (L2N.CX P w) 5 f fd ["step"] (spFmt CI) := by
  refine L2N.okXN F sc_fmt (fun vs H Q E h => ?_) (fun cdv A outer s H vs Q E hr h => ?_)
  · obtain ⟨a, ps, rfl, _⟩ := h
    rfl
  · obtain ⟨a, ps, rfl, hst, ho, hl, q, qe⟩ := h
    refine ⟨_, (pss_cons (ps_if (pt_not (pt_val (pe_cal C_valid_step (hr.mono (by decide)) (by rfl) (pa_cons (pv 0) pa_nil))))
        (pss_one (L2N.ps_raise rfl (L2N.takes_of rfl rfl rfl rfl) (L2N.pmk_oexN (sp := spErrD CI K) oex iC tI FI (hr.mono (by decide)) bI .nil pass0 (by rfl) gI (pa_cons (pv 0) pa_nil))))
        pss_nil)
      (pss_cons (ps_if (pt_cmpR op_eq (pe_ix ix_tup (pv 0) pe_int (fun _ _ => rfl)) pe_str (nomark _))
        (pss_cons (ps_asg (pv 0) (pg_tup rfl (pgs_cons (pg_name (i := 1) sc_fmt.nd rfl (Or.inl rfl)) (pgs_cons (pg_name (i := 2) sc_fmt.nd rfl (Or.inl rfl)) (pgs_cons (pg_name (i := 3) sc_fmt.nd rfl (Or.inl rfl)) pgs_nil)))))
        (pss_one (ps_ret (pe_join pe_str (pe_lst (pa_cons (pv 1) (pa_cons (pv 2) (StX.pa_star (pv 3) pa_nil))))))))
        pss_nil)
      (pss_one (ps_ret (pe_join pe_str (pv 0)))))), ?_⟩
    refine ⟨_, rfl, a, ps, rfl, hst, fun p hp => (ho p hp).okP, by omega, fun H1 s1 => ⟨_, rfl, iteB (fun h => ?_) (fun h => ?_)⟩⟩
    · have hB : stepB ps = false := by simpa using h
      refine ⟨_, rfl, by show 1 ≤ 1000; decide, fun a' na => ⟨a', .ref a, rfl, (hst.same (s1.trans (same_upd na))).sh ho hl, upd_same, fun d nd ne => ⟨rfl, d, [("step", .ref a)], upd_same, (upd_ne ne).trans upd_same, ?_, ?_⟩⟩⟩
      · rw [upd_ne ne] at nd
        exact nd
      · rw [made_heap na ne]
        rw [upd_ne ne] at nd
        exact qe hB d _ (s1.trans (same_upd nd)) upd_same
    · have hB : stepB ps = true := by simpa using h
      obtain ⟨xs, ha0, hp⟩ := hst
      have ha := s1 _ _ ha0
      obtain ⟨n1, n2, n3, n4, n5⟩ := wlen
      have hT : SqT K H1 a xs := .inl (.inl ha)
      have fin := fun H' s' => q hB H' (s1.trans s')
      cases form_of hB with
      | b p =>
        have e := pr2 hp
        subst e
        have op := (ho (.s p) (by simp)).1
        refine ⟨_, rfl, a, _, 0, _, rfl, rfl, hT, atI_nat (j := 0) rfl, rfl, _, rfl, ?_⟩
        rw [show decide (V.str wBegin = V.str (Str.ofString "close")) = false from dBC]
        refine iteF ⟨⟨_, rfl⟩, _, rfl, wSp, a, [wBegin, p], rfl, rfl, .inr hT, by simp; omega, ?_⟩
        rw [txt_join]
        exact fin H1 (Same.refl H1)
      | q p =>
        have e := pr2 hp
        subst e
        have op := (ho (.s p) (by simp)).1
        refine ⟨_, rfl, a, _, 0, _, rfl, rfl, hT, atI_nat (j := 0) rfl, rfl, _, rfl, ?_⟩
        rw [show decide (V.str wQuit = V.str (Str.ofString "close")) = false from dQC]
        refine iteF ⟨⟨_, rfl⟩, _, rfl, wSp, a, [wQuit, p], rfl, rfl, .inr hT, by simp; omega, ?_⟩
        rw [txt_join]
        exact fin H1 (Same.refl H1)
      | r p x =>
        obtain ⟨y, e, hy⟩ := pr3 hp
        subst e
        cases (show y = V.str x from hy)
        have op := (ho (.s p) (by simp)).1
        have ox := (ho (.s x) (by simp)).1
        refine ⟨_, rfl, a, _, 0, _, rfl, rfl, hT, atI_nat (j := 0) rfl, rfl, _, rfl, ?_⟩
        rw [show decide (V.str wRead = V.str (Str.ofString "close")) = false from dRC]
        refine iteF ⟨⟨_, rfl⟩, _, rfl, wSp, a, [wRead, p, x], rfl, rfl, .inr hT, by simp; omega, ?_⟩
        rw [txt_join]
        exact fin H1 (Same.refl H1)
      | c p zs =>
        obtain ⟨y, e, b, rfl, hb0⟩ := pr3 hp
        subst e
        have hb := s1 _ _ hb0
        have op := (ho (.s p) (by simp)).1
        have oz : ok2 (.t zs) := ho (.t zs) (by simp)
        have hl20 := oz.1
        refine ⟨_, rfl, a, _, 0, _, rfl, rfl, hT, atI_nat (j := 0) rfl, rfl, _, rfl, iteT ?_⟩
        have hsum : ∀ ys : List Str, (∀ z ∈ ys, Sht z 200) → (ys.map (·.length)).sum ≤ 200 * ys.length := by
          intro ys
          induction ys with
          | nil => intro _; exact Nat.zero_le _
          | cons z ys ih =>
            intro hz
            have h1 := (hz z List.mem_cons_self).1
            have h2 := ih fun y hy => hz y (List.mem_cons_of_mem _ hy)
            rw [List.map_cons, List.sum_cons, List.length_cons]
            omega
        have hs := hsum zs oz.2
        refine ⟨_, rfl, a, _, rfl, hT, rfl, _, _, rfl, _, _, rfl, _, _, rfl, rfl, ?_⟩
        refine ⟨⟨_, rfl⟩, _, rfl, _, rfl, _, rfl, b, zs.map V.str, rfl, .inl (.inl (.inl hb)), ?_⟩
        refine ⟨?_, fun l nl => ⟨wSp, l, wClose :: p :: zs, rfl, rfl, .inl (.inl (.inl ?_)), ?_, ?_⟩⟩
        · show (V.str wClose :: V.str p :: (zs.map V.str ++ [])).length ≤ sizeLine
          rw [List.append_nil, List.length_cons, List.length_cons, List.length_map]
          exact sz9 (by omega)
        · rw [upd_same]
          show some (HO.lst (V.str wClose :: V.str p :: (zs.map V.str ++ []))) = _
          rw [List.append_nil]
          rfl
        · rw [List.map_cons, List.map_cons, List.sum_cons, List.sum_cons, List.length_cons, List.length_cons, n5, Nat.mul_one]
          omega
        · rw [txt_join]
          exact fin _ (same_upd nl)
end
end Kx

namespace Kx
open PySem PySem.Spec PyProof.Rows L2 NdefX Kr Ke Ks Kn
theorem lc_enum1 {K : PySem.W.Frag} {a : Addr} {xs : List V} {g : TG} {tt : TT} {te : TE} {vs : List Nat} {σ : L2.St} {H1 : Hp} {D : Addr} {Qd : Hp → Prop} (Pv : Nat → Hp → Prop) (h0 : Pv 0 (upd H1 D (.lst []))) (hl : ∀ i H, i ≤ xs.length → Pv i H → SqL K H a xs)
    (hs : ∀ i x H T, xs[i]? = some x → Pv i H → H T = none → g (.ref T) (wipe σ vs) (upd H T (.tup [.int ((i + 1 : Nat) : Int), x])) fun σ2 H2 => wipe σ2 vs = wipe σ vs ∧ tt σ2 H2 fun b H3 =>
      if b = true then te σ2 H3 fun y H4 => ∃ acc, H4 D = some (.lst acc) ∧ acc.length < sizeLine ∧ Pv (i + 1) (upd H4 D (.lst (acc ++ [y]))) else Pv (i + 1) H3) (hd : ∀ H, Pv xs.length H → Qd H) :
    ∃ W : Nat → Nat → Hp → Prop, (∃ m, W 0 m (upd H1 D (.lst []))) ∧ ∀ i m H, W i m H →
      ((Ite1 K a).stop i H ∧ Qd H) ∨ ((Ite1 K a).go i H ∧ ∃ Nx : Hp → Prop, (∀ H', Nx H' → ∃ m', m' < m ∧ W (i + 1) m' H') ∧ ∀ x H', (Ite1 K a).yld i H x H' → g x (wipe σ vs) H' fun σ2 H2 => wipe σ2 vs = wipe σ vs ∧ tt σ2 H2 fun b H3 =>
        if b = true then te σ2 H3 fun y H4 => ∃ acc, H4 D = some (.lst acc) ∧ acc.length < sizeLine ∧ Nx (upd H4 D (.lst (acc ++ [y]))) else Nx H3) := by
  refine ⟨fun i m H => m = xs.length - i ∧ i ≤ xs.length ∧ Pv i H, ⟨xs.length, by simp, Nat.zero_le _, h0⟩, ?_⟩
  rintro i m H ⟨rfl, hi, p⟩
  have q := hl i H hi p
  by_cases hlt : i < xs.length
  · refine .inr ⟨⟨xs, xs[i], q, by simp [hlt]⟩, Pv (i + 1), fun H' p' => ⟨xs.length - (i + 1), by omega, rfl, hlt, p'⟩, fun x H' y => ?_⟩
    obtain ⟨T, x', rfl, hT, rfl, y⟩ := y
    exact hs i x' H T (y xs q) p hT
  · have e : i = xs.length := by omega
    subst e
    exact .inl ⟨⟨xs, q, rfl⟩, hd H p⟩
/-- a list of steps -/
def LsAt (H : Hp) (l : Addr) (xs : List Addr) (pss : List (List Part)) : Prop := H l = some (.lst (xs.map V.ref)) ∧ Paired (StAt H) xs pss
theorem LsAt.same {H H' : Hp} {l : Addr} {xs : List Addr} {pss : List (List Part)} (h : LsAt H l xs pss) (s : Same H H') : LsAt H' l xs pss := ⟨s _ _ h.1, Paired.mono (fun _ _ z => z.same s) h.2⟩
def okF (ps : List Part) : Prop := (∀ p ∈ ps, ok2 p) ∧ ps.length ≤ 4 ∧ (stepB ps = true → (textP ps).length ≤ 200)
theorem pair_get {α β : Type} {R : α → β → Prop} : ∀ {xs : List α} {ys : List β}, Paired R xs ys → ∀ {i : Nat} {x : α}, xs[i]? = some x → ∃ y, ys[i]? = some y ∧ R x y
  | _, _, .nil, i, x, e => by simp at e
  | _, _, .cons (b := y) h _, 0, x, e => ⟨y, rfl, (Option.some.inj e) ▸ h⟩
  | _, _, .cons _ t, i + 1, x, e => by
    obtain ⟨y, h1, h2⟩ := pair_get t (by simpa using e)
    exact ⟨y, by simpa using h1, h2⟩
/-- the first of the list that is no step -/
def FirstBad (pss : List (List Part)) (i : Nat) : Prop := (∀ j q, j < i → pss[j]? = some q → stepB q = true) ∧ ∃ ps, pss[i]? = some ps ∧ stepB ps = false
def wNl : Str := "\n"
def spFH (CI : Addr) : Sp := fun vs H Q E => ∃ (l : Addr) (xs : List Addr) (pss : List (List Part)), vs = [.ref l] ∧ LsAt H l xs pss ∧ (∀ ps ∈ pss, okF ps) ∧ pss.length ≤ 100 ∧
  ((∀ ps ∈ pss, stepB ps = true) → ∀ H', Same H H' → Q (.str (Txt.join wNl (pss.map textP))) H') ∧ (∀ i a, xs[i]? = some a → FirstBad pss i → ∀ d H', Same H H' → H' d = some (.xd [("step", .ref a)]) → E (.ref CI) (some d) H')
abbrev s_fh : Stmt := topS 11
abbrev N_fh : List Str := ["steps", "step"]
theorem sc_fh : FnScope N_fh ["steps"] (defScope s_fh) := ⟨rfl, rfl, rfl, by decide +kernel, rfl, by decide +kernel, by decide +kernel⟩
section
variable {P : Program} {w : World} {K : PySem.W.Frag} {mg : Str → Option Value} {base : Heap} {CI : Addr}
theorem ok_fh {f : Addr} {fd : FuncData} (F : Fun K "format_history" "format_history" s_fh f fd) (M : L2N.CalN P w K mg base "format_step" 5 ["step"] (spFmt CI)) : FnOk P w K mg base (L2N.CX P w) 6 f fd ["steps"] (spFH CI) := by
  refine L2N.okXN F sc_fh (fun vs H Q E h => ?_) (fun cdv A outer s H vs Q E hr h => ?_)
  · obtain ⟨l, xs, pss, rfl, _⟩ := h
    rfl
  · obtain ⟨l, xs, pss, rfl, hls, hok, hlen, q, qe⟩ := h
    refine ⟨_, pss_one (ps_ret (pe_join pe_str (L2N.pe_lcXN (own := [("step", 1)]) (g := gName 1) (E := E) rfl rfl (L2N.takes_of rfl rfl rfl rfl) rfl sc_fh.nd (by decide +kernel) (pi_list (pv 0)) (blkOk_by (own := [("step", 1)]) (N := N_fh) (sc := defScope s_fh) (by decide +kernel)) (fun _ _ _ _ _ => pg_name (i := 1) sc_fh.nd rfl (Or.inl rfl)) (fun _ _ _ _ _ => L2N.pe_calEN M (hr.mono (by decide)) (by rfl) (pa_cons (pv 1) pa_nil))))), ?_⟩
    refine ⟨⟨_, rfl⟩, _, rfl, l, rfl, ⟨_, .inl (.inl hls.1)⟩, fun D hD => ?_⟩
    refine lc_list (xs := xs.map V.ref) (fun i H1 => Same H H1 ∧ H1 D = some (.lst (((pss.take i).map textP).map V.str)) ∧ ∀ j q, j < i → pss[j]? = some q → stepB q = true) ⟨same_upd hD, upd_same, fun j q hj => absurd hj (Nat.not_lt_zero _)⟩ (fun i H1 _ ⟨s1, _⟩ => .inl (.inl (s1 _ _ hls.1))) ?_ ?_
    · rintro i y H1 hy ⟨s1, d1, hg⟩
      obtain ⟨a, ha, rfl⟩ : ∃ a, xs[i]? = some a ∧ y = .ref a := by
        rw [List.getElem?_map] at hy
        cases e : xs[i]? with
        | none => rw [e] at hy; cases hy
        | some n => rw [e] at hy; exact ⟨n, rfl, (Option.some.inj hy).symm⟩
      obtain ⟨ps, hps, hst⟩ := pair_get hls.2 ha
      have ho := hok ps (List.mem_of_getElem? hps)
      refine ⟨rfl, _, rfl, a, ps, rfl, hst.same s1, ho.1, ho.2.1, fun hB H2 s2 => ⟨_, s2 _ _ d1, ?_, same_mut (s1.trans s2) hD, ?_, ?_⟩, fun hB d H2 s2 ed => ?_⟩
      · rw [List.length_map, List.length_map, List.length_take]
        exact sz8 (by omega)
      · rw [upd_same, List.take_add_one, hps, List.map_append, List.map_append]
        rfl
      · intro j q hj hq
        by_cases e : j = i
        · rw [e, hps] at hq
          cases hq
          exact hB
        · exact hg j q (by omega) hq
      · exact qe i a ha ⟨hg, ps, hps, hB⟩ d H2 (s1.trans s2) ed
    · rintro H1 ⟨s1, d1, hg⟩
      have hl := hls.2.length
      rw [List.length_map, hl, List.take_length] at d1
      rw [List.length_map, hl] at hg
      have hall : ∀ ps ∈ pss, stepB ps = true := fun ps hp => by
        obtain ⟨j, hj⟩ := List.mem_iff_getElem?.mp hp
        exact hg j ps (List.getElem?_eq_some_iff.mp hj).1 hj
      have hsum : ∀ l : List (List Part), (∀ ps ∈ l, okF ps) → (∀ ps ∈ l, stepB ps = true) → ((l.map textP).map (·.length)).sum ≤ 200 * l.length := by
        intro l
        induction l with
        | nil => intro _ _; exact Nat.zero_le _
        | cons z ys ih =>
          intro h1 h2
          have a1 := (h1 z List.mem_cons_self).2.2 (h2 z List.mem_cons_self)
          have a2 := ih (fun y hy => h1 y (List.mem_cons_of_mem _ hy)) fun y hy => h2 y (List.mem_cons_of_mem _ hy)
          rw [List.map_cons, List.map_cons, List.sum_cons, List.length_cons]
          omega
      have hs := hsum pss hok hall
      refine ⟨wNl, D, pss.map textP, rfl, rfl, .inl (.inl (.inl d1)), ?_, q hall H1 s1⟩
      have e1 : wNl.length = 1 := by decide +kernel
      rw [e1, List.length_map]
      omega
end
end Kx

namespace Kx
open PySem PySem.Spec PyProof.Rows L2 NdefX Kr Ke Ks Kn
/-! ### lines -/
def linesN (z : Str) : List Str := Txt.split z wNl
def lns (z : Str) : List Str := if z = "" then [] else linesN z
theorem lines_spl (z : Str) : (linesN z).map TL.tl = TL.spl [10] 0 [] (TL.tl z) := TL.split_spl z wNl (by decide +kernel) (TL.kind_ok (by decide +kernel))
theorem spl_nl {acc r : List Nat} : TL.spl [10] 0 acc (10 :: r) = acc :: TL.spl [10] 0 [] r := rfl
theorem spl_nn {acc r : List Nat} {c : Nat} (h : ¬ c = 10) : TL.spl [10] 0 acc (c :: r) = TL.spl [10] 0 (acc ++ [c]) r := by
  show (if TL.pre [10] (c :: r) = true then acc :: TL.spl [10] 0 [] r else TL.spl [10] 0 (acc ++ [c]) r) = _
  rw [if_neg]
  intro z
  have z' : ([c] : List Nat) = [10] := beq_iff_eq.mp z
  injection z' with z'
  exact h z'
theorem spl_cat : ∀ (l acc r : List Nat), TL.spl [10] 0 acc (l ++ 10 :: r) = TL.spl [10] 0 acc l ++ TL.spl [10] 0 [] r
  | [], acc, r => by
    rw [List.nil_append, spl_nl, TL.spl_nil]
    rfl
  | x :: l, acc, r => by
    by_cases h : x = 10
    · rw [h, List.cons_append, spl_nl, spl_nl, spl_cat l [] r]
      rfl
    · rw [List.cons_append, spl_nn h, spl_nn h, spl_cat l (acc ++ [x]) r]
theorem spl_one : ∀ (l acc : List Nat), 10 ∉ l → TL.spl [10] 0 acc l = [acc ++ l]
  | [], acc, _ => by rw [TL.spl_nil, List.append_nil]
  | x :: l, acc, h => by
    have hx : ¬ x = 10 := fun e => h (by rw [e]; exact List.mem_cons_self)
    rw [spl_nn hx, spl_one l (acc ++ [x]) fun hm => h (List.mem_cons_of_mem _ hm), List.append_assoc]
    rfl
theorem tl_inj : ∀ {xs ys : List Str}, xs.map TL.tl = ys.map TL.tl → xs = ys := by
  intro xs
  induction xs with
  | nil => intro ys h; cases ys with
    | nil => rfl
    | cons y ys => cases h
  | cons x xs ih => intro ys h; cases ys with
    | nil => cases h
    | cons y ys =>
      rw [List.map_cons, List.map_cons] at h
      injection h with ha hb
      rw [TL.ext_tl ha, ih hb]
theorem tl_app (x y : Str) : TL.tl (x ++ y) = TL.tl x ++ TL.tl y := by
  show (x.cps ++ y.cps).toList = _
  rw [Array.toList_append]
theorem tl_nl : TL.tl wNl = [10] := by decide +kernel
theorem lines_app (x y : Str) : linesN (x ++ wNl ++ y) = linesN x ++ linesN y := by
  refine tl_inj ?_
  rw [List.map_append, lines_spl, lines_spl, lines_spl, tl_app, tl_app, tl_nl, List.append_assoc]
  exact spl_cat _ _ _
theorem lines_lin {x : Str} (h : 10 ∉ x.cps.toList) : linesN x = [x] := by
  refine tl_inj ?_
  rw [lines_spl, spl_one _ _ h]
  rfl
theorem lines_nil : linesN ("" : Str) = [("" : Str)] := lines_lin (x := "") (by decide +kernel)
/-- the lines joined -/
def joinN (acc : Str) (zs : List Str) : Str := zs.foldl (fun acc z => acc ++ wNl ++ z) acc
theorem asc (x y z : Str) : x ++ y ++ z = x ++ (y ++ z) := app_assoc x y z
theorem joinN_app (x y : Str) : ∀ zs : List Str, joinN (x ++ y) zs = x ++ joinN y zs := by
  intro zs
  induction zs generalizing y with
  | nil => rfl
  | cons z zs ih =>
    show joinN (x ++ y ++ wNl ++ z) zs = x ++ joinN (y ++ wNl ++ z) zs
    rw [asc (x ++ y), asc x y, ih, ← asc y]
theorem joinN_is (p : Str) : ∀ zs : List Str, Str.join wNl (p :: zs) = joinN p zs
  | [] => rfl
  | z :: zs => by
    show p ++ wNl ++ Str.join wNl (z :: zs) = joinN (p ++ wNl ++ z) zs
    rw [joinN_is z zs, joinN_app]
theorem joinN_txt (p : Str) (zs : List Str) : Txt.join wNl (p :: zs) = joinN p zs := by
  rw [← joinN_is]
  unfold Txt.join
  rw [StrLaws.glued_eq_join]
theorem join_none : Txt.join wNl [] = "" := by decide +kernel
theorem lines_joinN : ∀ (zs : List Str) (acc : Str), (∀ z ∈ zs, 10 ∉ z.cps.toList) → linesN (joinN acc zs) = linesN acc ++ zs
  | [], acc, _ => (List.append_nil _).symm
  | z :: zs, acc, h => by
    show linesN (joinN (acc ++ wNl ++ z) zs) = _
    rw [lines_joinN zs _ fun y hy => h y (List.mem_cons_of_mem _ hy), lines_app, lines_lin (h z List.mem_cons_self), List.append_assoc]
    rfl
/-- the lines of a joined text -/
def baseN (zs : List Str) : List Str := if zs = [] then [("" : Str)] else zs
theorem lines_join {zs : List Str} (h : ∀ z ∈ zs, 10 ∉ z.cps.toList) : linesN (Txt.join wNl zs) = baseN zs := by
  cases zs with
  | nil => rw [join_none, lines_nil]; rfl
  | cons z zs =>
    rw [joinN_txt, lines_joinN _ _ fun y hy => h y (List.mem_cons_of_mem _ hy), lines_lin (h z List.mem_cons_self)]
    rfl
theorem joinN_len : ∀ (zs : List Str) (acc : Str) (n : Nat), (∀ z ∈ zs, z.length ≤ n) → (joinN acc zs).length ≤ acc.length + (n + 1) * zs.length
  | [], acc, n, _ => Nat.le_refl _
  | z :: zs, acc, n, h => by
    have h1 := joinN_len zs (acc ++ wNl ++ z) n fun y hy => h y (List.mem_cons_of_mem _ hy)
    have h2 := h z List.mem_cons_self
    have e1 : wNl.length = 1 := by decide +kernel
    rw [apl, apl, e1] at h1
    show (joinN (acc ++ wNl ++ z) zs).length ≤ _
    rw [List.length_cons, Nat.mul_succ]
    omega
theorem join_len {zs : List Str} {n : Nat} (h : ∀ z ∈ zs, z.length ≤ n) : (Txt.join wNl zs).length ≤ (n + 1) * zs.length := by
  cases zs with
  | nil => rw [join_none]; exact Nat.zero_le _
  | cons z zs =>
    rw [joinN_txt]
    have h1 := joinN_len zs z n fun y hy => h y (List.mem_cons_of_mem _ hy)
    have h2 := h z List.mem_cons_self
    rw [List.length_cons, Nat.mul_succ]
    omega
/-- a text whose lines are few and short -/
def TxOk (z : Str) : Prop := z.length ≤ 30000 ∧ (∀ p ∈ linesN z, Sht p 900) ∧ (linesN z).length ≤ 98
theorem lns_ok {z : Str} (h : TxOk z) : (∀ p ∈ lns z, Sht p 900) ∧ (lns z).length ≤ 98 := by
  unfold lns
  split
  · exact ⟨(fun p hp => nomatch hp), Nat.zero_le _⟩
  · exact h.2
theorem paired_app {α β : Type} {R : α → β → Prop} : ∀ {xs : List α} {ys : List β} {us : List α} {vs : List β}, Paired R xs ys → Paired R us vs → Paired R (xs ++ us) (ys ++ vs)
  | _, _, _, _, .nil, h => h
  | _, _, _, _, .cons a t, h => .cons a (paired_app t h)
/-- the step of a line -/
def stL (p : Str) : List Part := partsP (wordsL p)
abbrev s_lines : Stmt := topS 27
abbrev N_lines : List Str := ["_law_text", "_law_lines_here", "_law_char"]
theorem sc_lines : FnScope N_lines ["_law_text"] (defScope s_lines) := ⟨rfl, rfl, rfl, by decide +kernel, rfl, by decide +kernel, by decide +kernel⟩
def spLines : Sp := fun vs H Q _ => ∃ z : Str, vs = [.str z] ∧ z.length ≤ 30000 ∧ ∀ l H', Same H H' → H l = none → H' l = some (.lst ((lns z).map V.str)) → Q (.ref l) H'
theorem dnl {c : Nat} : decide (V.str ⟨#[c]⟩ = V.str wNl) = decide (c = 10) := by
  by_cases h : c = 10
  · rw [h]
    exact decide_eq_true (by show V.str ⟨#[10]⟩ = V.str wNl; congr 1)
  · rw [decide_eq_false h, decide_eq_false]
    intro z
    injection z with z
    have z' : (#[c] : Array Nat) = #[10] := congrArg Str.cps z
    exact h (by simpa using z')
section
variable {P : Program} {w : World} {K : PySem.W.Frag} {mg : Str → Option Value} {base : Heap}
theorem ok_lines {f : Addr} {fd : FuncData} (F : Fun K "_law_lines" "_law_lines" s_lines f fd) : FnOk P w K mg base CX0 1 f fd ["_law_text"] spLines := by
  refine F.ok sc_lines (fun vs H Q E h => ?_) (fun cdv A outer s H vs Q E hr h => ?_)
  · obtain ⟨z, rfl, _⟩ := h
    rfl
  · obtain ⟨z, rfl, hz, q⟩ := h
    refine ⟨_, (pss_cons (ps_set (i := 1) sc_lines.nd rfl (Or.inl rfl) (pe_lst (pa_cons pe_str pa_nil)))
      (pss_cons (ps_for PassesOwn.never rfl (pi_str (pv 0)) (pg_name (i := 2) sc_lines.nd rfl (Or.inl rfl))
        (pss_one (ps_if (pt_cmpR op_eq (pv 2) pe_str (nomark _))
          (pss_one (ps_expr (pe_bm PySem.F.plainAttrs_list PySem.F.slot_list_append PySem.F.type_list_append mt_append (pv 1) (pa_cons pe_str pa_nil))))
          (pss_one (ps_asg (pe_op op_add_str (pe_ix ix_list (pv 1) (pe_un un_neg pe_int) (fun _ _ => rfl)) (pv 2)) (pg_sub (pv 1) (pe_un un_neg pe_int) set_list))))))
      (pss_cons (ps_if (pt_cmpR op_eq (pv 0) pe_str (nomark _)) (pss_one (ps_ret (pe_lst pa_nil))) pss_nil)
      (pss_one (ps_ret (pv 1)))))), ?_⟩
    refine ⟨by show 1 ≤ sizeLine; decide, fun l nl => ?_⟩
    refine ⟨_, rfl, z, rfl, ?_⟩
    have hzl : z.cps.toList.length = z.length := Array.length_toList
    refine for_txt (z := z) (fun i σ H' => ∃ (x2 : Option V) (ds : List Str) (cur : Str), σ = [some (.str z), some (.ref l), x2] ∧ Same H H' ∧ H' l = some (.lst ((ds ++ [cur]).map V.str)) ∧ ds.length ≤ i ∧ cur.length ≤ i ∧
      ds.map TL.tl ++ TL.spl [10] 0 (TL.tl cur) (z.cps.toList.drop i) = TL.spl [10] 0 [] (TL.tl z))
      ⟨none, [], "", rfl, same_upd nl, upd_same, Nat.le_refl _, Nat.le_refl _, rfl⟩ ?_ ?_
    · rintro i c σ H' hc ⟨x2, ds, cur, rfl, sm, el, h1, h2, h3⟩
      have hil : i < z.cps.toList.length := (List.getElem?_eq_some_iff.mp hc).1
      have hdrop : z.cps.toList.drop i = c :: z.cps.toList.drop (i + 1) := by
        rw [List.drop_eq_getElem_cons hil]
        congr 1
        exact (List.getElem?_eq_some_iff.mp hc).2
      have hll : ((ds ++ [cur]).map V.str).length = ds.length + 1 := by rw [List.length_map, List.length_append]; rfl
      rw [hdrop] at h3
      refine ⟨_, rfl, rfl, _, rfl, ?_⟩
      rw [show decide (V.str ⟨#[c]⟩ = V.str (Str.ofString "\n")) = decide (c = 10) from dnl]
      refine iteB (fun hsp => ?_) (fun hsp => ?_)
      · have e : c = 10 := of_decide_eq_true hsp
        rw [e, spl_nl] at h3
        refine ⟨_, rfl, .inl ⟨rfl, _, .inl (.inl el)⟩, l, _, _, rfl, rfl, el, sl9 (by rw [hll]; omega), ?_⟩
        refine ⟨_, ds ++ [cur], "", rfl, same_mut sm nl, ?_, by rw [List.length_append, List.length_singleton]; omega, Nat.zero_le _, ?_⟩
        · rw [upd_same, List.map_append (l₁ := ds ++ [cur])]
          rfl
        · rw [List.map_append, List.append_assoc]
          exact h3
      · have e : ¬ c = 10 := of_decide_eq_false hsp
        rw [spl_nn e] at h3
        have hx : ixN ((ds ++ [cur]).map V.str).length (-1) = some ds.length := by
          rw [hll]
          unfold ixN
          rw [if_neg (by decide), if_pos (by omega)]
          congr 1
          omega
        have hat : atI ((ds ++ [cur]).map V.str) (-1) = some (.str cur) := by
          unfold atI
          rw [hx]
          show ((ds ++ [cur]).map V.str)[ds.length]? = _
          rw [List.getElem?_map, List.getElem?_append_right (Nat.le_refl _), Nat.sub_self]
          rfl
        refine ⟨_, rfl, 1, rfl, l, _, -1, .str cur, rfl, rfl, .inl (.inl el), hat, _, rfl, cur, ⟨#[c]⟩, rfl, rfl, sz9 (by show cur.length + 1 ≤ 100000; omega), _, rfl, 1, rfl, l, _, -1, ds.length, rfl, rfl, el, hx, ?_⟩
        refine ⟨_, ds, cur ++ ⟨#[c]⟩, rfl, same_mut sm nl, ?_, by omega, ?_, ?_⟩
        · rw [upd_same, List.map_append, List.map_append]
          have e2 : (ds.map V.str ++ [cur].map V.str).set ds.length (V.str (cur ++ ⟨#[c]⟩)) = ds.map V.str ++ [V.str (cur ++ ⟨#[c]⟩)] := by
            rw [List.set_append_right _ _ (by rw [List.length_map]; exact Nat.le_refl _)]
            rw [List.length_map, Nat.sub_self]
            rfl
          rw [e2]
          rfl
        · have e3 : (cur ++ (⟨#[c]⟩ : Str)).length = cur.length + 1 := Array.size_append
          rw [e3]
          omega
        · have e4 : TL.tl (cur ++ (⟨#[c]⟩ : Str)) = TL.tl cur ++ [c] := by
            show (cur.cps ++ #[c]).toList = _
            rw [Array.toList_append]
          rw [e4]
          exact h3
    · rintro σ H' ⟨x2, ds, cur, rfl, sm, el, h1, h2, h3⟩
      rw [List.drop_length, TL.spl_nil, ← lines_spl] at h3
      have e : ds ++ [cur] = linesN z := by
        have h4 : (ds ++ [cur]).map TL.tl = (linesN z).map TL.tl := by
          rw [List.map_append]
          exact h3
        have inj : ∀ {xs ys : List Str}, xs.map TL.tl = ys.map TL.tl → xs = ys := by
          intro xs
          induction xs with
          | nil => intro ys h; cases ys with
            | nil => rfl
            | cons y ys => cases h
          | cons x xs ih => intro ys h; cases ys with
            | nil => cases h
            | cons y ys =>
              rw [List.map_cons, List.map_cons] at h
              injection h with ha hb
              rw [TL.ext_tl ha, ih hb]
        exact inj h4
      refine ⟨_, rfl, rfl, _, rfl, iteB (fun h0 => ?_) (fun h0 => ?_)⟩
      · have h0' : z = "" := by
          have := of_decide_eq_true h0
          injection this
        refine ⟨Nat.zero_le _, fun p np => q p _ (sm.trans (same_upd np)) (sm.free np) ?_⟩
        rw [upd_same]
        unfold lns
        rw [if_pos h0']
        rfl
      · have h0' : ¬ z = "" := fun e => of_decide_eq_false h0 (congrArg V.str e)
        refine ⟨_, rfl, q l H' sm nl ?_⟩
        rw [el, e]
        unfold lns
        rw [if_neg h0']
end

def spPH (CL : Addr) : Sp := fun vs H Q E => ∃ z : Str, vs = [.str z] ∧ TxOk z ∧
  ((∀ p ∈ lns z, stepB (stL p) = true) → ∀ l xs H', Same H H' → LsAt H' l xs ((lns z).map stL) → Q (.ref l) H') ∧
  (∀ i p, (lns z)[i]? = some p → FirstBad ((lns z).map stL) i → ∀ d H', Same H H' → H' d = some (.xd (fsL (i + 1) p)) → E (.ref CL) (some d) H')
abbrev s_ph : Stmt := topS 12
abbrev N_ph : List Str := ["text", "lines", "number", "line"]
theorem sc_ph : FnScope N_ph ["text"] (defScope s_ph) := ⟨rfl, rfl, rfl, by decide +kernel, rfl, by decide +kernel, by decide +kernel⟩
section
variable {P : Program} {w : World} {K : PySem.W.Frag} {mg : Str → Option Value} {base : Heap} {CL : Addr}
theorem ok_ph {f : Addr} {fd : FuncData} (F : Fun K "parse_history" "parse_history" s_ph f fd) (me : mg "enumerate" = none) (M : L2N.CalN P w K mg base "_numbered_step" 5 ["number", "line"] (spNum CL)) : FnOk P w K mg base (L2N.CX P w) 6 f fd ["text"] (spPH CL) := by
  refine L2N.okXN F sc_ph (fun vs H Q E h => ?_) (fun cdv A outer s H vs Q E hr h => ?_)
  · obtain ⟨z, rfl, _⟩ := h
    rfl
  · obtain ⟨z, rfl, hz, q, qe⟩ := h
    refine ⟨_, (pss_cons (ps_if (pt_cmpR op_eq (pv 0) pe_str (nomark _)) (pss_one (ps_ret (pe_lst pa_nil))) pss_nil)
      (pss_cons (ps_set (i := 1) sc_ph.nd rfl (Or.inl rfl) (pe_split (pv 0) pe_str))
      (pss_one (ps_ret (L2N.pe_lcXN (own := [("number", 2), ("line", 3)]) (g := gTup K 2 (gCons (gName 2) (gCons (gName 3) gNil))) (E := E) rfl rfl (L2N.takes_of rfl rfl rfl rfl) rfl sc_ph.nd (by decide +kernel) (pi_enum1 (by rfl) me (pv 1)) (blkOk_by (own := [("number", 2), ("line", 3)]) (N := N_ph) (sc := defScope s_ph) (by decide +kernel)) (fun _ _ _ _ _ => pg_tup rfl (pgs_cons (pg_name (i := 2) sc_ph.nd rfl (Or.inl rfl)) (pgs_cons (pg_name (i := 3) sc_ph.nd rfl (Or.inl rfl)) pgs_nil))) (fun _ _ _ _ _ => L2N.pe_calEN M (hr.mono (by decide)) (by rfl) (pa_cons (pv 2) (pa_cons (pv 3) pa_nil)))))))), ?_⟩
    obtain ⟨hl9, hn98⟩ := lns_ok hz
    refine ⟨_, rfl, rfl, _, rfl, iteB (fun h0 => ?_) (fun h0 => ?_)⟩
    · have h0' : z = "" := by
        have := of_decide_eq_true h0
        injection this
      have el : lns z = [] := if_pos h0'
      rw [el] at q
      exact ⟨Nat.zero_le _, fun p np => q (fun p hp => nomatch hp) p [] _ (same_upd np) ⟨upd_same, .nil⟩⟩
    · have h0' : ¬ z = "" := fun e => of_decide_eq_false h0 (congrArg V.str e)
      have el : lns z = linesN z := if_neg h0'
      refine ⟨_, rfl, ⟨_, rfl⟩, z, wNl, rfl, rfl, by decide +kernel, sz9 (by have := hz.1; omega), fun l nl => ?_⟩
      have eL : (upd H l (.lst ((Txt.split z wNl).map V.str))) l = some (.lst ((lns z).map V.str)) := by
        rw [upd_same, el]
        rfl
      generalize hH1 : upd H l (.lst ((Txt.split z wNl).map V.str)) = H1 at eL
      have sH1 : Same H H1 := hH1 ▸ same_upd nl
      generalize lns z = ls at *
      refine ⟨_, rfl, l, _, rfl, .inl (.inl eL), fun D hD => ?_⟩
      refine lc_enum1 (xs := ls.map V.str) (fun i H2 => Same H1 H2 ∧ (∃ xs : List Addr, H2 D = some (.lst (xs.map V.ref)) ∧ Paired (StAt H2) xs ((ls.take i).map stL)) ∧ H1 D = none ∧ ∀ j q, j < i → (ls.map stL)[j]? = some q → stepB q = true)
        ⟨same_upd hD, ⟨[], upd_same, .nil⟩, hD, fun j q hj => absurd hj (Nat.not_lt_zero _)⟩ (fun i H2 _ ⟨s2, _⟩ => .inl (.inl (s2 _ _ eL))) ?_ ?_
      · rintro i y H2 T hy ⟨s2, ⟨xs, d2, hp⟩, _, hg⟩ hT
        obtain ⟨p, hpi, rfl⟩ : ∃ p, ls[i]? = some p ∧ y = .str p := by
          rw [List.getElem?_map] at hy
          cases e : ls[i]? with
          | none => rw [e] at hy; cases hy
          | some n => rw [e] at hy; exact ⟨n, rfl, (Option.some.inj hy).symm⟩
        have hil := (List.getElem?_eq_some_iff.mp hpi).1
        have sT := same_upd (o := .tup [V.int ((i + 1 : Nat) : Int), V.str p]) hT
        have hB : (ls.map stL)[i]? = some (stL p) := by rw [List.getElem?_map, hpi]; rfl
        refine ⟨T, _, rfl, .inl (.inl upd_same), rfl, _, _, rfl, _, _, rfl, rfl, rfl, _, rfl, _, rfl, i + 1, p, rfl, by omega, hl9 p (List.mem_of_getElem? hpi), fun hB1 a H3 s3 hst => ?_, fun hB0 d H3 s3 ed => ?_⟩
        · have dD := s3 _ _ (sT _ _ d2)
          have hxl := hp.length
          rw [List.length_map, List.length_take] at hxl
          refine ⟨_, dD, ?_, same_mut ((s2.trans sT).trans s3) hD, ⟨xs ++ [a], ?_, ?_⟩, hD, fun j q hj hq => ?_⟩
          · rw [List.length_map]
            exact sz8 (by omega)
          · rw [upd_same, List.map_append]
            rfl
          · rw [List.take_add_one, hpi, List.map_append]
            have keep : ∀ b qs, StAt H3 b qs → StAt (upd H3 D (.lst (xs.map V.ref ++ [V.ref a]))) b qs := fun b qs ⟨ys, hb, hy⟩ => by
              have hbD : b ≠ D := fun e => by rw [e, dD] at hb; cases hb
              refine ⟨ys, (upd_ne hbD).trans hb, Paired.mono (fun x pt hx => ?_) hy⟩
              cases pt with
              | s z => exact hx
              | t zs =>
                obtain ⟨c, e, hc⟩ := hx
                exact ⟨c, e, (upd_ne (fun e => by rw [e, dD] at hc; cases hc)).trans hc⟩
            refine paired_app (Paired.mono (fun b qs hb => keep b qs (hb.same (sT.trans s3))) hp) (.cons (keep a _ hst) .nil)
          · by_cases e : j = i
            · rw [e, hB] at hq
              cases hq
              exact hB1
            · exact hg j q (by omega) hq
        · exact qe i p hpi ⟨hg, _, hB, hB0⟩ d H3 (((sH1.trans s2).trans sT).trans s3) ed
      · rintro H2 ⟨s2, ⟨xs, d2, hp⟩, _, hg⟩
        rw [List.length_map, List.take_length] at hp
        rw [List.length_map] at hg
        refine q (fun p hp => ?_) D xs H2 (sH1.trans s2) ⟨d2, hp⟩
        obtain ⟨j, hj⟩ := List.mem_iff_getElem?.mp hp
        refine hg j (stL p) (List.getElem?_eq_some_iff.mp hj).1 ?_
        rw [List.getElem?_map, hj]
        rfl
end
end Kx

/-! Walks over lists, tuples and texts, and calls of defs, while an exception is handled. -/
namespace L2H
open PySem PySem.Spec PyProof.Rows L2 HotX
section
variable {prog : Program} {w : World} {A : Around} {E : Value → Shared → Prop} {s : Shared}
theorem list_end_hot {it l : Addr} {i : Nat} {items} {Q : Option Value → Shared → Prop} {x1 : Addr} (hot : HotAt A x1 s.heap) (hne1 : x1 ≠ it)
    (hit : s.heap.IsListIter it l i) (hl : s.heap.IsList l items) (hx : items[i]? = none)
    (hQ : ∀ h', Heap.ExtBut it s.heap h' → Q none { s with heap := h' }) : wpAny (model prog w) A (pyNext (.ref it)) Q E s := by
  obtain ⟨hh, o1, vs1, h1, d1, c1⟩ := hot
  obtain ⟨o, ho, hc, hd⟩ := id hit
  obtain ⟨ol, hol, _, nl, hdl⟩ := hl
  unfold pyNext
  refine wpAny_bind (wpAny_attempt (wpAny_callSpecial?_slot (name := Str.ofString "__next__") hit.typeIs slot_listiter_next
    (wpAny_call_entry slot_listiter_next hit.typeIs entry_listiter_next ?_ (args_listiter_next _))))
  show wpAny _ _ (field (.ref it) 0 >>= _) _ _ s
  refine wpAny_bind (wpAny_field ho hd (x := .ref l) rfl ?_)
  show wpAny _ _ (if (Value.ref l == Value.none) = true then _ else _) _ _ s
  rw [if_neg (show ¬ ((Value.ref l == Value.none) = true) from Bool.false_ne_true)]
  show wpAny _ _ (field (.ref it) 1 >>= _) _ _ s
  refine wpAny_bind (wpAny_field ho hd (x := .int i 0) rfl ?_)
  show wpAny _ _ (seqItems? (.ref l) >>= _) _ _ s
  refine wpAny_bind (wpAny_seqItems hol hdl ?_)
  simp only [Int.toNat_natCast, hx]
  refine wpAny_bind (wpAny_rule (wpAny_bind (wpAny_setField ho hd (by simp) ?_)))
  show wpAny _ _ (newExc (.type "StopIteration") [] >>= _) _ _ _
  refine wpAny_bind ?_
  simp only [newExc, newTuple]
  refine wpAny_bind (wpAny_newObj_type ?_ (by size_fits))
  refine wpAny_bind (m := firstArgMember _ _) (wpAny_of_eq (a := Value.none) (by first | rfl | (simp only [firstArgMember]; rfl)) ?_)
  refine wpAny_newObj_type ?_ (by size_fits)
  have h1' : (s.heap.update it (Obj.mapFields (·.setIfInBounds 0 Value.none))).get? x1 = some o1 := (Heap.get?_update_other _ _ (fun e => hne1 e.symm)).trans h1
  refine raiseNew_hot ⟨hh, o1, vs1, Heap.get?_push_of_some _ (Heap.get?_push_of_some _ h1'), d1, c1⟩ (Nat.ne_of_lt (Heap.lt_size (Heap.get?_push_of_some _ h1'))) (Heap.get?_push_size _ rfl) rfl (by first | (simp; done) | (simp; omega) | (simp only [Array.size_append]; simp; omega)) ?_
  refine wpAny_bind (wpAny_isInstance (T := "StopIteration") (b := true) ⟨_, Heap.get?_update_self _ (Heap.get?_push_size _ rfl) rfl, rfl⟩ isSubtype_stop ?_)
  refine wpAny_pure (hQ _ fun b o hb e => ?_)
  have e2 : (s.heap.update it (Obj.mapFields (·.setIfInBounds 0 Value.none))).get? b = some o := (Heap.get?_update_other _ _ (Ne.symm hb)).trans e
  rw [Heap.get?_update_other _ _ (Nat.ne_of_gt (Heap.lt_size (Heap.get?_push_of_some _ e2)))]
  exact Heap.get?_push_of_some _ (Heap.get?_push_of_some _ e2)
theorem tuple_end_hot {it t : Addr} {i : Nat} {items} {Q : Option Value → Shared → Prop} {x1 : Addr} (hot : HotAt A x1 s.heap) (hne1 : x1 ≠ it)
    (hit : s.heap.IsTupleIter it t i) (hl : s.heap.IsTuple t items) (hx : items[i]? = none)
    (hQ : ∀ h', Heap.ExtBut it s.heap h' → Q none { s with heap := h' }) : wpAny (model prog w) A (pyNext (.ref it)) Q E s := by
  obtain ⟨hh, o1, vs1, h1, d1, c1⟩ := hot
  obtain ⟨o, ho, hc, hd⟩ := id hit
  obtain ⟨ol, hol, _, nl, hdl⟩ := hl
  unfold pyNext
  refine wpAny_bind (wpAny_attempt (wpAny_callSpecial?_slot (name := Str.ofString "__next__") hit.typeIs F.slot_tuple_iterator_next
    (wpAny_call_entry F.slot_tuple_iterator_next hit.typeIs F.entry_tuple_iterator_next ?_ (F.args_tuple_iterator_next_1 _))))
  show wpAny _ _ (field (.ref it) 0 >>= _) _ _ s
  refine wpAny_bind (wpAny_field ho hd (x := .ref t) rfl ?_)
  show wpAny _ _ (if (Value.ref t == Value.none) = true then _ else _) _ _ s
  rw [if_neg (show ¬ ((Value.ref t == Value.none) = true) from Bool.false_ne_true)]
  show wpAny _ _ (field (.ref it) 1 >>= _) _ _ s
  refine wpAny_bind (wpAny_field ho hd (x := .int i 0) rfl ?_)
  show wpAny _ _ (seqItems? (.ref t) >>= _) _ _ s
  refine wpAny_bind (wpAny_seqItems hol hdl ?_)
  simp only [Int.toNat_natCast, hx]
  refine wpAny_bind (wpAny_rule (wpAny_bind (wpAny_setField ho hd (by simp) ?_)))
  show wpAny _ _ (newExc (.type "StopIteration") [] >>= _) _ _ _
  refine wpAny_bind ?_
  simp only [newExc, newTuple]
  refine wpAny_bind (wpAny_newObj_type ?_ (by size_fits))
  refine wpAny_bind (m := firstArgMember _ _) (wpAny_of_eq (a := Value.none) (by first | rfl | (simp only [firstArgMember]; rfl)) ?_)
  refine wpAny_newObj_type ?_ (by size_fits)
  have h1' : (s.heap.update it (Obj.mapFields (·.setIfInBounds 0 Value.none))).get? x1 = some o1 := (Heap.get?_update_other _ _ (fun e => hne1 e.symm)).trans h1
  refine raiseNew_hot ⟨hh, o1, vs1, Heap.get?_push_of_some _ (Heap.get?_push_of_some _ h1'), d1, c1⟩ (Nat.ne_of_lt (Heap.lt_size (Heap.get?_push_of_some _ h1'))) (Heap.get?_push_size _ rfl) rfl (by first | (simp; done) | (simp; omega) | (simp only [Array.size_append]; simp; omega)) ?_
  refine wpAny_bind (wpAny_isInstance (T := "StopIteration") (b := true) ⟨_, Heap.get?_update_self _ (Heap.get?_push_size _ rfl) rfl, rfl⟩ isSubtype_stop ?_)
  refine wpAny_pure (hQ _ fun b o hb e => ?_)
  have e2 : (s.heap.update it (Obj.mapFields (·.setIfInBounds 0 Value.none))).get? b = some o := (Heap.get?_update_other _ _ (Ne.symm hb)).trans e
  rw [Heap.get?_update_other _ _ (Nat.ne_of_gt (Heap.lt_size (Heap.get?_push_of_some _ e2)))]
  exact Heap.get?_push_of_some _ (Heap.get?_push_of_some _ e2)
theorem ascii_end_hot {it : Addr} {x : Str} {t : Tok} {i : Nat} {Q : Option Value → Shared → Prop} {x1 : Addr} (hot : HotAt A x1 s.heap) (hne1 : x1 ≠ it)
    (hit : s.heap.IsStrIter it "str_ascii_iterator" x t i) (hx : x.cps[i]? = none)
    (hQ : ∀ h', Heap.ExtBut it s.heap h' → Q none { s with heap := h' }) : wpAny (model prog w) A (pyNext (.ref it)) Q E s := by
  obtain ⟨hh, o1, vs1, h1, d1, c1⟩ := hot
  obtain ⟨o, ho, hc, hd⟩ := id hit
  unfold pyNext
  refine wpAny_bind (wpAny_attempt (wpAny_callSpecial?_slot (name := Str.ofString "__next__") hit.typeIs F.slot_str_ascii_iterator_next
    (wpAny_call_entry F.slot_str_ascii_iterator_next hit.typeIs F.entry_str_ascii_iterator_next ?_ (F.args_str_ascii_iterator_next_1 _))))
  show wpAny _ _ (field (.ref it) 0 >>= _) _ _ s
  refine wpAny_bind (wpAny_field ho hd (x := .str x t) rfl ?_)
  show wpAny _ _ (field (.ref it) 1 >>= _) _ _ s
  refine wpAny_bind (wpAny_field ho hd (x := .int i 0) rfl ?_)
  simp only [Int.toNat_natCast, hx]
  refine wpAny_bind (wpAny_rule (wpAny_bind (wpAny_setField ho hd (by simp) (wpAny_bind (wpAny_letGo ?_)))))
  show wpAny _ _ (newExc (.type "StopIteration") [] >>= _) _ _ _
  refine wpAny_bind ?_
  simp only [newExc, newTuple]
  refine wpAny_bind (wpAny_newObj_type ?_ (by size_fits))
  refine wpAny_bind (m := firstArgMember _ _) (wpAny_of_eq (a := Value.none) (by first | rfl | (simp only [firstArgMember]; rfl)) ?_)
  refine wpAny_newObj_type ?_ (by size_fits)
  have h1' : (s.heap.update it (Obj.mapFields (·.setIfInBounds 0 Value.none))).get? x1 = some o1 := (Heap.get?_update_other _ _ (fun e => hne1 e.symm)).trans h1
  refine raiseNew_hot ⟨hh, o1, vs1, Heap.get?_push_of_some _ (Heap.get?_push_of_some _ h1'), d1, c1⟩ (Nat.ne_of_lt (Heap.lt_size (Heap.get?_push_of_some _ h1'))) (Heap.get?_push_size _ rfl) rfl (by first | (simp; done) | (simp; omega) | (simp only [Array.size_append]; simp; omega)) ?_
  refine wpAny_bind (wpAny_isInstance (T := "StopIteration") (b := true) ⟨_, Heap.get?_update_self _ (Heap.get?_push_size _ rfl) rfl, rfl⟩ isSubtype_stop ?_)
  refine wpAny_pure (hQ _ fun b o hb e => ?_)
  have e2 : (s.heap.update it (Obj.mapFields (·.setIfInBounds 0 Value.none))).get? b = some o := (Heap.get?_update_other _ _ (Ne.symm hb)).trans e
  rw [Heap.get?_update_other _ _ (Nat.ne_of_gt (Heap.lt_size (Heap.get?_push_of_some _ e2)))]
  exact Heap.get?_push_of_some _ (Heap.get?_push_of_some _ e2)
theorem wide_end_hot {it : Addr} {x : Str} {t : Tok} {i : Nat} {Q : Option Value → Shared → Prop} {x1 : Addr} (hot : HotAt A x1 s.heap) (hne1 : x1 ≠ it)
    (hit : s.heap.IsStrIter it "str_iterator" x t i) (hx : x.cps[i]? = none)
    (hQ : ∀ h', Heap.ExtBut it s.heap h' → Q none { s with heap := h' }) : wpAny (model prog w) A (pyNext (.ref it)) Q E s := by
  obtain ⟨hh, o1, vs1, h1, d1, c1⟩ := hot
  obtain ⟨o, ho, hc, hd⟩ := id hit
  unfold pyNext
  refine wpAny_bind (wpAny_attempt (wpAny_callSpecial?_slot (name := Str.ofString "__next__") hit.typeIs F.slot_str_iterator_next
    (wpAny_call_entry F.slot_str_iterator_next hit.typeIs F.entry_str_iterator_next ?_ (F.args_str_iterator_next_1 _))))
  show wpAny _ _ (field (.ref it) 0 >>= _) _ _ s
  refine wpAny_bind (wpAny_field ho hd (x := .str x t) rfl ?_)
  show wpAny _ _ (field (.ref it) 1 >>= _) _ _ s
  refine wpAny_bind (wpAny_field ho hd (x := .int i 0) rfl ?_)
  simp only [Int.toNat_natCast, hx]
  refine wpAny_bind (wpAny_rule (wpAny_bind (wpAny_setField ho hd (by simp) (wpAny_bind (wpAny_letGo ?_)))))
  show wpAny _ _ (newExc (.type "StopIteration") [] >>= _) _ _ _
  refine wpAny_bind ?_
  simp only [newExc, newTuple]
  refine wpAny_bind (wpAny_newObj_type ?_ (by size_fits))
  refine wpAny_bind (m := firstArgMember _ _) (wpAny_of_eq (a := Value.none) (by first | rfl | (simp only [firstArgMember]; rfl)) ?_)
  refine wpAny_newObj_type ?_ (by size_fits)
  have h1' : (s.heap.update it (Obj.mapFields (·.setIfInBounds 0 Value.none))).get? x1 = some o1 := (Heap.get?_update_other _ _ (fun e => hne1 e.symm)).trans h1
  refine raiseNew_hot ⟨hh, o1, vs1, Heap.get?_push_of_some _ (Heap.get?_push_of_some _ h1'), d1, c1⟩ (Nat.ne_of_lt (Heap.lt_size (Heap.get?_push_of_some _ h1'))) (Heap.get?_push_size _ rfl) rfl (by first | (simp; done) | (simp; omega) | (simp only [Array.size_append]; simp; omega)) ?_
  refine wpAny_bind (wpAny_isInstance (T := "StopIteration") (b := true) ⟨_, Heap.get?_update_self _ (Heap.get?_push_size _ rfl) rfl, rfl⟩ isSubtype_stop ?_)
  refine wpAny_pure (hQ _ fun b o hb e => ?_)
  have e2 : (s.heap.update it (Obj.mapFields (·.setIfInBounds 0 Value.none))).get? b = some o := (Heap.get?_update_other _ _ (Ne.symm hb)).trans e
  rw [Heap.get?_update_other _ _ (Nat.ne_of_gt (Heap.lt_size (Heap.get?_push_of_some _ e2)))]
  exact Heap.get?_push_of_some _ (Heap.get?_push_of_some _ e2)
end
theorem HotC.ne {X : Cx} {pins : List (Addr × Obj)} {σ : St} {H : Hp} {s : Shared} {it : Addr} (c : HotC X) (I : Inv X pins σ H s) (f : FpOk X pins H it) : ∃ x1, HotAt X.A x1 s.heap ∧ x1 ≠ it := by
  obtain ⟨p, ⟨hh, v1, e1, c1⟩, hp⟩ := c
  exact ⟨p.1, ⟨hh, p.2, v1, (I.pin p (List.mem_append_left _ hp)).1, e1, c1⟩, f.2.2.2.2.2 p (List.mem_append_left _ hp)⟩
theorem turn_listH {P : Program} {w : World} {K : PySem.W.Frag} {tg : Expr} (a it : Addr) : TurnH P w K tg (Itl K a) [it] it (fun i h => h.IsListIter it a i) where
  mem := by simp
  obj := fun i h st b hb => by
    have e : b = it := by simpa using hb
    subst e
    obtain ⟨o, e, c, d⟩ := st
    exact ⟨o, e, fun v z => by rw [d] at z; cases z⟩
  keep := fun i h h' st k => st.at fun o e => k it (by simp) o e
  item := by
    intro X hP hw hK hc i pins s σ H E I hf st hg
    subst hP hw hK
    obtain ⟨xs, x, hq, hx⟩ := hg
    obtain ⟨its, rv, p, hz⟩ := I.list hq
    obtain ⟨u, hu, ru⟩ := rv.get hx
    obtain ⟨f0, f1, f2, f3, f4, f5⟩ := hf it (by simp)
    refine wpAny_pyNext_list_item st p.isList (x := u) (by simpa using hu) fun h' st' sb => ?_
    have I1 : Inv X pins σ H { s with heap := h' } := I.turned (t' := s.toks) (fun b o hb e => (sb.2 b hb).trans e) f0 f1 f3 f4 f5
    obtain ⟨o, e, c, d⟩ := id st'
    exact ⟨u, rfl, go_of (s := { s with heap := h' }) e c d (by decide) ⟨x, H, I1, ru, ⟨rfl, fun ys hy => by rw [I.list_inj hy hq]; exact hx⟩, st', fun b hb => (hf b hb).1⟩⟩
  done := by
    intro X hP hw hK hc i pins s σ H E I hf st hg
    subst hP hw hK
    obtain ⟨xs, hq, hx⟩ := hg
    obtain ⟨its, rv, p, hz⟩ := I.list hq
    obtain ⟨f0, f1, f2, f3, f4, f5⟩ := hf it (by simp)
    have hl := rv.length
    obtain ⟨x1, hot, hn1⟩ := hc.ne I (hf it (by simp))
    exact list_end_hot hot hn1 st p.isList (by simp; omega) fun h' eb => ⟨rfl, I.turned (t' := s.toks) (fun b o hb e => eb b o hb e) f0 f1 f3 f4 f5⟩
  self := fun _ _ _ _ _ st h => wpAny_pyIter_listiter st h
theorem turn_tupleH {P : Program} {w : World} {K : PySem.W.Frag} {tg : Expr} (a it : Addr) : TurnH P w K tg (Itt K a) [it] it (fun i h => h.IsTupleIter it a i) where
  mem := by simp
  obj := fun i h st b hb => by
    have e : b = it := by simpa using hb
    subst e
    obtain ⟨o, e, c, d⟩ := st
    exact ⟨o, e, fun v z => by rw [d] at z; cases z⟩
  keep := fun i h h' st k => st.at fun o e => k it (by simp) o e
  item := by
    intro X hP hw hK hc i pins s σ H E I hf st hg
    subst hP hw hK
    obtain ⟨xs, x, hq, hx⟩ := hg
    obtain ⟨its, rv, p, hz⟩ := I.tuple hq
    obtain ⟨u, hu, ru⟩ := rv.get hx
    obtain ⟨f0, f1, f2, f3, f4, f5⟩ := hf it (by simp)
    refine wpAny_pyNext_tuple_item st (show s.heap.IsTuple a its.toArray from p) (x := u) (by simpa using hu) fun h' st' sb => ?_
    have I1 : Inv X pins σ H { s with heap := h' } := I.turned (t' := s.toks) (fun b o hb e => (sb.2 b hb).trans e) f0 f1 f3 f4 f5
    obtain ⟨o, e, c, d⟩ := id st'
    exact ⟨u, rfl, go_of (s := { s with heap := h' }) e c d (by decide) ⟨x, H, I1, ru, ⟨rfl, fun ys hy => by rw [I.tuple_inj hy hq]; exact hx⟩, st', fun b hb => (hf b hb).1⟩⟩
  done := by
    intro X hP hw hK hc i pins s σ H E I hf st hg
    subst hP hw hK
    obtain ⟨xs, hq, hx⟩ := hg
    obtain ⟨its, rv, p, hz⟩ := I.tuple hq
    obtain ⟨f0, f1, f2, f3, f4, f5⟩ := hf it (by simp)
    have hl := rv.length
    obtain ⟨x1, hot, hn1⟩ := hc.ne I (hf it (by simp))
    exact tuple_end_hot hot hn1 st (show s.heap.IsTuple a its.toArray from p) (by simp; omega) fun h' eb => ⟨rfl, I.turned (t' := s.toks) (fun b o hb e => eb b o hb e) f0 f1 f3 f4 f5⟩
  self := fun _ _ _ _ _ st h => wpAny_pyIter_tupleiter st h
theorem turn_strH {P : Program} {w : World} {K : PySem.W.Frag} {tg : Expr} (it : Addr) (x : Str) (t : Tok) (ty : String) (hty : ty = "str_ascii_iterator" ∨ ty = "str_iterator") :
    TurnH P w K tg (Its x) [it] it (fun i h => h.IsStrIter it ty x t i) where
  mem := by simp
  obj := fun i h st b hb => by
    have e : b = it := by simpa using hb
    subst e
    obtain ⟨o, e, c, d⟩ := st
    exact ⟨o, e, fun v z => by rw [d] at z; cases z⟩
  keep := fun i h h' st k => let ⟨o, ho, r⟩ := st; ⟨o, k it (by simp) o ho, r⟩
  item := by
    intro X hP hw hK hc i pins s σ H E I hf st hg
    subst hP hw hK
    obtain ⟨f0, f1, f2, f3, f4, f5⟩ := hf it (by simp)
    have hno : ["enumerate", "zip", "dict_itemiterator", "dict_reverseitemiterator", "odict_iterator", "itertools.zip_longest", "itertools.pairwise"].contains ty = false := by
      rcases hty with e | e
      · rw [e]; decide
      · rw [e]; decide
    have hg' : i < x.cps.size := hg
    obtain ⟨c, hcx⟩ : ∃ c, x.cps[i]? = some c := ⟨_, Array.getElem?_eq_getElem hg'⟩
    rcases hty with e0 | e0
    · subst e0
      refine wpAny_pyNext_ascii_item st hcx fun h' st' sb => ?_
      have I1 : Inv X pins σ H { s with heap := h', toks := s.toks + 1 } := I.turned (fun b o hb e => (sb.2 b hb).trans e) f0 f1 f3 f4 f5
      obtain ⟨oi, e, cc, dd⟩ := id st'
      exact ⟨_, rfl, go_of (s := { s with heap := h', toks := s.toks + 1 }) e cc dd hno ⟨.str ⟨#[c]⟩, H, I1, ⟨s.toks, rfl⟩, ⟨rfl, _, hcx, rfl⟩, st', fun b hb => (hf b hb).1⟩⟩
    · subst e0
      refine wpAny_pyNext_wide_item st hcx fun h' st' sb => ?_
      have I1 : Inv X pins σ H { s with heap := h', toks := s.toks + 1 } := I.turned (fun b o hb e => (sb.2 b hb).trans e) f0 f1 f3 f4 f5
      obtain ⟨oi, e, cc, dd⟩ := id st'
      exact ⟨_, rfl, go_of (s := { s with heap := h', toks := s.toks + 1 }) e cc dd hno ⟨.str ⟨#[c]⟩, H, I1, ⟨s.toks, rfl⟩, ⟨rfl, _, hcx, rfl⟩, st', fun b hb => (hf b hb).1⟩⟩
  done := by
    intro X hP hw hK hc i pins s σ H E I hf st hg
    subst hP hw hK
    obtain ⟨f0, f1, f2, f3, f4, f5⟩ := hf it (by simp)
    have hx : x.cps[i]? = none := Array.getElem?_eq_none hg
    obtain ⟨x1, hot, hn1⟩ := hc.ne I (hf it (by simp))
    rcases hty with e | e
    · rw [e] at st
      exact ascii_end_hot hot hn1 st hx fun h' eb => ⟨rfl, I.turned (t' := s.toks) (fun b o hb e => eb b o hb e) f0 f1 f3 f4 f5⟩
    · rw [e] at st
      exact wide_end_hot hot hn1 st hx fun h' eb => ⟨rfl, I.turned (t' := s.toks) (fun b o hb e => eb b o hb e) f0 f1 f3 f4 f5⟩
  self := fun A i s Q E st h => by
    rcases hty with e | e
    · rw [e] at st; exact wpAny_pyIter_striter_ascii st h
    · rw [e] at st; exact wpAny_pyIter_striter_wide st h
section
variable {X : Cx} {tg : Expr}
theorem pi_listH {l : Expr} {tl : TE} (hl : PE X l tl) : PIH X tg l (iList X.K tl) := by
  refine ⟨fun pins s σ H R I h => ?_⟩
  refine thn (hl.run pins s σ H _ I h) fun v s1 ⟨x, H1, I1, r1, q1⟩ => ?_
  obtain ⟨a, e, ⟨xs, hq⟩, q⟩ := q1
  subst e
  cases r1
  obtain ⟨its, rv, p, hz⟩ := I1.list hq
  refine wpAny_pyIter_list p.isList ?_
  refine ⟨s1.heap.objs.size, [s1.heap.objs.size], _, _, H1, rfl, I1.kept (t' := s1.toks) fun b o e => Heap.get?_push_of_some _ e, turn_listH a _, ⟨_, Heap.get?_push_size _ rfl, rfl, rfl⟩, fun b hb => ?_, q⟩
  have e : b = s1.heap.objs.size := by simpa using hb
  subst e
  exact I1.fpOk (Nat.le_refl _) (I1.hok.fresh (Nat.le_refl _))
theorem pi_tupH {l : Expr} {tl : TE} (hl : PE X l tl) : PIH X tg l (iTup X.K tl) := by
  refine ⟨fun pins s σ H R I h => ?_⟩
  refine thn (hl.run pins s σ H _ I h) fun v s1 ⟨x, H1, I1, r1, q1⟩ => ?_
  obtain ⟨a, e, ⟨xs, hq⟩, q⟩ := q1
  subst e
  cases r1
  obtain ⟨its, rv, p, hz⟩ := I1.tuple hq
  refine wpAny_pyIter_tuple (show s1.heap.IsTuple a its.toArray from p) ?_
  refine ⟨s1.heap.objs.size, [s1.heap.objs.size], _, _, H1, rfl, I1.kept (t' := s1.toks) fun b o e => Heap.get?_push_of_some _ e, turn_tupleH a _, ⟨_, Heap.get?_push_size _ rfl, rfl, rfl⟩, fun b hb => ?_, q⟩
  have e : b = s1.heap.objs.size := by simpa using hb
  subst e
  exact I1.fpOk (Nat.le_refl _) (I1.hok.fresh (Nat.le_refl _))
theorem pi_oneH {pins : List (Addr × Obj)} {σ : St} {H : Hp} {s : Shared} {R : It → Hp → Prop} {J : It} {tn : Nat → Heap → Prop} {tk : Nat} (I : Inv X pins σ H s) (o : Obj)
    (T : TurnH X.prog X.w X.K tg J [s.heap.objs.size] s.heap.objs.size tn) (st : tn 0 (s.heap.push o)) (q : R J H) : PIEH X pins σ tg R (.ref s.heap.objs.size) { s with heap := s.heap.push o, toks := tk } := by
  refine ⟨s.heap.objs.size, [s.heap.objs.size], tn, J, H, rfl, I.kept fun b ob e => Heap.get?_push_of_some _ e, T, st, fun b hb => ?_, q⟩
  have e : b = s.heap.objs.size := by simpa using hb
  subst e
  exact I.fpOk (Nat.le_refl _) (I.hok.fresh (Nat.le_refl _))
theorem pi_strH {e : Expr} {te : TE} (he : PE X e te) : PIH X tg e (iStr te) := by
  refine ⟨fun pins s σ H R I h => ?_⟩
  refine thn (he.run pins s σ H _ I h) fun v s1 ⟨y, H1, I1, r1, x, ex, q⟩ => ?_
  subst ex
  obtain ⟨t, rfl⟩ := r1
  cases ha : x.cps.all (· < 128)
  · exact wpAny_pyIter_wide ha (pi_oneH (tk := s1.toks) I1 _ (turn_strH _ x t "str_iterator" (.inr rfl)) ⟨_, Heap.get?_push_size _ rfl, rfl, rfl⟩ q)
  · exact wpAny_pyIter_ascii ha (pi_oneH (tk := s1.toks) I1 _ (turn_strH _ x t "str_ascii_iterator" (.inl rfl)) ⟨_, Heap.get?_push_size _ rfl, rfl, rfl⟩ q)
end
theorem RoomH.units {k : Nat} {A : Around} (r : RoomH k A) : A.units + 64 < cLine := by have := r.un; omega
section
variable {P : Program} {w : World} {K : PySem.W.Frag} {mg : Str → Option Value} {base : Heap}
theorem okH {x qual : Str} {st : Stmt} {f : Addr} {fd : FuncData} {N ps : List Str} {k : Nat} {sp : Sp} (F : Fun K x qual st f fd) (S : FnScope N ps (defScope st)) (len : ∀ vs H Q E, sp vs H Q E → vs.length = ps.length)
    (hbody : ∀ (cdv : Value) (A : Around) (outer : List Env) (s : Shared) (H : Hp) (vs : List V) (Q : VK) (E : XK) (p : Addr × Obj), HotC (cxH CX0 P w K mg base N qual (defScope st) f cdv A outer s H E p) → RoomH k (A.deeper (envOfC qual (defScope st) s.heap.objs.size f cdv)) → sp vs H Q E →
      ∃ t, PSs (cxH CX0 P w K mg base N qual (defScope st) f cdv A outer s H E p).nox (defBody st) t ∧ t { nx := fun _ H' => Q .non H', rt := Q } (L2.start N vs) H) : FnH P w K mg base CX0 (k + 1) f fd ps sp := by
  obtain ⟨oc, od, kV, doc, pm, an, cdv, ct, osl, rfl, lk, hcd⟩ := F.ex
  refine fn_ofH lk hcd S len fun A outer s H vs Q E p hot hr hsp => ?_
  obtain ⟨t, h, q⟩ := hbody cdv A outer s H vs Q E p ⟨p, ⟨hot.1, hot.2⟩, List.mem_singleton.mpr rfl⟩ hr hsp
  exact ⟨t, h.nox, q⟩
end
/-- such a def as its callers see it -/
def CalH (P : Program) (w : World) (K : PySem.W.Frag) (mg : Str → Option Value) (base : Heap) (x : Str) (k : Nat) (sp : Sp) : Prop :=
  ∃ (f : Addr) (fd : FuncData) (ps : List Str), FnH P w K mg base CX0 k f fd ps sp ∧ Binds K fd ps [] ∧ mg x = some (.ref f) ∧ PySem.W.keepIn K (.ref f) = true
theorem pe_calH {X : Cx} {x : Str} {k : Nat} {sp : Sp} {e : Expr} {es : List Expr} {t : TA} {p pos : Pos} (C : CalH X.prog X.w X.K X.mg X.base x k sp) (hr : RoomH k X.A) (hc : HotC X) (hg : Gl X x) (ha : PA X (e :: es) t)
    (hdb : (x == ("__debug__" : Str)) = false := by decide) (he : starEach (e :: es) X.env = (false, eval e X.env) :: starEach es X.env := by rfl) (hpl : (backTo pos (starEach es X.env)).any (·.1) = false := by rfl) :
    PE X (.Call (.Name x p) (e :: es) [] pos) (tCallS sp (fun _ => E0) t) := by
  obtain ⟨f, fd, ps, F, b, g, kp⟩ := C
  exact pe_callH F hr hc hg g kp b (fun σ pins H s e s' I c => pass0 pins σ H s e s' I c) ha hdb he hpl
end L2H

/-! the law's own defs, called while an error is handled -/
namespace Kx
open PySem PySem.Spec PyProof.Rows L2 NdefX Kr Ke Ks Kn
theorem fnh_imp {P : Program} {w : World} {K : PySem.W.Frag} {mg : Str → Option Value} {base : Heap} {CX : CXT} {k : Nat} {f : Addr} {fd : FuncData} {ps : List Str} {sp sp' : Sp} (F : L2H.FnH P w K mg base CX k f fd ps sp) (h : ∀ vs H Q E, sp' vs H Q E → sp vs H Q E) : L2H.FnH P w K mg base CX k f fd ps sp' :=
  ⟨fun vs H Q E x => F.len vs H Q E (h vs H Q E x), fun A outer s H args us vs Q E p hr hot hp e0 hb r x => F.run A outer s H args us vs Q E p hr hot hp e0 hb r (h vs H Q E x)⟩
theorem fnh_or {P : Program} {w : World} {K : PySem.W.Frag} {mg : Str → Option Value} {base : Heap} {CX : CXT} {k : Nat} {f : Addr} {fd : FuncData} {ps : List Str} {sp sp' : Sp} (F : L2H.FnH P w K mg base CX k f fd ps sp) (F' : L2H.FnH P w K mg base CX k f fd ps sp') :
    L2H.FnH P w K mg base CX k f fd ps (fun vs H Q E => sp vs H Q E ∨ sp' vs H Q E) :=
  ⟨fun vs H Q E h => h.elim (F.len vs H Q E) (F'.len vs H Q E), fun A outer s H args us vs Q E p hr hot hp e0 hb r h => h.elim (F.run A outer s H args us vs Q E p hr hot hp e0 hb r) (F'.run A outer s H args us vs Q E p hr hot hp e0 hb r)⟩
section
variable {P : Program} {w : World} {K : PySem.W.Frag} {mg : Str → Option Value} {base : Heap}
theorem okh_lname {f : Addr} {fd : FuncData} (F : Fun K "_law_is_name" "_law_is_name" s_lname f fd) (T : TxS mg) : L2H.FnH P w K mg base CX0 1 f fd ["_law_part"] spName := by
  refine L2H.okH F sc_lname (fun vs H Q E h => ?_) (fun cdv A outer s H vs Q E pH hot hr h => ?_)
  · obtain ⟨z, rfl, _⟩ := h
    rfl
  · obtain ⟨z, rfl, hz, q⟩ := h
    have hsz : z.length ≤ sizeLine := sz9 (by omega)
    have hlen : z.cps.toList.length = z.length := Array.length_toList
    refine ⟨_, (pss_cons (ps_if (PW.pt (pw_or (pt_not (pt_val (pe_callB call_isi (by rfl) T.m_isinstance (by decide +kernel) (pa_cons (pv 0) (pa_cons (pe_bltn (v := .ty "str") (by rfl) T.m_str (by decide +kernel) rfl) pa_nil))))) (pw_or (pt_cmpR op_lt (pe_callB call_len_str (by rfl) T.m_len (by decide +kernel) (pa_cons (pv 0) pa_nil)) pe_int (nomark _)) (pw_or1 (pt_cmpR op_gt (pe_callB call_len_str (by rfl) T.m_len (by decide +kernel) (pa_cons (pv 0) pa_nil)) pe_int (nomark _))))))
        (pss_one (ps_ret pe_bl))
        pss_nil)
      (pss_cons (L2H.ps_forH PassesOwn.never hot (L2H.pi_range1H (by rfl) T.m_range (pa_cons (pe_callB call_len_str (by rfl) T.m_len (by decide +kernel) (pa_cons (pv 0) pa_nil)) pa_nil)) (pg_name (i := 1) sc_lname.nd rfl (Or.inl rfl))
        (pss_one (ps_if (pt_cmpR op_notIn_sign (pe_ix ix_str (pv 0) (pv 1) (fun _ _ => rfl)) pe_str rfl)
          (pss_one (ps_if (PW.pt (pw_or (pt_cmpR op_eq (pv 1) pe_int (nomark _)) (pw_or1 (pt_cmpR op_notIn_sign (pe_ix ix_str (pv 0) (pv 1) (fun _ _ => rfl)) pe_str rfl))))
            (pss_one (ps_ret pe_bl))
            pss_nil))
          pss_nil)))
      (pss_one (ps_ret pe_bl)))), ?_⟩
    have bad : nameB z = false → Q (.bl false) H := fun e => e ▸ q H (Same.refl H)
    refine ⟨_, rfl, .str z, .ty "str", .type "str", .type "str", true, rfl, .ty "str", .base (.str z), kit_ty (by decide +kernel), _, rfl, iteF ?_⟩
    refine ⟨_, rfl, z, rfl, hsz, _, _, rfl, rfl, _, rfl, iteB (fun h1 => iteT ?_) (fun h1 => ?_)⟩
    · refine bad ?_
      have := of_decide_eq_true h1
      unfold nameB okN
      rw [decide_eq_false (show ¬ 1 ≤ z.cps.toList.length by omega)]
      rfl
    refine ⟨_, rfl, z, rfl, hsz, _, _, rfl, rfl, _, rfl, iteB (fun h2 => ?_) (fun h2 => ?_)⟩
    · refine bad ?_
      have := of_decide_eq_true h2
      unfold nameB okN
      rw [decide_eq_false (show ¬ z.cps.toList.length ≤ 8 by omega)]
      simp
    have h1' := of_decide_eq_false h1
    have h2' := of_decide_eq_false h2
    have eN : nameB z = _ := okN_iff z.cps.toList (by omega) (by omega)
    refine ⟨_, rfl, z, rfl, hsz, _, rfl, by omega, by omega, ?_⟩
    refine for_range (lo := 0) (n := ((z.length : Nat) : Int).toNat) (fun i σ H1 => ∃ x1, σ = [some (.str z), x1] ∧ H1 = H ∧ ∀ j c, j < i → z.cps.toList[j]? = some c → (inL c || inD c) = true ∧ (j = 0 → inL c = true))
      ⟨none, rfl, rfl, fun j c hj => absurd hj (Nat.not_lt_zero _)⟩ ?_ ?_
    · rintro i σ H1 hi ⟨x1, rfl, rfl, hok⟩
      have hil : i < z.cps.toList.length := by omega
      obtain ⟨c, hc⟩ : ∃ c, z.cps.toList[i]? = some c := ⟨_, List.getElem?_eq_getElem hil⟩
      have hat : atI z.cps.toList ((0 : Int) + (i : Int)) = some c := by rw [Int.zero_add]; exact atI_nat hc
      have good : (inL c || inD c) = true → (i = 0 → inL c = true) → ∀ j d, j < i + 1 → z.cps.toList[j]? = some d → (inL d || inD d) = true ∧ (j = 0 → inL d = true) := fun a b j d hj hd => by
        by_cases e : j = i
        · subst e
          rw [hc] at hd
          cases hd
          exact ⟨a, b⟩
        · exact hok j d (by omega) hd
      refine ⟨_, rfl, _, rfl, z, _, c, rfl, rfl, hsz, hat, c, LET, rfl, rfl, _, rfl, iteB (fun h3 => ?_) (fun h3 => ?_)⟩
      · have e3 : inL c = false := by simpa using h3
        refine ⟨_, rfl, rfl, _, rfl, iteB (fun h4 => iteT ?_) (fun h4 => ?_)⟩
        · have h4' : (0 : Int) + (i : Int) = 0 := V.int.inj (of_decide_eq_true h4)
          refine bad ?_
          have ei : i = 0 := by omega
          subst ei
          have hh : z.cps.toList.headD 0 = c := by
            cases hl : z.cps.toList with
            | nil => rw [hl] at hc; simp at hc
            | cons a r => rw [hl] at hc; exact Option.some.inj hc
          rw [eN, hh, e3]
          rfl
        · have h4' : ¬ (i = 0) := fun e => by
            have := of_decide_eq_false h4
            subst e
            exact this rfl
          refine ⟨_, rfl, _, rfl, z, _, c, rfl, rfl, hsz, hat, c, DIG, rfl, rfl, _, rfl, iteB (fun h5 => ?_) (fun h5 => ?_)⟩
          · have e5 : inD c = false := by simpa using h5
            refine bad ?_
            rw [eN]
            have : (z.cps.toList.all fun c => inL c || inD c) = false := by
              rw [List.all_eq_false]
              refine ⟨c, List.mem_of_getElem? hc, ?_⟩
              rw [e3, e5]
              simp
            rw [this, Bool.and_false]
          · have e5 : inD c = true := by simpa using h5
            exact ⟨_, rfl, rfl, good (by rw [e5, Bool.or_true]) fun e => absurd e h4'⟩
      · have e3 : inL c = true := by simpa using h3
        exact ⟨_, rfl, rfl, good (by rw [e3]; rfl) fun _ => e3⟩
    · rintro σ H1 ⟨x1, rfl, rfl, hok⟩
      have e : nameB z = true := by
        rw [eN, Bool.and_eq_true]
        constructor
        · have h0 : 0 < z.cps.toList.length := by omega
          have hh : z.cps.toList.headD 0 = z.cps.toList[0] := by
            rw [List.headD_eq_head?_getD, List.head?_eq_getElem?, List.getElem?_eq_getElem h0]
            rfl
          rw [hh]
          exact (hok 0 _ (by omega) (List.getElem?_eq_getElem h0)).2 rfl
        · rw [List.all_eq_true]
          intro c hc
          obtain ⟨j, hj, e⟩ := List.mem_iff_getElem.mp hc
          exact (hok j c (by omega) (e ▸ List.getElem?_eq_getElem hj)).1
      exact e ▸ q H1 (Same.refl H1)
theorem okh_lname2 {f : Addr} {fd : FuncData} (F : Fun K "_law_is_name" "_law_is_name" s_lname f fd) (T : TxS mg) : L2H.FnH P w K mg base CX0 1 f fd ["_law_part"] (spPt nmP) := by
  have A1 := okh_lname (P := P) (w := w) (base := base) F T
  have A2 : L2H.FnH P w K mg base CX0 1 f fd ["_law_part"] (fun vs H Q _ => ∃ (a : Addr) (zs : List Str), vs = [.ref a] ∧ H a = some (.tup (zs.map V.str)) ∧ Q (.bl false) H) := by
    refine L2H.okH F sc_lname (fun vs H Q E h => ?_) (fun cdv A outer s H vs Q E pH hot hr h => ?_)
    · obtain ⟨a, zs, rfl, _⟩ := h
      rfl
    · obtain ⟨a, zs, rfl, ha, q⟩ := h
      refine ⟨_, (pss_cons (ps_if (PW.pt (pw_or (pt_not (pt_val (pe_callB call_isi (by rfl) T.m_isinstance (by decide +kernel) (pa_cons (pv 0) (pa_cons (pe_bltn (v := .ty "str") (by rfl) T.m_str (by decide +kernel) rfl) pa_nil))))) (pw_or (pt_cmpR op_lt (pe_callB call_len_str (by rfl) T.m_len (by decide +kernel) (pa_cons (pv 0) pa_nil)) pe_int (nomark _)) (pw_or1 (pt_cmpR op_gt (pe_callB call_len_str (by rfl) T.m_len (by decide +kernel) (pa_cons (pv 0) pa_nil)) pe_int (nomark _))))))
        (pss_one (ps_ret pe_bl))
        pss_nil)
      (pss_cons (L2H.ps_forH PassesOwn.never hot (L2H.pi_range1H (by rfl) T.m_range (pa_cons (pe_callB call_len_str (by rfl) T.m_len (by decide +kernel) (pa_cons (pv 0) pa_nil)) pa_nil)) (pg_name (i := 1) sc_lname.nd rfl (Or.inl rfl))
        (pss_one (ps_if (pt_cmpR op_notIn_sign (pe_ix ix_str (pv 0) (pv 1) (fun _ _ => rfl)) pe_str rfl)
          (pss_one (ps_if (PW.pt (pw_or (pt_cmpR op_eq (pv 1) pe_int (nomark _)) (pw_or1 (pt_cmpR op_notIn_sign (pe_ix ix_str (pv 0) (pv 1) (fun _ _ => rfl)) pe_str rfl))))
            (pss_one (ps_ret pe_bl))
            pss_nil))
          pss_nil)))
      (pss_one (ps_ret pe_bl)))), ?_⟩
      exact ⟨_, rfl, .ref a, .ty "str", .type "tuple", .type "str", false, rfl, .ty "str", .base (.tup ha), kit_ty (by decide +kernel), _, rfl, iteT q⟩
  refine fnh_imp (fnh_or A1 A2) fun vs H Q E h => ?_
  obtain ⟨x, p, rfl, hp, ho, q⟩ := h
  cases p with
  | s z =>
    cases (show x = V.str z from hp)
    have h1 := ho.1
    exact .inl ⟨z, rfl, by omega, q⟩
  | t zs =>
    obtain ⟨a, rfl, ha⟩ := hp
    exact .inr ⟨a, zs, rfl, ha, q H (Same.refl H)⟩
theorem okh_lstep {f : Addr} {fd : FuncData} (F : Fun K "_law_is_step" "_law_is_step" s_lstep f fd) (T : TxS mg) (C_is_name : L2H.CalH P w K mg base "_law_is_name" 1 (spPt nmP)) : L2H.FnH P w K mg base CX0 2 f fd ["_law_step"] (spStp stepB) := by
  refine L2H.okH F sc_lstep (fun vs H Q E h => ?_) (fun cdv A outer s H vs Q E pH hot hr h => ?_)
  · obtain ⟨a, ps, rfl, _⟩ := h
    rfl
  · obtain ⟨a, ps, rfl, hst, ho, hl, q⟩ := h
    refine ⟨_, (pss_cons (ps_if (PW.pt (pw_or (pt_cmpR op_lt (pe_callB call_len_seq (by rfl) T.m_len (by decide +kernel) (pa_cons (pv 0) pa_nil)) pe_int (nomark _)) (pw_or1 (pt_not (pt_val (L2H.pe_calH C_is_name (hr.mono (by decide)) hot (by rfl) (pa_cons (pe_ix ix_tup (pv 0) pe_int (fun _ _ => rfl)) pa_nil)))))))
        (pss_one (ps_ret pe_bl))
        pss_nil)
      (pss_cons (ps_if (PW.pt (pw_or (pt_cmpR (op_eqD hr.units) (pe_ix ix_tup (pv 0) pe_int (fun _ _ => rfl)) pe_str (nomark _)) (pw_or1 (pt_cmpR (op_eqD hr.units) (pe_ix ix_tup (pv 0) pe_int (fun _ _ => rfl)) pe_str (nomark _)))))
        (pss_one (ps_ret (pe_cmpR op_eq (pe_callB call_len_seq (by rfl) T.m_len (by decide +kernel) (pa_cons (pv 0) pa_nil)) pe_int (nomark _))))
        pss_nil)
      (pss_cons (ps_if (pt_cmpR (op_eqD hr.units) (pe_ix ix_tup (pv 0) pe_int (fun _ _ => rfl)) pe_str (nomark _))
        (pss_one (ps_ret (pe_and (pe_cmpR op_eq (pe_callB call_len_seq (by rfl) T.m_len (by decide +kernel) (pa_cons (pv 0) pa_nil)) pe_int (nomark _)) (pe_one (L2H.pe_calH C_is_name (hr.mono (by decide)) hot (by rfl) (pa_cons (pe_ix ix_tup (pv 0) pe_int (fun _ _ => rfl)) pa_nil))))))
        pss_nil)
      (pss_cons (ps_if (PW.pt (pw_or (pt_cmpR (op_neD hr.units) (pe_ix ix_tup (pv 0) pe_int (fun _ _ => rfl)) pe_str (nomark _)) (pw_or (pt_cmpR op_ne (pe_callB call_len_seq (by rfl) T.m_len (by decide +kernel) (pa_cons (pv 0) pa_nil)) pe_int (nomark _)) (pw_or1 (pt_not (pt_val (pe_callB call_isi (by rfl) T.m_isinstance (by decide +kernel) (pa_cons (pe_ix ix_tup (pv 0) pe_int (fun _ _ => rfl)) (pa_cons (pe_bltn (v := .ty "tuple") (by rfl) T.m_tuple (by decide +kernel) rfl) pa_nil)))))))))
        (pss_one (ps_ret pe_bl))
        pss_nil)
      (pss_cons (L2H.ps_forH PassesOwn.never hot (L2H.pi_range1H (by rfl) T.m_range (pa_cons (pe_callB call_len_seq (by rfl) T.m_len (by decide +kernel) (pa_cons (pe_ix ix_tup (pv 0) pe_int (fun _ _ => rfl)) pa_nil)) pa_nil)) (pg_name (i := 1) sc_lstep.nd rfl (Or.inl rfl))
        (pss_one (ps_if (PW.pt (pw_or (pt_not (pt_val (L2H.pe_calH C_is_name (hr.mono (by decide)) hot (by rfl) (pa_cons (pe_ix ix_tup (pe_ix ix_tup (pv 0) pe_int (fun _ _ => rfl)) (pv 1) (fun _ _ => rfl)) pa_nil)))) (pw_or1 (pt_cmpR op_in_seq (pe_ix ix_tup (pe_ix ix_tup (pv 0) pe_int (fun _ _ => rfl)) (pv 1) (fun _ _ => rfl)) (pe_slice sl_tup (pe_ix ix_tup (pv 0) pe_int (fun _ _ => rfl)) po_none (po_some (pv 1))) rfl))))
          (pss_one (ps_ret pe_bl))
          pss_nil)))
      (pss_one (ps_ret pe_bl))))))), ?_⟩
    obtain ⟨xs, ha, hp⟩ := id hst
    have hT : ∀ H' : Hp, Same H H' → SqT K H' a xs := fun _ s' => .inl (.inl (s' _ _ ha))
    refine ⟨_, rfl, a, xs, rfl, .inr (hT _ (Same.refl H)), _, _, rfl, rfl, _, rfl, ?_⟩
    have hlen := hp.length
    match xs, ps, hp, hT, ho, hlen, q with
    | [], [], _, _, _, _, q => exact iteT (q H (Same.refl H))
    | [_], [_], _, _, _, _, q => exact iteT (q H (Same.refl H))
    | x0 :: x1 :: xr, w0 :: p0 :: rest, .cons h0 (.cons h1 hr'), hT, ho, hlen, q =>
      refine iteB (fun h => ?_) (fun _ => ?_)
      · have := of_decide_eq_true h
        simp only [List.length_cons] at this
        omega
      have o0 := ho w0 List.mem_cons_self
      have o1 := ho p0 (List.mem_cons_of_mem _ List.mem_cons_self)
      have hle : xr.length = rest.length := hr'.length
      refine ⟨_, rfl, a, _, 1, x1, rfl, rfl, hT _ (Same.refl H), atI_nat (j := 1) rfl, x1, p0, rfl, h1, o1, fun H1 s1 => ⟨_, rfl, iteB (fun hn => ?_) (fun hn => ?_)⟩⟩
      · have e : stepB (w0 :: p0 :: rest) = false := by
          have : nmP p0 = false := by simpa using hn
          simp only [stepB, this, Bool.false_and]
        exact e ▸ q H1 s1
      have hn' : nmP p0 = true := by simpa using hn
      have eS : stepB (w0 :: p0 :: rest) = (if (isW w0 wBegin || isW w0 wQuit) = true then decide (rest.length = 0) else if isW w0 wRead = true then decide (rest.length = 1) && nmP (rest.headD (.s wBegin)) else if isW w0 wClose = true then decide (rest.length = 1) && difP (rest.headD (.s wBegin)) else false) := by
        simp only [stepB, hn', Bool.true_and]
      have dp0 : ∀ H', Same H H' → Dp K H' x0 (pd w0) := fun H' s' => (h0.same s').dp
      have sh0 := o0.sh
      refine ⟨_, rfl, a, _, 0, x0, rfl, rfl, hT _ s1, atI_nat (j := 0) rfl, pd w0, .str wBegin, dp0 _ s1, .str _, sh0, shW _ okb, _, rfl, ?_⟩
      rw [eqv_w]
      have lenT : ∀ H', Same H H' → (SqL K H' a (x0 :: x1 :: xr) ∨ SqT K H' a (x0 :: x1 :: xr)) := fun H' s' => .inr (hT H' s')
      have fin1 : ∀ n : Nat, decide (V.int (((x0 :: x1 :: xr).length : Nat) : Int) = V.int (((n + 2 : Nat)) : Int)) = decide (rest.length = n) := fun n => by
        rw [lenI]
        have e : ((x0 :: x1 :: xr).length = n + 2) ↔ rest.length = n := by
          simp only [List.length_cons]
          omega
        by_cases h : rest.length = n
        · rw [decide_eq_true h, decide_eq_true (e.mpr h)]
        · rw [decide_eq_false h, decide_eq_false (fun z => h (e.mp z))]
      have ret0 : (isW w0 wBegin || isW w0 wQuit) = true → Q (.bl (decide (V.int (((x0 :: x1 :: xr).length : Nat) : Int) = V.int ((2 : Nat) : Int)))) H1 := fun hb => by
        rw [fin1 0]
        have e : stepB (w0 :: p0 :: rest) = decide (rest.length = 0) := by rw [eS, if_pos hb]
        rw [← e]
        exact q H1 s1
      refine iteB (fun hb => ?_) (fun hb => ?_)
      · exact ⟨_, rfl, a, _, rfl, lenT _ s1, rfl, ret0 (by rw [hb]; rfl)⟩
      refine ⟨_, rfl, a, _, 0, x0, rfl, rfl, hT _ s1, atI_nat (j := 0) rfl, pd w0, .str wQuit, dp0 _ s1, .str _, sh0, shW _ okq, _, rfl, ?_⟩
      rw [eqv_w]
      refine iteB (fun hq => ?_) (fun hq => ?_)
      · exact ⟨_, rfl, a, _, rfl, lenT _ s1, rfl, ret0 (by rw [hq, Bool.or_true])⟩
      have e1 : (isW w0 wBegin || isW w0 wQuit) = false := by rw [hb, hq]; rfl
      rw [e1, if_neg Bool.false_ne_true] at eS
      refine ⟨_, rfl, a, _, 0, x0, rfl, rfl, hT _ s1, atI_nat (j := 0) rfl, pd w0, .str wRead, dp0 _ s1, .str _, sh0, shW _ okr, _, rfl, ?_⟩
      rw [eqv_w]
      refine iteB (fun hrd => ?_) (fun hrd => ?_)
      · rw [hrd, if_pos rfl] at eS
        refine ⟨_, rfl, a, _, rfl, lenT _ s1, rfl, _, rfl, ?_⟩
        have f1 := fin1 1
        refine iteB (fun h3 => ?_) (fun h3 => ?_)
        · have h3' : rest.length = 1 := of_decide_eq_true (f1.symm.trans h3)
          match xr, rest, hr', h3' with
          | [x2], [p2], .cons h2 _, _ =>
            refine ⟨_, rfl, a, _, 2, x2, rfl, rfl, hT _ s1, atI_nat (j := 2) rfl, x2, p2, rfl, h2.same s1, ho p2 (by simp), fun H2 s2 => ?_⟩
            have e : stepB [w0, p0, p2] = nmP p2 := by rw [eS]; simp
            exact e ▸ q H2 (s1.trans s2)
        · have h3' : decide (rest.length = 1) = false := f1.symm.trans h3
          rw [h3', Bool.false_and] at eS
          exact eS ▸ q H1 s1
      rw [hrd, if_neg Bool.false_ne_true] at eS
      -- close
      refine ⟨_, rfl, a, _, 0, x0, rfl, rfl, hT _ s1, atI_nat (j := 0) rfl, pd w0, .str wClose, dp0 _ s1, .str _, sh0, shW _ okc, _, rfl, ?_⟩
      rw [eqv_w]
      refine iteB (fun hcl => ?_) (fun hcl => ?_)
      · have hcl' : isW w0 wClose = false := by simpa using hcl
        rw [hcl', if_neg Bool.false_ne_true] at eS
        exact eS ▸ q H1 s1
      have hcl' : isW w0 wClose = true := by simpa using hcl
      rw [hcl', if_pos rfl] at eS
      refine ⟨_, rfl, a, _, rfl, lenT _ s1, rfl, _, rfl, ?_⟩
      have f1 := fin1 1
      refine iteB (fun h3 => ?_) (fun h3 => ?_)
      · have h3' : decide (rest.length = 1) = false := by
          rw [← f1]
          simpa using h3
        rw [h3', Bool.false_and] at eS
        have qq := q H1 s1
        rw [eS] at qq
        exact qq
      have h3' : rest.length = 1 := of_decide_eq_true (f1.symm.trans (by simpa using h3))
      match xr, rest, hr', h3' with
      | [x2], [p2], .cons h2 _, _ =>
        have eD : stepB [w0, p0, p2] = difP p2 := by rw [eS]; simp
        cases p2 with
        | s z =>
          cases (show x2 = V.str z from h2)
          refine ⟨_, rfl, a, _, 2, _, rfl, rfl, hT _ s1, atI_nat (j := 2) rfl, .str z, .ty "tuple", .type "str", .type "tuple", false, rfl, .ty "tuple", .base (.str z), kit_ty (by decide +kernel), _, rfl, iteT ?_⟩
          have qq := q H1 s1
          rw [eD] at qq
          exact qq
        | t zs =>
          obtain ⟨b, rfl, hb⟩ := h2
          have ob : okP (.t zs) := ho (.t zs) (by simp)
          have hl20 := ob.1
          refine ⟨_, rfl, a, _, 2, _, rfl, rfl, hT _ s1, atI_nat (j := 2) rfl, .ref b, .ty "tuple", .type "tuple", .type "tuple", true, rfl, .ty "tuple", .base (.tup (s1 _ _ hb)), kit_ty (by decide +kernel), _, rfl, iteF ?_⟩
          have hB : ∀ H' : Hp, Same H H' → SqT K H' b (zs.map V.str) := fun _ s' => .inl (.inl (s' _ _ hb))
          have hlm : (zs.map V.str).length = zs.length := List.length_map _
          refine ⟨_, rfl, a, _, 2, _, rfl, rfl, hT _ s1, atI_nat (j := 2) rfl, b, _, rfl, .inr (hB _ s1), _, rfl, by rw [hlm]; omega, by rw [hlm]; omega, ?_⟩
          refine for_range (lo := 0) (n := (((zs.map V.str).length : Nat) : Int).toNat) (fun i σ H' => ∃ x1, σ = [some (.ref a), x1] ∧ Same H H' ∧ (∀ j z, j < i → zs[j]? = some z → nameB z = true) ∧ (zs.take i).Nodup)
            ⟨none, rfl, s1, fun j z hj => absurd hj (Nat.not_lt_zero _), by simp⟩ ?_ ?_
          · rintro i σ H2 hi ⟨x1', rfl, s2, hn2, hd2⟩
            rw [Int.zero_add]
            have hil : i < zs.length := by
              rw [hlm] at hi
              omega
            obtain ⟨z, hz⟩ : ∃ z, zs[i]? = some z := ⟨_, List.getElem?_eq_getElem hil⟩
            have hzm : (zs.map V.str)[i]? = some (V.str z) := by
              rw [List.getElem?_map, hz]
              rfl
            have hzi := List.mem_of_getElem? hz
            refine ⟨_, rfl, a, _, 2, _, rfl, rfl, hT _ s2, atI_nat (j := 2) rfl, _, rfl, b, _, _, .str z, rfl, rfl, hB _ s2, atI_nat hzm, .str z, .s z, rfl, rfl, ob.2 z hzi, fun H3 s3 => ⟨_, rfl, iteB (fun hbad => iteT ?_) (fun hgood => ?_)⟩⟩
            · have hbad' : nameB z = false := by simpa [nmP] using hbad
              have e : difP (.t zs) = false := by
                have : zs.all nameB = false := by
                  rw [List.all_eq_false]
                  exact ⟨z, hzi, by simp [hbad']⟩
                simp [difP, this]
              have qq := q H3 (s2.trans s3)
              rw [eD, e] at qq
              exact qq
            have hgood' : nameB z = true := by simpa [nmP] using hgood
            have s23 := s2.trans s3
            refine ⟨_, rfl, a, _, 2, _, rfl, rfl, hT _ s23, atI_nat (j := 2) rfl, _, rfl, b, _, _, .str z, rfl, rfl, hB _ s23, atI_nat hzm, ?_⟩
            refine ⟨_, rfl, a, _, 2, _, rfl, rfl, hT _ s23, atI_nat (j := 2) rfl, _, rfl, _, rfl, b, _, rfl, hB _ s23, ?_, fun c nc => ?_⟩
            · rw [HT.sIx_nat, hlm]
              intro hc
              have := hc.2
              omega
            rw [cut_take (by rw [hlm]; omega), ← List.map_take]
            refine ⟨c, _, rfl, .inr (.inl (.inl upd_same)), rfl, flat_strs _, _, rfl, ?_⟩
            rw [if_neg Bool.false_ne_true, inV_strs]
            refine iteB (fun hin => ?_) (fun hout => ?_)
            · have hin' : z ∈ zs.take i := of_decide_eq_true hin
              have e : difP (.t zs) = false := by
                have : ¬ zs.Nodup := fun hnd => by
                  obtain ⟨j, hj⟩ := List.mem_iff_getElem?.mp hin'
                  rw [List.getElem?_take] at hj
                  split at hj
                  · rename_i hji
                    have := nd_ix hnd hj hz
                    omega
                  · cases hj
                simp [difP, this]
              have qq := q _ (s23.trans (same_upd (o := .tup ((zs.take i).map V.str)) nc))
              rw [eD, e] at qq
              exact qq
            · have hout' : z ∉ zs.take i := of_decide_eq_false hout
              refine ⟨_, rfl, s23.trans (same_upd nc), fun j y hj hy => ?_, ?_⟩
              · by_cases e : j = i
                · rw [e, hz] at hy
                  cases hy
                  exact hgood'
                · exact hn2 j y (by omega) hy
              · rw [List.take_add_one, hz]
                refine List.nodup_append.mpr ⟨hd2, by simp, ?_⟩
                intro x hx y hy e
                have hy' : y = z := by simpa using hy
                rw [e, hy'] at hx
                exact hout' hx
          · rintro σ H2 ⟨x1', rfl, s2, hn2, hd2⟩
            have el : (((zs.map V.str).length : Nat) : Int).toNat = zs.length := by rw [hlm]; exact Int.toNat_natCast _
            rw [el, List.take_length] at hd2
            rw [el] at hn2
            have e : difP (.t zs) = true := by
              have h1 : zs.all nameB = true := by
                rw [List.all_eq_true]
                intro y hy
                obtain ⟨j, hj⟩ := List.mem_iff_getElem?.mp hy
                exact hn2 j y (List.getElem?_eq_some_iff.mp hj).1 hj
              simp [difP, h1, hd2]
            have qq := q H2 s2
            rw [eD, e] at qq
            exact qq
theorem okh_lines {f : Addr} {fd : FuncData} (F : Fun K "_law_lines" "_law_lines" s_lines f fd) : L2H.FnH P w K mg base CX0 1 f fd ["_law_text"] spLines := by
  refine L2H.okH F sc_lines (fun vs H Q E h => ?_) (fun cdv A outer s H vs Q E pH hot hr h => ?_)
  · obtain ⟨z, rfl, _⟩ := h
    rfl
  · obtain ⟨z, rfl, hz, q⟩ := h
    refine ⟨_, (pss_cons (ps_set (i := 1) sc_lines.nd rfl (Or.inl rfl) (pe_lst (pa_cons pe_str pa_nil)))
      (pss_cons (L2H.ps_forH PassesOwn.never hot (L2H.pi_strH (pv 0)) (pg_name (i := 2) sc_lines.nd rfl (Or.inl rfl))
        (pss_one (ps_if (pt_cmpR op_eq (pv 2) pe_str (nomark _))
          (pss_one (ps_expr (pe_bm PySem.F.plainAttrs_list PySem.F.slot_list_append PySem.F.type_list_append mt_append (pv 1) (pa_cons pe_str pa_nil))))
          (pss_one (ps_asg (pe_op op_add_str (pe_ix ix_list (pv 1) (pe_un un_neg pe_int) (fun _ _ => rfl)) (pv 2)) (pg_sub (pv 1) (pe_un un_neg pe_int) set_list))))))
      (pss_cons (ps_if (pt_cmpR op_eq (pv 0) pe_str (nomark _)) (pss_one (ps_ret (pe_lst pa_nil))) pss_nil)
      (pss_one (ps_ret (pv 1)))))), ?_⟩
    refine ⟨by show 1 ≤ sizeLine; decide, fun l nl => ?_⟩
    refine ⟨_, rfl, z, rfl, ?_⟩
    have hzl : z.cps.toList.length = z.length := Array.length_toList
    refine for_txt (z := z) (fun i σ H' => ∃ (x2 : Option V) (ds : List Str) (cur : Str), σ = [some (.str z), some (.ref l), x2] ∧ Same H H' ∧ H' l = some (.lst ((ds ++ [cur]).map V.str)) ∧ ds.length ≤ i ∧ cur.length ≤ i ∧
      ds.map TL.tl ++ TL.spl [10] 0 (TL.tl cur) (z.cps.toList.drop i) = TL.spl [10] 0 [] (TL.tl z))
      ⟨none, [], "", rfl, same_upd nl, upd_same, Nat.le_refl _, Nat.le_refl _, rfl⟩ ?_ ?_
    · rintro i c σ H' hc ⟨x2, ds, cur, rfl, sm, el, h1, h2, h3⟩
      have hil : i < z.cps.toList.length := (List.getElem?_eq_some_iff.mp hc).1
      have hdrop : z.cps.toList.drop i = c :: z.cps.toList.drop (i + 1) := by
        rw [List.drop_eq_getElem_cons hil]
        congr 1
        exact (List.getElem?_eq_some_iff.mp hc).2
      have hll : ((ds ++ [cur]).map V.str).length = ds.length + 1 := by rw [List.length_map, List.length_append]; rfl
      rw [hdrop] at h3
      refine ⟨_, rfl, rfl, _, rfl, ?_⟩
      rw [show decide (V.str ⟨#[c]⟩ = V.str (Str.ofString "\n")) = decide (c = 10) from dnl]
      refine iteB (fun hsp => ?_) (fun hsp => ?_)
      · have e : c = 10 := of_decide_eq_true hsp
        rw [e, spl_nl] at h3
        refine ⟨_, rfl, .inl ⟨rfl, _, .inl (.inl el)⟩, l, _, _, rfl, rfl, el, sl9 (by rw [hll]; omega), ?_⟩
        refine ⟨_, ds ++ [cur], "", rfl, same_mut sm nl, ?_, by rw [List.length_append, List.length_singleton]; omega, Nat.zero_le _, ?_⟩
        · rw [upd_same, List.map_append (l₁ := ds ++ [cur])]
          rfl
        · rw [List.map_append, List.append_assoc]
          exact h3
      · have e : ¬ c = 10 := of_decide_eq_false hsp
        rw [spl_nn e] at h3
        have hx : ixN ((ds ++ [cur]).map V.str).length (-1) = some ds.length := by
          rw [hll]
          unfold ixN
          rw [if_neg (by decide), if_pos (by omega)]
          congr 1
          omega
        have hat : atI ((ds ++ [cur]).map V.str) (-1) = some (.str cur) := by
          unfold atI
          rw [hx]
          show ((ds ++ [cur]).map V.str)[ds.length]? = _
          rw [List.getElem?_map, List.getElem?_append_right (Nat.le_refl _), Nat.sub_self]
          rfl
        refine ⟨_, rfl, 1, rfl, l, _, -1, .str cur, rfl, rfl, .inl (.inl el), hat, _, rfl, cur, ⟨#[c]⟩, rfl, rfl, sz9 (by show cur.length + 1 ≤ 100000; omega), _, rfl, 1, rfl, l, _, -1, ds.length, rfl, rfl, el, hx, ?_⟩
        refine ⟨_, ds, cur ++ ⟨#[c]⟩, rfl, same_mut sm nl, ?_, by omega, ?_, ?_⟩
        · rw [upd_same, List.map_append, List.map_append]
          have e2 : (ds.map V.str ++ [cur].map V.str).set ds.length (V.str (cur ++ ⟨#[c]⟩)) = ds.map V.str ++ [V.str (cur ++ ⟨#[c]⟩)] := by
            rw [List.set_append_right _ _ (by rw [List.length_map]; exact Nat.le_refl _)]
            rw [List.length_map, Nat.sub_self]
            rfl
          rw [e2]
          rfl
        · have e3 : (cur ++ (⟨#[c]⟩ : Str)).length = cur.length + 1 := Array.size_append
          rw [e3]
          omega
        · have e4 : TL.tl (cur ++ (⟨#[c]⟩ : Str)) = TL.tl cur ++ [c] := by
            show (cur.cps ++ #[c]).toList = _
            rw [Array.toList_append]
          rw [e4]
          exact h3
    · rintro σ H' ⟨x2, ds, cur, rfl, sm, el, h1, h2, h3⟩
      rw [List.drop_length, TL.spl_nil, ← lines_spl] at h3
      have e : ds ++ [cur] = linesN z := by
        have h4 : (ds ++ [cur]).map TL.tl = (linesN z).map TL.tl := by
          rw [List.map_append]
          exact h3
        have inj : ∀ {xs ys : List Str}, xs.map TL.tl = ys.map TL.tl → xs = ys := by
          intro xs
          induction xs with
          | nil => intro ys h; cases ys with
            | nil => rfl
            | cons y ys => cases h
          | cons x xs ih => intro ys h; cases ys with
            | nil => cases h
            | cons y ys =>
              rw [List.map_cons, List.map_cons] at h
              injection h with ha hb
              rw [TL.ext_tl ha, ih hb]
        exact inj h4
      refine ⟨_, rfl, rfl, _, rfl, iteB (fun h0 => ?_) (fun h0 => ?_)⟩
      · have h0' : z = "" := by
          have := of_decide_eq_true h0
          injection this
        refine ⟨Nat.zero_le _, fun p np => q p _ (sm.trans (same_upd np)) (sm.free np) ?_⟩
        rw [upd_same]
        unfold lns
        rw [if_pos h0']
        rfl
      · have h0' : ¬ z = "" := fun e => of_decide_eq_false h0 (congrArg V.str e)
        refine ⟨_, rfl, q l H' sm nl ?_⟩
        rw [el, e]
        unfold lns
        rw [if_neg h0']
end
end Kx

namespace Kx
open PySem PySem.Spec PyProof.Rows L2 NdefX Kr Ke Ks Kn
/-- isinstance(e, c) in the suite, e of the class at D -/
def rIsG (K : PySem.W.Frag) (D a : Addr) (cls : Value) (d : Option Addr) : List V → Hp → VK → Prop := fun xs H Q => cls = .ref D ∧ ∃ dd, d = some dd ∧ rIsD K D a dd xs H Q
theorem call_isG {X : Cx} {a D : Addr} {d : Option Addr} {cls : Value} {oe : Obj} {pn : List (Addr × Obj)} (C : ExcC X.K D) (hz : Zc cls d oe) (hf : ∃ vs, oe.data = .fields vs) : CallR (X.suite a ((a, oe) :: pn)) (.builtin "isinstance") (rIsG X.K D a cls d) := by
  intro pins s σ H xs us Q I r h
  obtain ⟨rfl, dd, rfl, h⟩ := h
  exact call_isD C hz hf pins s σ H xs us Q I r h
theorem takes0N {X : Cx} : L2N.Takes X (fun _ _ _ _ => False) := fun _ _ x => by
  obtain ⟨_, _, _, _, _, _, _, _, _, _, _, _, _, _, _, _, z⟩ := x
  exact z.elim
theorem hot_suite {X : Cx} {a : Addr} {oe : Obj} {cls : Value} {d : Option Addr} {pn : List (Addr × Obj)} (hz : L2N.Zn cls d oe) (hf : ∃ vs, oe.data = .fields vs) : L2H.HotC (X.suite a ((a, oe) :: pn)) :=
  let ⟨vs, hd⟩ := hf; ⟨(a, oe), ⟨rfl, vs, hd, hz.2.2 vs hd⟩, List.mem_cons_self⟩
def rLenSeq (K : PySem.W.Frag) : List V → Hp → VK → Prop := fun xs H Q => ∃ p ys, xs = [.ref p] ∧ (SqL K H p ys ∨ SqT K H p ys) ∧ Q (.int (ys.length : Nat)) H
theorem hu65 {k : Nat} {A : Around} (r : Room k A) : A.units + 65 < cLine := by have := r.un; omega
/-- what the catches ask of the text -/
structure RfL (K : PySem.W.Frag) (mg : Str → Option Value) (CI CL CK : Addr) : Prop where
  gI : mg "InvalidStep" = some (.ref CI)
  gL : mg "InvalidLine" = some (.ref CL)
  gK : mg "KeeperError" = some (.ref CK)
  m_bool : mg "bool" = none
  m_list : mg "list" = none
  m_enum : mg "enumerate" = none
  ex : ExcC K CL
  xf : XfC K CL
  n0 : PySem.W.findIn K (.ref CL) "number" = some none
  n1 : PySem.W.findIn K (.ref CL) "line" = some none
  te : PySem.W.exmOne K (.ref CL) (.ref CL) = some true
  kI : PySem.W.kitOne K (.ref CL) (.ref CI) = some false
  kK : PySem.W.kitOne K (.ref CL) (.ref CK) = some true
  exI : ExcC K CI
  xfI : XfC K CI
  nS : PySem.W.findIn K (.ref CI) "step" = some none
  teI : PySem.W.exmOne K (.ref CI) (.ref CI) = some true
  kIK : PySem.W.kitOne K (.ref CI) (.ref CK) = some true
/-! ### lists of steps as data -/
theorem can_parts : ∀ {ps : List Part}, (∀ p ∈ ps, okP p) → PyData.canLayAll0 (ps.map pd) = true
  | [], _ => by simp [PyData.canLayAll0]
  | p :: ps, h => by
    have h1 := (Bool.and_eq_true_iff.mp (h p List.mem_cons_self).sh).1
    rw [List.map_cons]
    simp only [PyData.canLayAll0, h1, can_parts fun y hy => h y (List.mem_cons_of_mem _ hy), Bool.and_self]
theorem parts_okP : ∀ {ps : List Part}, (∀ p ∈ ps, okP p) → okAll (ps.map pd) = true ∧ PyData.depthAll (ps.map pd) ≤ 1
  | [], _ => ⟨by simp [okAll], by simp [PyData.depthAll]⟩
  | p :: ps, h => by
    obtain ⟨h1, h3⟩ := parts_okP fun y hy => h y (List.mem_cons_of_mem _ hy)
    obtain ⟨a, b, c⟩ := (h p List.mem_cons_self).d
    refine ⟨?_, ?_⟩
    · rw [List.map_cons]
      simp only [okAll, a, h1, Bool.and_self]
    · rw [List.map_cons]
      simp only [PyData.depthAll]
      exact Nat.max_le.mpr ⟨c, h3⟩
def lsD (pss : List (List Part)) : PyData := .list (pss.map stD)
theorem ls_ok : ∀ {pss : List (List Part)}, (∀ ps ∈ pss, ∀ p ∈ ps, okP p) → okAll (pss.map stD) = true ∧ PyData.canLayAll0 (pss.map stD) = true ∧ PyData.depthAll (pss.map stD) ≤ 2
  | [], _ => ⟨by simp [okAll], by simp [PyData.canLayAll0], by simp [PyData.depthAll]⟩
  | ps :: pss, h => by
    obtain ⟨h1, h2, h3⟩ := ls_ok fun y hy => h y (List.mem_cons_of_mem _ hy)
    obtain ⟨a, c⟩ := parts_okP (h ps List.mem_cons_self)
    have b := can_parts (h ps List.mem_cons_self)
    refine ⟨?_, ?_, ?_⟩
    · rw [List.map_cons]
      simp only [okAll, stD, okD, a, Bool.true_and]
      simpa only [stD] using h1
    · rw [List.map_cons]
      simp only [PyData.canLayAll0, stD, PyData.canLay0, b, Bool.true_and]
      simpa only [stD] using h2
    · rw [List.map_cons]
      simp only [PyData.depthAll, stD, PyData.depth] at h3 ⊢
      omega
theorem lsD_ok {pss : List (List Part)} (h : ∀ ps ∈ pss, ∀ p ∈ ps, okP p) : okD (lsD pss) = true ∧ SeqAt.shaped (lsD pss) = true := by
  obtain ⟨a, b, c⟩ := ls_ok h
  refine ⟨by simpa only [lsD, okD] using a, Bool.and_eq_true_iff.mpr ⟨by simpa only [lsD, PyData.canLay0] using b, decide_eq_true ?_⟩⟩
  simp only [lsD, PyData.depth]
  omega
theorem dp_ls {K : PySem.W.Frag} {H : Hp} : ∀ {xs : List Addr} {pss : List (List Part)}, Paired (StAt H) xs pss → DpAll K H (xs.map V.ref) (pss.map stD)
  | _, _, .nil => .nil
  | _, _, .cons ⟨ys, h, hp⟩ t => .cons (.tup (.inl (.inl h)) (dp_parts hp)) (dp_ls t)
theorem LsAt.dp {K : PySem.W.Frag} {H : Hp} {l : Addr} {xs : List Addr} {pss : List (List Part)} (h : LsAt H l xs pss) : Dp K H (.ref l) (lsD pss) := .lst (.inl (.inl h.1)) (dp_ls h.2)
theorem no_none : ∀ pss : List (List Part), ((pss.map stD).any fun z => PyData.eqv z .none) = false
  | [] => rfl
  | ps :: pss => by
    rw [List.map_cons, List.any_cons, no_none pss]
    simp [stD, PyData.eqv]
theorem sh_none : SeqAt.shaped .none = true := by decide +kernel
/-- what the law holds due for a line -/
def DueAt (H : Hp) (v : V) (p : Str) : Prop := (stepB (stL p) = true → ∃ a, v = .ref a ∧ StAt H a (stL p)) ∧ (stepB (stL p) = false → v = .non)
theorem DueAt.same {H H' : Hp} {v : V} {p : Str} (h : DueAt H v p) (s : Same H H') : DueAt H' v p := ⟨fun e => let ⟨a, x, y⟩ := h.1 e; ⟨a, x, y.same s⟩, h.2⟩
theorem due_ls {H : Hp} : ∀ {vs : List V} {ps : List Str}, Paired (DueAt H) vs ps → (∀ p ∈ ps, stepB (stL p) = true) → ∃ xs : List Addr, vs = xs.map V.ref ∧ Paired (StAt H) xs (ps.map stL)
  | _, _, .nil, _ => ⟨[], rfl, .nil⟩
  | _, _, .cons h t, hb => by
    obtain ⟨xs, e, q⟩ := due_ls t fun p hp => hb p (List.mem_cons_of_mem _ hp)
    obtain ⟨a, e1, h1⟩ := h.1 (hb _ List.mem_cons_self)
    exact ⟨a :: xs, by rw [e1, e]; rfl, .cons h1 q⟩
theorem stL_ok {p : Str} (h : Sht p 900) : ∀ q ∈ stL p, okP q := (partsP_ok (ws := wordsL p) (fun q hq => (words_sht h q hq).le (by decide)) (by have := words_len p; have := h.1; omega)).1
abbrev s_right : Stmt := topS 28
abbrev N_right : List Str := ["_law_text", "_law_due", "_law_told", "e", "_law_k", "_law_line"]
theorem sc_right : FnScope N_right ["_law_text"] (defScope s_right) := ⟨rfl, rfl, rfl, by decide +kernel, rfl, by decide +kernel, by decide +kernel⟩
def spRightT : Sp := fun vs H Q _ => ∃ z : Str, vs = [.str z] ∧ TxOk z ∧ ∀ H', Same H H' → Q (.bl true) H'
section
variable {P : Program} {w : World} {K : PySem.W.Frag} {mg : Str → Option Value} {base : Heap} {CI CL CK : Addr}
theorem ok_right {f : Addr} {fd : FuncData} (F : Fun K "_law_right" "_law_right" s_right f fd) (T : TxS mg) (R : RfL K mg CI CL CK) (C_lines : Cal P w K mg base "_law_lines" 1 spLines) (H_lines : L2H.CalH P w K mg base "_law_lines" 1 spLines) (C_parsed : Cal P w K mg base "_law_parsed" 3 spParsed) (M : L2N.CalN P w K mg base "parse_history" 6 ["text"] (spPH CL)) :
    FnOk P w K mg base CX0 7 f fd ["_law_text"] spRightT := by
  refine F.ok sc_right (fun vs H Q E h => ?_) (fun cdv A outer s H vs Q E hr h => ?_)
  · obtain ⟨z, rfl, _⟩ := h
    rfl
  · obtain ⟨z, rfl, hz, q⟩ := h
    refine ⟨_, (pss_cons (ps_setLc (i := 1) rfl sc_right.nd rfl rfl (sw_true rfl rfl rfl (by decide +kernel)) (pi_list (pe_cal C_lines (hr.mono (by decide)) (by rfl) (pa_cons (pv 0) pa_nil))) (blkOk_by (own := [("_law_line", 5)]) (N := N_right) (sc := defScope s_right) (by decide +kernel)) (fun _ _ _ _ _ => pg_name (i := 5) sc_right.nd rfl (Or.inl rfl)) (fun _ _ _ _ _ => pts_nil) (fun _ _ _ _ _ => (pe_cal C_parsed (hr.mono (by decide)) (by rfl) (pa_cons (pv 5) pa_nil))))
      (pss_cons (L2N.ps_try_as (i := 3) rfl rfl sc_right.nd rfl rfl ⟨rfl, by decide, .inl R.gL⟩ takes0N
        (fun W pn xe tk _ => pss_one (ps_set (i := 2) sc_right.nd rfl (Or.inl rfl) (L2N.pe_calSN M (hr.mono (by decide)) tk (by rfl) (pa_cons (pv 0) pa_nil))))
        (fun a oe cls d pn hz hf => pss_cons (ps_if (PW.pt (pw_or (pt_val (pe_callB (call_isG R.ex hz.zc hf) (by rfl) T.m_isinstance (by decide +kernel) (pa_cons (pv 3) (pa_cons (pe_glob (v := .ref CI) (by rfl) R.gI rfl) pa_nil)))) (pw_or (pt_not (pt_val (pe_callB (call_isG R.ex hz.zc hf) (by rfl) T.m_isinstance (by decide +kernel) (pa_cons (pv 3) (pa_cons (pe_glob (v := .ref CK) (by rfl) R.gK rfl) pa_nil))))) (pw_or1 (pt_val (pe_callB (show CallR _ (.builtin "isinstance") (rIsi K) from call_isi) (by rfl) T.m_isinstance (by decide +kernel) (pa_cons (pe_xf R.xf R.n0 hz.zc hf (pv 3)) (pa_cons (pe_bltn (v := .ty "bool") (by rfl) R.m_bool (by decide +kernel) rfl) pa_nil))))))))
          (pss_one (ps_ret pe_bl))
          pss_nil)
        (pss_cons (L2H.ps_forH PassesOwn.never (hot_suite hz hf) (L2H.pi_range1H (by rfl) T.m_range (pa_cons (pe_callB (show CallR _ (.builtin "len") (rLenSeq K) from call_len_seq) (by rfl) T.m_len (by decide +kernel) (pa_cons (pv 1) pa_nil)) pa_nil)) (pg_name (i := 4) sc_right.nd rfl (Or.inl rfl))
          (pss_one (ps_if (pt_cmpR op_isN (pe_ix (show IxR _ (rIxL K) from ix_list) (pv 1) (pv 4) (fun _ _ => rfl)) pe_non (nomark _))
            (pss_cons (ps_if (PW.pt (pw_or (pt_not (pt_val (pe_callB (show CallR _ (.builtin "isinstance") (rIsi K) from call_isi) (by rfl) T.m_isinstance (by decide +kernel) (pa_cons (pe_xf R.xf R.n0 hz.zc hf (pv 3)) (pa_cons (pe_bltn (v := .ty "int") (by rfl) T.m_int (by decide +kernel) rfl) pa_nil))))) (pw_or1 (pt_cmpR op_ne (pe_xf R.xf R.n0 hz.zc hf (pv 3)) (pe_op op_add (pv 4) pe_int) (nomark _)))))
          (pss_one (ps_ret pe_bl))
          pss_nil)
            (pss_one (ps_ret (pe_cmpR op_eq (pe_xf R.xf R.n1 hz.zc hf (pv 3)) (pe_ix (show IxR _ (rIxL K) from ix_list) (L2H.pe_calH H_lines (L2H.roomH_mark (hr.mono (by decide)) _) (hot_suite hz hf) (by rfl) (pa_cons (pv 0) pa_nil)) (pv 4) (fun _ _ => rfl)) (nomark _)))))
            pss_nil)))
        (pss_one (ps_ret pe_bl)))))
      (pss_one (ps_ret (pe_and (pe_callB call_isi (by rfl) T.m_isinstance (by decide +kernel) (pa_cons (pv 2) (pa_cons (pe_bltn (v := .ty "list") (by rfl) R.m_list (by decide +kernel) rfl) pa_nil))) (pe_and (pe_cmpR (show OpR _ (compareOp .NotIn) (rNotInD K) from op_notInD (hu65 hr)) pe_non (pv 1) (by rfl)) (pe_one (pe_cmpR (show OpR _ (compareOp .Eq) (rEqD K) from op_eqD hr.units) (pv 2) (pv 1) (nomark _))))))))), ?_⟩
    obtain ⟨hl9, hn98⟩ := lns_ok hz
    refine ⟨_, rfl, z, rfl, hz.1, fun l H1 s1 nl el => ⟨l, rfl, ⟨_, .inl (.inl el)⟩, fun D hD => ?_⟩⟩
    generalize hls : lns z = ls at *
    refine lc_list (xs := ls.map V.str) (fun i H2 => Same H1 H2 ∧ ∃ vs, H2 D = some (.lst vs) ∧ Paired (DueAt H2) vs (ls.take i)) ⟨same_upd hD, [], upd_same, .nil⟩ (fun i H2 _ ⟨s2, _⟩ => .inl (.inl (s2 _ _ el))) ?_ ?_
    · rintro i y H2 hy ⟨s2, vs, eD, hp⟩
      obtain ⟨p, hpi, rfl⟩ : ∃ p, ls[i]? = some p ∧ y = .str p := by
        rw [List.getElem?_map] at hy
        cases e : ls[i]? with
        | none => rw [e] at hy; cases hy
        | some n => rw [e] at hy; exact ⟨n, rfl, (Option.some.inj hy).symm⟩
      have hil := (List.getElem?_eq_some_iff.mp hpi).1
      have hxl := hp.length
      rw [List.length_take] at hxl
      have fin : ∀ (v : V) (H3 : Hp), Same H2 H3 → DueAt H3 v p → H3 D = some (.lst vs) ∧ vs.length < sizeLine ∧ (Same H1 (upd H3 D (.lst (vs ++ [v]))) ∧ ∃ vs', (upd H3 D (.lst (vs ++ [v]))) D = some (.lst vs') ∧ Paired (DueAt (upd H3 D (.lst (vs ++ [v])))) vs' (ls.take (i + 1))) := fun v H3 s3 hv => by
        have dD := s3 _ _ eD
        have keep : ∀ x r, DueAt H3 x r → DueAt (upd H3 D (.lst (vs ++ [v]))) x r := fun x r hx => ⟨fun e => by
          obtain ⟨a, e1, ys, hb, hy⟩ := hx.1 e
          have hbD : a ≠ D := fun e => by rw [e, dD] at hb; cases hb
          refine ⟨a, e1, ys, (upd_ne hbD).trans hb, Paired.mono (fun x pt hx => ?_) hy⟩
          cases pt with
          | s z => exact hx
          | t zs =>
            obtain ⟨c, e, hc⟩ := hx
            exact ⟨c, e, (upd_ne (fun e => by rw [e, dD] at hc; cases hc)).trans hc⟩, hx.2⟩
        refine ⟨dD, sz8 (by omega), same_mut (s2.trans s3) hD, vs ++ [v], upd_same, ?_⟩
        rw [List.take_add_one, hpi]
        exact paired_app (Paired.mono (fun x r hx => keep x r (hx.same s3)) hp) (.cons (keep v p hv) .nil)
      refine ⟨rfl, _, rfl, p, rfl, hl9 p (List.mem_of_getElem? hpi), fun hB a H3 s3 hst => ?_, fun hB H3 s3 => ?_⟩
      · obtain ⟨e1, e2, e3⟩ := fin (.ref a) H3 s3 ⟨fun _ => ⟨a, rfl, hst⟩, fun h => absurd (hB.symm.trans h) (by decide)⟩
        exact ⟨vs, e1, e2, e3⟩
      · obtain ⟨e1, e2, e3⟩ := fin .non H3 s3 ⟨fun h => absurd (hB.symm.trans h) (by decide), fun _ => rfl⟩
        exact ⟨vs, e1, e2, e3⟩
    rintro H2 ⟨s2, vs, eD, hp⟩
    rw [List.length_map, List.take_length] at hp
    have s12 := s1.trans s2
    refine ⟨_, rfl, z, rfl, hz, fun hall l2 xs H3 s3 hls3 => ?_, fun i p hpi hfb d H3 s3 ed => ?_⟩
    · rw [hls] at hall hls3
      obtain ⟨ys, ev, hq⟩ := due_ls (hp) hall
      subst ev
      have hD3 : LsAt H3 D ys (ls.map stL) := LsAt.same (H := H2) ⟨eD, hq⟩ s3
      have hok : ∀ ps ∈ ls.map stL, ∀ p ∈ ps, okP p := fun ps hps => by
        obtain ⟨p, hp, rfl⟩ := List.mem_map.mp hps
        exact stL_ok (hl9 p hp)
      obtain ⟨o1, o2⟩ := lsD_ok hok
      refine ⟨_, rfl, .ref l2, .ty "list", .type "list", .type "list", true, rfl, .ty "list", .base (.lst hls3.1), kit_ty (by decide +kernel), _, rfl, ?_⟩
      rw [if_pos rfl]
      refine ⟨_, rfl, .none, (ls.map stL).map stD, .non, hD3.dp, sh_none, o2, ?_⟩
      rw [no_none]
      refine ⟨_, rfl, ?_⟩
      rw [Bool.not_false, if_pos rfl]
      refine ⟨_, rfl, _, rfl, _, _, hls3.dp, hD3.dp, o2, o2, ?_⟩
      rw [eqv_self _ o1]
      exact q H3 (s12.trans s3)
    · rw [hls] at hpi hfb
      have hil := (List.getElem?_eq_some_iff.mp hpi).1
      have hBp : stepB (stL p) = false := by
        obtain ⟨_, ps, h1, h2⟩ := hfb
        rw [List.getElem?_map, hpi] at h1
        cases h1
        exact h2
      have eD3 := s3 _ _ eD
      have hp3 : Paired (DueAt H3) vs ls := Paired.mono (fun _ _ h => h.same s3) hp
      have hvl := hp3.length
      refine ⟨true, R.te, (fun _ x nx => ?_), fun e => Bool.noConfusion e⟩
      refine ⟨_, rfl, rfl, d, rfl, _, _, _, _, rfl, ed, (fun u e => e), R.kI, _, rfl, iteF ?_⟩
      refine ⟨_, rfl, rfl, d, rfl, _, _, _, _, rfl, ed, (fun u e => e), R.kK, _, rfl, iteF ?_⟩
      refine ⟨_, rfl, rfl, rfl, d, _, _, rfl, ed, rfl, .int _, .ty "bool", .type "int", .type "bool", false, rfl, .ty "bool", .base (.int _), kit_ty (by decide +kernel), _, rfl, iteF ?_⟩
      refine ⟨_, rfl, D, _, rfl, .inl (.inl (.inl eD3)), _, rfl, by omega, by omega, ?_⟩
      refine for_range (lo := 0) (n := ((vs.length : Nat) : Int).toNat) (fun j σ H' => ∃ x4 : Option V, σ = [some (.str z), some (.ref D), none, some (.ref x), x4, none] ∧ H' = H3 ∧ j ≤ i) ⟨none, rfl, rfl, Nat.zero_le _⟩ ?_ ?_
      · rintro j σ H' hj ⟨x4, rfl, rfl, hji⟩
        rw [Int.zero_add]
        have hjl : j < vs.length := by omega
        obtain ⟨v, hv⟩ : ∃ v, vs[j]? = some v := ⟨_, List.getElem?_eq_getElem hjl⟩
        obtain ⟨r, hr1, hdue⟩ := pair_get hp3 hv
        refine ⟨_, rfl, _, rfl, D, vs, _, v, rfl, rfl, .inl (.inl eD3), atI_nat hv, rfl, _, rfl, iteB (fun hN => ?_) (fun hN => ?_)⟩
        · have hv0 : v = .non := of_decide_eq_true hN
          have hji2 : j = i := by
            rcases Nat.lt_or_ge j i with hlt | hge
            · have h1 := hfb.1 j (stL r) hlt (by rw [List.getElem?_map, hr1]; rfl)
              obtain ⟨a, e, _⟩ := hdue.1 h1
              rw [hv0] at e
              cases e
            · omega
          subst hji2
          refine ⟨_, rfl, rfl, rfl, d, _, _, rfl, ed, rfl, .int _, .ty "int", .type "int", .type "int", true, rfl, .ty "int", .base (.int _), kit_ty (by decide +kernel), _, rfl, iteF ?_⟩
          refine ⟨_, rfl, rfl, rfl, d, _, _, rfl, ed, rfl, _, rfl, _, _, rfl, rfl, rfl, _, rfl, iteB (fun h => ?_) (fun _ => ?_)⟩
          · exfalso
            have e : ((j + 1 : Nat) : Int) = (j : Int) + 1 := by omega
            rw [e] at h
            simp at h
          · refine ⟨_, rfl, rfl, rfl, d, _, _, rfl, ed, rfl, _, rfl, z, rfl, hz.1, fun l4 H4 s4 nl4 el4 => ?_⟩
            rw [hls] at el4
            have hpm : (ls.map V.str)[j]? = some (.str p) := by rw [List.getElem?_map, hpi]; rfl
            refine ⟨_, rfl, l4, _, _, .str p, rfl, rfl, .inl (.inl el4), atI_nat hpm, rfl, ?_⟩
            rw [decide_eq_true rfl]
            exact q H4 ((s12.trans s3).trans s4)
        · have hv0 : ¬ v = .non := of_decide_eq_false hN
          refine ⟨_, rfl, rfl, ?_⟩
          rcases Nat.lt_or_ge j i with hlt | hge
          · omega
          · exfalso
            have hji2 : j = i := by omega
            subst hji2
            rw [hpi] at hr1
            cases hr1
            exact hv0 (hdue.2 hBp)
      · rintro σ H' ⟨x4, rfl, rfl, hji⟩
        exfalso
        omega
end
end Kx

namespace Kx
open PySem PySem.Spec PyProof.Rows L2 NdefX Kr Ke Ks Kn
abbrev s_written : Stmt := topS 29
abbrev N_written : List Str := ["_law_steps", "_law_handed", "_law_told", "e", "_law_step"]
theorem sc_written : FnScope N_written ["_law_steps"] (defScope s_written) := ⟨rfl, rfl, rfl, by decide +kernel, rfl, by decide +kernel, by decide +kernel⟩
def spWrit : Sp := fun vs H Q _ => ∃ (l : Addr) (xs : List Addr) (pss : List (List Part)), vs = [.ref l] ∧ LsAt H l xs pss ∧ (∀ ps ∈ pss, okF ps) ∧ pss.length ≤ 100 ∧ ∀ H', Same H H' → Q (.bl true) H'
theorem ref_get {xs : List Addr} {i : Nat} {y : V} (h : (xs.map V.ref)[i]? = some y) : ∃ a, xs[i]? = some a ∧ y = .ref a := by
  rw [List.getElem?_map] at h
  cases e : xs[i]? with
  | none => rw [e] at h; cases h
  | some n => rw [e] at h; exact ⟨n, rfl, (Option.some.inj h).symm⟩
theorem bad_or : ∀ pss : List (List Part), (∀ ps ∈ pss, stepB ps = true) ∨ ∃ i, FirstBad pss i
  | [] => .inl fun ps h => nomatch h
  | ps :: pss => by
    cases hb : stepB ps with
    | false => exact .inr ⟨0, (fun j q hj => absurd hj (Nat.not_lt_zero _)), ps, rfl, hb⟩
    | true =>
      rcases bad_or pss with h | ⟨i, h1, h2⟩
      · refine .inl fun q hq => ?_
        rcases List.mem_cons.mp hq with rfl | hq
        · exact hb
        · exact h q hq
      · refine .inr ⟨i + 1, fun j q hj hq => ?_, h2⟩
        cases j with
        | zero =>
          have e : ps = q := by simpa using hq
          exact e ▸ hb
        | succ j => exact h1 j q (by omega) (by simpa using hq)
section
variable {P : Program} {w : World} {K : PySem.W.Frag} {mg : Str → Option Value} {base : Heap} {CI CL CK : Addr}
theorem ok_written {f : Addr} {fd : FuncData} (F : Fun K "_law_written" "_law_written" s_written f fd) (T : TxS mg) (R : RfL K mg CI CL CK) (C_is_step : Cal P w K mg base "_law_is_step" 2 (spStp stepB)) (H_is_step : L2H.CalH P w K mg base "_law_is_step" 2 (spStp stepB)) (C_text_of : Cal P w K mg base "_law_text_of" 1 spText) (M : L2N.CalN P w K mg base "format_history" 6 ["steps"] (spFH CI)) :
    FnOk P w K mg base CX0 7 f fd ["_law_steps"] spWrit := by
  refine F.ok sc_written (fun vs H Q E h => ?_) (fun cdv A outer s H vs Q E hr h => ?_)
  · obtain ⟨l, xs, pss, rfl, _⟩ := h
    rfl
  · obtain ⟨l, xs, pss, rfl, hls, hok, hlen, q⟩ := h
    refine ⟨_, (pss_cons (ps_set (i := 1) sc_written.nd rfl (Or.inl rfl) (pe_callTy call_list_of (by rfl) R.m_list (by decide +kernel) (pa_cons (pv 0) pa_nil)))
      (pss_cons (L2N.ps_try_as (i := 3) rfl rfl sc_written.nd rfl rfl ⟨rfl, by decide, .inl R.gI⟩ takes0N
        (fun W pn xe tk _ => pss_one (ps_set (i := 2) sc_written.nd rfl (Or.inl rfl) (L2N.pe_calSN M (hr.mono (by decide)) tk (by rfl) (pa_cons (pv 1) pa_nil))))
        (fun a oe cls d pn hz hf => pss_cons (L2H.ps_forH PassesOwn.never (hot_suite hz hf) (show L2H.PIH (Cx.suite (cxOf CX0 P w K mg base N_written "_law_written" (defScope s_written) f cdv A outer s H E).nox a ((a, oe) :: pn)) _ _ (iList K (tVar 0)) from L2H.pi_listH (pv 0)) (pg_name (i := 4) sc_written.nd rfl (Or.inl rfl))
          (pss_one (ps_if (pt_not (pt_val (L2H.pe_calH H_is_step (L2H.roomH_mark (hr.mono (by decide)) _) (hot_suite hz hf) (by rfl) (pa_cons (pv 4) pa_nil))))
            (pss_one (ps_ret (pe_and (pe_cmpR (show OpR _ (compareOp .Eq) (rEqD K) from op_eqD (show _ from hr.units)) (pv 1) (pv 0) (nomark _)) (pe_and (pe_callB (call_isG R.exI hz.zc hf) (by rfl) T.m_isinstance (by decide +kernel) (pa_cons (pv 3) (pa_cons (pe_glob (v := .ref CK) (by rfl) R.gK rfl) pa_nil))) (pe_one (pe_cmpR (show OpR _ (compareOp .Eq) (rEqD K) from op_eqD (show _ from hr.units)) (pe_xf R.xfI R.nS hz.zc hf (pv 3)) (pv 4) (nomark _)))))))
            pss_nil)))
          (pss_one (ps_ret pe_bl))))
      (pss_cons (ps_for PassesOwn.never rfl (pi_list (pv 0)) (pg_name (i := 4) sc_written.nd rfl (Or.inl rfl))
        (pss_one (ps_if (pt_not (pt_val (pe_cal C_is_step (hr.mono (by decide)) (by rfl) (pa_cons (pv 4) pa_nil))))
          (pss_one (ps_ret pe_bl))
          pss_nil)))
      (pss_cons (ps_if (PW.pt (pw_or (pt_cmpR (op_neD hr.units) (pv 1) (pv 0) (nomark _)) (pw_or1 (pt_not (pt_val (pe_callB call_isi (by rfl) T.m_isinstance (by decide +kernel) (pa_cons (pv 2) (pa_cons (pe_bltn (v := .ty "str") (by rfl) T.m_str (by decide +kernel) rfl) pa_nil))))))))
        (pss_one (ps_ret pe_bl))
        pss_nil)
      (pss_one (ps_ret (pe_cmpR op_eq (pv 2) (pe_join pe_str (pe_lc (own := [("_law_step", 4)]) (g := gName 4) (tt := tYes) rfl sc_written.nd (pi_list (pv 0)) (blkOk_by (own := [("_law_step", 4)]) (N := N_written) (sc := defScope s_written) (by decide +kernel)) (fun _ _ _ _ _ => pg_name (i := 4) sc_written.nd rfl (Or.inl rfl)) (fun _ _ _ _ _ => pts_nil) (fun _ _ _ _ _ => (pe_cal C_text_of (hr.mono (by decide)) (by rfl) (pa_cons (pv 4) pa_nil))))) (nomark _)))))))), ?_⟩
    have hokP : ∀ ps ∈ pss, ∀ p ∈ ps, okP p := fun ps h p hp => ((hok ps h).1 p hp).okP
    obtain ⟨o1, o2⟩ := lsD_ok hokP
    have hxl := hls.2.length
    refine ⟨_, rfl, l, _, rfl, .inl (.inl (.inl hls.1)), fun c nc => ?_⟩
    have sc := same_upd (o := .lst (xs.map V.ref)) nc
    have hlc : LsAt (upd H c (.lst (xs.map V.ref))) c xs pss := ⟨upd_same, (hls.same sc).2⟩
    refine ⟨_, rfl, c, xs, pss, rfl, hlc, hok, hlen, fun hall H1 s1 => ?_, fun i a ha hfb d H1 s1 ed => ?_⟩
    · have s01 := sc.trans s1
      have hl1 := hls.same s01
      have hc1 := hlc.same s1
      refine ⟨_, rfl, l, rfl, ⟨_, .inl (.inl hl1.1)⟩, ?_⟩
      refine for_list (xs := xs.map V.ref) (fun i σ H' => ∃ x4 : Option V, σ = [some (.ref l), some (.ref c), some (.str (Txt.join wNl (pss.map textP))), none, x4] ∧ Same H1 H') ⟨none, rfl, Same.refl _⟩ (fun i σ H' _ ⟨_, _, s'⟩ => .inl (.inl (s' _ _ hl1.1))) ?_ ?_
      · rintro i y σ H2 hy ⟨x4, rfl, s2⟩
        obtain ⟨b, hb, rfl⟩ := ref_get hy
        obtain ⟨ps, hps, hst⟩ := pair_get hl1.2 hb
        have hm := List.mem_of_getElem? hps
        refine ⟨_, rfl, b, ps, rfl, hst.same s2, hokP ps hm, by have := (hok ps hm).2.1; omega, fun H3 s3 => ⟨_, rfl, iteB (fun h => ?_) (fun h => ?_)⟩⟩
        · rw [hall ps hm] at h
          cases h
        · exact ⟨_, rfl, s2.trans s3⟩
      · rintro σ H2 ⟨x4, rfl, s2⟩
        have hl2 := hl1.same s2
        have hc2 := hc1.same s2
        refine ⟨_, rfl, _, rfl, _, _, hc2.dp, hl2.dp, o2, o2, _, rfl, ?_⟩
        rw [eqv_self _ o1]
        refine iteF ?_
        refine ⟨_, rfl, .str _, .ty "str", .type "str", .type "str", true, rfl, .ty "str", .base (.str _), kit_ty (by decide +kernel), _, rfl, iteF ?_⟩
        refine ⟨_, rfl, ⟨_, rfl⟩, _, rfl, l, rfl, ⟨_, .inl (.inl hl2.1)⟩, fun D hD => ?_⟩
        refine lc_list (xs := xs.map V.ref) (fun i H3 => Same H2 H3 ∧ H3 D = some (.lst (((pss.take i).map textP).map V.str))) ⟨same_upd hD, upd_same⟩ (fun i H3 _ ⟨s3, _⟩ => .inl (.inl (s3 _ _ hl2.1))) ?_ ?_
        · rintro i y H3 hy ⟨s3, d3⟩
          obtain ⟨b, hb, rfl⟩ := ref_get hy
          obtain ⟨ps, hps, hst⟩ := pair_get hl2.2 hb
          have hm := List.mem_of_getElem? hps
          have hil := (List.getElem?_eq_some_iff.mp hps).1
          refine ⟨rfl, _, rfl, b, ps, rfl, hst.same s3, (hok ps hm).1, form_of (hall ps hm), fun H4 s4 => ⟨_, s4 _ _ d3, ?_, same_mut (s3.trans s4) hD, ?_⟩⟩
          · rw [List.length_map, List.length_map, List.length_take]
            exact sz8 (by omega)
          · rw [upd_same, List.take_add_one, hps, List.map_append, List.map_append]
            rfl
        · rintro H3 ⟨s3, d3⟩
          rw [List.length_map, hxl, List.take_length] at d3
          have hsum : ∀ l : List (List Part), (∀ ps ∈ l, okF ps) → (∀ ps ∈ l, stepB ps = true) → ((l.map textP).map (·.length)).sum ≤ 200 * l.length := by
            intro l
            induction l with
            | nil => intro _ _; exact Nat.zero_le _
            | cons z ys ih =>
              intro h1 h2
              have a1 := (h1 z List.mem_cons_self).2.2 (h2 z List.mem_cons_self)
              have a2 := ih (fun y hy => h1 y (List.mem_cons_of_mem _ hy)) fun y hy => h2 y (List.mem_cons_of_mem _ hy)
              rw [List.map_cons, List.map_cons, List.sum_cons, List.length_cons]
              omega
          have hs := hsum pss hok hall
          refine ⟨wNl, D, pss.map textP, rfl, rfl, .inl (.inl (.inl d3)), ?_, rfl, ?_⟩
          · have e1 : wNl.length = 1 := by decide +kernel
            rw [e1, List.length_map]
            omega
          · rw [decide_eq_true rfl]
            exact q H3 ((s01.trans s2).trans s3)
    · have s01 := sc.trans s1
      have hl1 := hls.same s01
      have hc1 := hlc.same s1
      refine ⟨true, R.teI, (fun _ x nx => ?_), fun e => Bool.noConfusion e⟩
      refine ⟨_, rfl, l, rfl, ⟨_, .inl (.inl hl1.1)⟩, ?_⟩
      refine for_list (xs := xs.map V.ref) (fun j σ H' => ∃ x4 : Option V, σ = [some (.ref l), some (.ref c), none, some (.ref x), x4] ∧ Same H1 H' ∧ j ≤ i) ⟨none, rfl, Same.refl _, Nat.zero_le _⟩ (fun j σ H' _ ⟨_, _, s', _⟩ => .inl (.inl (s' _ _ hl1.1))) ?_ ?_
      · rintro j y σ H2 hy ⟨x4, rfl, s2, hji⟩
        obtain ⟨b, hb, rfl⟩ := ref_get hy
        obtain ⟨ps, hps, hst⟩ := pair_get hl1.2 hb
        have hm := List.mem_of_getElem? hps
        refine ⟨_, rfl, b, ps, rfl, hst.same s2, hokP ps hm, by have := (hok ps hm).2.1; omega, fun H3 s3 => ⟨_, rfl, iteB (fun h => ?_) (fun h => ?_)⟩⟩
        · have hB : stepB ps = false := by simpa using h
          have hje : j = i := by
            rcases Nat.lt_or_ge j i with hlt | hge
            · have := hfb.1 j ps hlt hps
              rw [hB] at this
              cases this
            · omega
          subst hje
          rw [ha] at hb
          cases hb
          have s23 := s2.trans s3
          have hst3 := hst.same s23
          obtain ⟨ys, h1, h2⟩ := id hst3
          have dS : Dp K H3 (.ref a) (stD ps) := .tup (.inl (.inl h1)) (dp_parts h2)
          have okS : okD (stD ps) = true := by
            have := (parts_okP (hokP ps hm)).1
            simpa only [stD, okD] using this
          have shS : SeqAt.shaped (stD ps) = true := Bool.and_eq_true_iff.mpr ⟨by simpa only [stD, PyData.canLay0] using can_parts (hokP ps hm), decide_eq_true (by have := (parts_okP (hokP ps hm)).2; simp only [stD, PyData.depth]; omega)⟩
          refine ⟨_, rfl, _, rfl, _, _, (hc1.same s23).dp, (hl1.same s23).dp, o2, o2, _, rfl, ?_⟩
          rw [eqv_self _ o1, if_pos rfl]
          refine ⟨_, rfl, rfl, d, rfl, _, _, _, _, rfl, s23 _ _ ed, (fun u e => e), R.kIK, _, rfl, ?_⟩
          rw [if_pos rfl]
          refine ⟨_, rfl, rfl, rfl, d, _, _, rfl, s23 _ _ ed, rfl, _, rfl, _, _, dS, dS, shS, shS, ?_⟩
          rw [eqv_self _ okS]
          exact q H3 (s01.trans s23)
        · refine ⟨_, rfl, s2.trans s3, ?_⟩
          rcases Nat.lt_or_ge j i with hlt | hge
          · omega
          · exfalso
            have hje : j = i := by omega
            subst hje
            obtain ⟨ps', h1, h2⟩ := hfb.2
            rw [hps] at h1
            cases h1
            have hB : stepB ps = true := by simpa using h
            rw [hB] at h2
            cases h2
      · rintro σ H2 ⟨x4, rfl, s2, hji⟩
        exfalso
        have hil := (List.getElem?_eq_some_iff.mp ha).1
        rw [List.length_map] at hji
        omega
end
end Kx

namespace Kx
open PySem PySem.Spec PyProof.Rows L2 NdefX Kr Ke Ks Kn
/-! ### the lines and steps that the law draws -/
theorem lin_w : Lin 5 wBegin ∧ Lin 5 wQuit ∧ Lin 5 wRead ∧ Lin 5 wClose ∧ Lin 1 wSp := ⟨lin_of (by decide +kernel), lin_of (by decide +kernel), lin_of (by decide +kernel), lin_of (by decide +kernel), lin_of (by decide +kernel)⟩
theorem join_lin : ∀ (zs : List Str) (acc : Str) (n : Nat), Lin n acc → (∀ z ∈ zs, Lin 20 z) → Lin (n + 21 * zs.length) (joinB acc zs)
  | [], acc, n, h, _ => h
  | z :: zs, acc, n, h, hz => by
    have h1 := join_lin zs (acc ++ wSp ++ z) (n + 1 + 20) ((h.app lin_w.2.2.2.2).app (hz z List.mem_cons_self)) fun y hy => hz y (List.mem_cons_of_mem _ hy)
    exact h1.le (by rw [List.length_cons]; omega)
theorem good_form : ∀ {ps : List Part}, GoodP ps → Form ps ∧ okF ps ∧ Lin 160 (textP ps)
  | [.s w, .s p], ⟨hw, hp⟩ => by
    have h5 : Lin 5 w := by
      rcases hw with rfl | rfl
      · exact lin_w.1
      · exact lin_w.2.1
    have ht : Lin 160 (textP [.s w, .s p]) := ((h5.app lin_w.2.2.2.2).app hp).le (by decide)
    refine ⟨?_, ⟨?_, by show 2 ≤ 4; decide, fun _ => by have := ht.1.1; omega⟩, ht⟩
    · rcases hw with rfl | rfl
      · exact .b p
      · exact .q p
    · intro q hq
      simp only [List.mem_cons, List.not_mem_nil, or_false] at hq
      rcases hq with rfl | rfl
      · exact h5.1.le (by decide)
      · exact hp.1.le (by decide)
  | [.s w, .s p, .s x], ⟨hw, hp, hx⟩ => by
    subst hw
    have h5 := lin_w.2.2.1
    have ht : Lin 160 (textP [.s wRead, .s p, .s x]) := ((((h5.app lin_w.2.2.2.2).app hp).app lin_w.2.2.2.2).app hx).le (by decide)
    refine ⟨.r p x, ⟨?_, by show 3 ≤ 4; decide, fun _ => by have := ht.1.1; omega⟩, ht⟩
    intro q hq
    simp only [List.mem_cons, List.not_mem_nil, or_false] at hq
    rcases hq with rfl | rfl | rfl
    · exact h5.1.le (by decide)
    · exact hp.1.le (by decide)
    · exact hx.1.le (by decide)
  | [.s w, .s p, .t zs], ⟨hw, hp, hl, hz⟩ => by
    subst hw
    have h5 := lin_w.2.2.2.1
    have ht : Lin 160 (textP [.s wClose, .s p, .t zs]) := (join_lin zs _ _ ((h5.app lin_w.2.2.2.2).app hp) hz).le (by omega)
    refine ⟨.c p zs, ⟨?_, by show 3 ≤ 4; decide, fun _ => by have := ht.1.1; omega⟩, ht⟩
    intro q hq
    simp only [List.mem_cons, List.not_mem_nil, or_false] at hq
    rcases hq with rfl | rfl | rfl
    · exact h5.1.le (by decide)
    · exact hp.1.le (by decide)
    · exact ⟨by omega, fun z h => (hz z h).1.le (by decide)⟩
def wA : Str := "a"
def QA : List Part := [.s wQuit, .s wA]
theorem qa_good : GoodP QA := ⟨.inr rfl, lin_of (by decide +kernel)⟩
def OD1 : List Str := ["", " ", "begin", "begin A", "read a", "close", "quit a b", "close a x x"]
def OD2 : List Str := ["begin  a", "open a", "begin a "]
theorem od_lin : ∀ z ∈ OD1 ++ OD2, Lin 160 z := fun z hz => lin_of (List.all_eq_true.mp (show (OD1 ++ OD2).all (linB 160) = true by decide +kernel) z hz)
def wX : Str := "x"
def wB : Str := "b"
def w9 : Str := "9"
def wE : Str := ""
def WR1 : List (List Part) := [[], [.s wBegin], [.s wClose, .s wA, .t [wX, wX]], [.s wRead, .s wA, .s wE]]
def WR2 : List (List Part) := [[.s wBegin, .s wA, .s wB], [.s wQuit, .s w9]]
def shB (n : Nat) (z : Str) : Bool := decide (z.length ≤ n) && z.cps.toList.all fun c => decide (c < 1114112)
theorem sh_of {n : Nat} {z : Str} (h : shB n z = true) : Sht z n := by
  obtain ⟨h1, h2⟩ := Bool.and_eq_true_iff.mp h
  exact ⟨of_decide_eq_true h1, fun c hc => of_decide_eq_true (List.all_eq_true.mp h2 c hc)⟩
def ok2B : Part → Bool
  | .s z => shB 200 z
  | .t zs => decide (zs.length ≤ 20) && zs.all (shB 200)
theorem ok2_of : ∀ {p : Part}, ok2B p = true → ok2 p
  | .s z, h => sh_of h
  | .t zs, h => by
    obtain ⟨h1, h2⟩ := Bool.and_eq_true_iff.mp h
    exact ⟨of_decide_eq_true h1, fun z hz => sh_of (List.all_eq_true.mp h2 z hz)⟩
def wrB (ps : List Part) : Bool := ps.all ok2B && decide (ps.length ≤ 4) && !stepB ps
theorem wr_all : (WR1 ++ WR2).all wrB = true := by decide +kernel
theorem wr_ok : ∀ ps ∈ WR1 ++ WR2, okF ps := fun ps h => by
  have h1 := List.all_eq_true.mp wr_all ps h
  unfold wrB at h1
  simp only [Bool.and_eq_true] at h1
  obtain ⟨⟨a, b⟩, c⟩ := h1
  refine ⟨fun p hp => ok2_of (List.all_eq_true.mp a p hp), of_decide_eq_true b, fun hs => ?_⟩
  rw [hs] at c
  cases c
/-! ### texts -/
theorem str_nil (x : Str) : x ++ ("" : Str) = x := str_ext (by rw [app_cps]; simp [show (("" : Str)).cps.toList = [] by decide +kernel])
theorem nil_str (x : Str) : ("" : Str) ++ x = x := str_ext (by rw [app_cps]; simp [show (("" : Str)).cps.toList = [] by decide +kernel])
theorem tx_join {zs : List Str} (h : ∀ z ∈ zs, Lin 160 z) (hl : zs.length ≤ 90) : (Txt.join wNl zs).length ≤ 14500 ∧ (∀ p ∈ linesN (Txt.join wNl zs), Sht p 900) ∧ (linesN (Txt.join wNl zs)).length ≤ 90 := by
  have h1 := join_len (n := 160) fun z hz => (h z hz).1.1
  refine ⟨by omega, ?_, ?_⟩
  · rw [lines_join fun z hz => (h z hz).2]
    intro p hp
    unfold baseN at hp
    split at hp
    · rw [List.mem_singleton.mp hp]
      exact (lin_of (n := 900) (by decide +kernel)).1
    · exact ((h p hp).le (show 160 ≤ 900 by decide)).1
  · rw [lines_join fun z hz => (h z hz).2]
    unfold baseN
    split
    · show 1 ≤ 90
      decide
    · exact hl
theorem nl_len : wNl.length = 1 := by decide +kernel
theorem e_sht : Sht ("" : Str) 900 := (lin_of (n := 900) (by decide +kernel)).1
theorem tx_ok {z : Str} (h : z.length ≤ 14500 ∧ (∀ p ∈ linesN z, Sht p 900) ∧ (linesN z).length ≤ 90) : TxOk z ∧ TxOk (z ++ wNl) ∧ TxOk (wNl ++ z) := by
  obtain ⟨h1, h2, h3⟩ := h
  have e1 : linesN (z ++ wNl) = linesN z ++ [("" : Str)] := by
    have := lines_app z ""
    rw [str_nil, lines_nil] at this
    exact this
  have e2 : linesN (wNl ++ z) = [("" : Str)] ++ linesN z := by
    have := lines_app "" z
    rw [nil_str, lines_nil] at this
    exact this
  refine ⟨⟨by omega, h2, by omega⟩, ⟨?_, ?_, ?_⟩, ⟨?_, ?_, ?_⟩⟩
  · rw [apl, nl_len]
    omega
  · rw [e1]
    intro p hp
    rcases List.mem_append.mp hp with hp | hp
    · exact h2 p hp
    · rw [List.mem_singleton.mp hp]
      exact e_sht
  · rw [e1, List.length_append]
    show _ + 1 ≤ 98
    omega
  · rw [apl, nl_len]
    omega
  · rw [e2]
    intro p hp
    rcases List.mem_append.mp hp with hp | hp
    · rw [List.mem_singleton.mp hp]
      exact e_sht
    · exact h2 p hp
  · rw [e2, List.length_append]
    show 1 + _ ≤ 98
    omega
theorem cut_drop {xs : List V} {k : Nat} (h : k ≤ xs.length) : cutV xs (some (k : Int)) none = xs.drop k := by
  unfold cutV
  have e : HT.sIx xs.length xs.length none = xs.length := rfl
  rw [HT.sIx_nat, Nat.min_eq_left h, e, List.take_of_length_le]
  rw [List.length_drop]
  exact Nat.le_refl _
theorem at_mod {α : Type} (L : List α) (f : α → V) (d : Int) {n : Int} (hn : (L.length : Int) = n) (h0 : 0 < n) : ∃ z ∈ L, atI (L.map f) (d % n) = some (f z) := by
  have h1 := Int.emod_nonneg d (show n ≠ 0 by omega)
  have h2 := Int.emod_lt_of_pos d h0
  obtain ⟨j, hj⟩ : ∃ j : Nat, d % n = (j : Int) := ⟨(d % n).toNat, by omega⟩
  have hl : j < L.length := by omega
  refine ⟨L[j], List.getElem_mem hl, ?_⟩
  rw [hj]
  refine atI_nat ?_
  rw [List.getElem?_map, List.getElem?_eq_getElem hl]
  rfl
/-- a list's object may be stored anew without harm to tuples -/
theorem StAt.put {H : Hp} {D a : Addr} {ys zs : List V} {ps : List Part} (h : StAt H a ps) (hD : H D = some (.lst ys)) : StAt (upd H D (.lst zs)) a ps := by
  obtain ⟨xs, ha, hp⟩ := h
  have hb : a ≠ D := fun e => by rw [e, hD] at ha; cases ha
  refine ⟨xs, (upd_ne hb).trans ha, Paired.mono (fun x pt hx => ?_) hp⟩
  cases pt with
  | s z => exact hx
  | t zs' =>
    obtain ⟨c, e, hc⟩ := hx
    exact ⟨c, e, (upd_ne (fun e => by rw [e, hD] at hc; cases hc)).trans hc⟩
theorem pair_take {α β : Type} {R : α → β → Prop} : ∀ {xs : List α} {ys : List β} (k : Nat), Paired R xs ys → Paired R (xs.take k) (ys.take k) ∧ Paired R (xs.drop k) (ys.drop k)
  | _, _, 0, h => ⟨.nil, h⟩
  | _, _, k + 1, .nil => ⟨.nil, .nil⟩
  | _, _, k + 1, .cons a t => ⟨.cons a (pair_take k t).1, (pair_take k t).2⟩
abbrev s_law : Stmt := topS 30
abbrev N_law : List Str := ["_law_script", "_law_pool", "_law_style", "_law_steps", "_law_k", "_law_lines_here", "_law_text", "_law_odd", "_law_one", "_law_two", "_law_at", "_law_spoilt", "_law_texts", "_law_long", "_law_all_lines", "_law_each", "_law_wrong", "_law_lists", "_law_step"]
theorem sc_law : FnScope N_law ["_law_script"] (defScope s_law) := ⟨rfl, rfl, rfl, by decide +kernel, rfl, by decide +kernel, by decide +kernel⟩

def spLaw (K : PySem.W.Frag) : Sp := fun vs H Q _ => ∃ (a : Addr) (ns : List Int), vs = [.ref a] ∧ SqL K H a (ns.map V.int) ∧ ns.length ≤ 63 ∧ ∀ H', Q (.bl true) H'
section
variable {P : Program} {w : World} {K : PySem.W.Frag} {mg : Str → Option Value} {base : Heap}
theorem ok_law {f : Addr} {fd : FuncData} (F : Fun K "law" "law" s_law f fd) (T : TxS mg) (C_draws_of : Cal P w K mg base "_law_draws_of" 1 (spDraws K)) (C_nth : Cal P w K mg base "_law_nth" 1 (spNth K)) (C_good_step : Cal P w K mg base "_law_good_step" 2 spGood)
    (C_text_of : Cal P w K mg base "_law_text_of" 1 spText) (C_right : Cal P w K mg base "_law_right" 7 spRightT) (C_written : Cal P w K mg base "_law_written" 7 spWrit) : FnOk P w K mg base CX0 8 f fd ["_law_script"] (spLaw K) := by
  refine F.ok sc_law (fun vs H Q E h => ?_) (fun cdv A outer s H vs Q E hr h => ?_)
  · obtain ⟨a, ns, rfl, _⟩ := h
    rfl
  · obtain ⟨a, ns, rfl, hS, hlen, q⟩ := h
    refine ⟨_, (pss_cons (ps_set (i := 1) sc_law.nd rfl (Or.inl rfl) (pe_cal C_draws_of (hr.mono (by decide)) (by rfl) (pa_cons (pv 0) pa_nil)))
      (pss_cons (ps_set (i := 2) sc_law.nd rfl (Or.inl rfl) (pe_op op_fdiv (pe_callTy call_int1 (by rfl) T.m_int (by decide +kernel) (pa_cons (pe_ix ix_list (pv 1) pe_int (fun _ _ => rfl)) pa_nil)) pe_int))
      (pss_cons (ps_set (i := 3) sc_law.nd rfl (Or.inl rfl) (pe_lst pa_nil))
      (pss_cons (ps_for PassesOwn.never rfl (pi_range1 (by rfl) T.m_range (pa_cons (pe_op op_mod (pe_callTy call_int1 (by rfl) T.m_int (by decide +kernel) (pa_cons (pe_ix ix_list (pv 1) pe_int (fun _ _ => rfl)) pa_nil)) pe_int) pa_nil)) (pg_name (i := 4) sc_law.nd rfl (Or.inl rfl))
        (pss_one (ps_expr (pe_bm PySem.F.plainAttrs_list PySem.F.slot_list_append PySem.F.type_list_append mt_append (pv 3) (pa_cons (pe_cal C_good_step (hr.mono (by decide)) (by rfl) (pa_cons (pe_cal C_nth (hr.mono (by decide)) (by rfl) (pa_cons (pv 1) (pa_cons (pe_op op_add pe_int (pv 4)) pa_nil))) (pa_cons (pv 2) pa_nil))) pa_nil)))))
      (pss_cons (ps_setLc (i := 5) rfl sc_law.nd rfl rfl (sw_true rfl rfl rfl (by decide +kernel)) (pi_list (pv 3)) (blkOk_by (own := [("_law_step", 18)]) (N := N_law) (sc := defScope s_law) (by decide +kernel)) (fun _ _ _ _ _ => pg_name (i := 18) sc_law.nd rfl (Or.inl rfl)) (fun _ _ _ _ _ => pts_nil) (fun _ _ _ _ _ => (pe_cal C_text_of (hr.mono (by decide)) (by rfl) (pa_cons (pv 18) pa_nil))))
      (pss_cons (ps_set (i := 6) sc_law.nd rfl (Or.inl rfl) (pe_join pe_str (pv 5)))
      (pss_cons (ps_set (i := 7) sc_law.nd rfl (Or.inl rfl) (pe_lst (pa_cons pe_str (pa_cons pe_str (pa_cons pe_str (pa_cons pe_str (pa_cons pe_str (pa_cons pe_str (pa_cons pe_str (pa_cons pe_str pa_nil))))))))))
      (C8.pss_cut (ps_set (i := 7) sc_law.nd rfl (Or.inl rfl) (pe_op op_cat (pv 7) (pe_lst (pa_cons pe_str (pa_cons pe_str (pa_cons pe_str pa_nil))))))
      (pss_cons (ps_set (i := 8) sc_law.nd rfl (Or.inl rfl) (pe_ix ix_list (pv 7) (pe_op op_mod (pe_callTy call_int1 (by rfl) T.m_int (by decide +kernel) (pa_cons (pe_ix ix_list (pv 1) pe_int (fun _ _ => rfl)) pa_nil)) pe_int) (fun _ _ => rfl)))
      (pss_cons (ps_set (i := 9) sc_law.nd rfl (Or.inl rfl) (pe_ix ix_list (pv 7) (pe_op op_mod (pe_op op_fdiv (pe_callTy call_int1 (by rfl) T.m_int (by decide +kernel) (pa_cons (pe_ix ix_list (pv 1) pe_int (fun _ _ => rfl)) pa_nil)) pe_int) pe_int) (fun _ _ => rfl)))
      (C8.pss_cut (ps_set (i := 10) sc_law.nd rfl (Or.inl rfl) (pe_op op_mod (pe_op op_fdiv (pe_callTy call_int1 (by rfl) T.m_int (by decide +kernel) (pa_cons (pe_ix ix_list (pv 1) pe_int (fun _ _ => rfl)) pa_nil)) pe_int) (pe_op op_add (pe_callB call_len_seq (by rfl) T.m_len (by decide +kernel) (pa_cons (pv 5) pa_nil)) pe_int)))
      (C8.pss_cut (ps_set (i := 11) sc_law.nd rfl (Or.inl rfl) (pe_op op_cat (pe_op op_cat (pe_slice sl_list (pv 5) po_none (po_some (pv 10))) (pe_lst (pa_cons (pv 8) pa_nil))) (pe_slice sl_list (pv 5) (po_some (pv 10)) po_none)))
      (C8.pss_cut (ps_set (i := 12) sc_law.nd rfl (Or.inl rfl) (pe_lst (pa_cons (pv 6) (pa_cons (pe_op op_add_str (pv 6) pe_str) (pa_cons (pe_op op_add_str pe_str (pv 6)) (pa_cons (pe_join pe_str (pv 11)) pa_nil))))))
      (C8.pss_cut (ps_set (i := 12) sc_law.nd rfl (Or.inl rfl) (pe_op op_cat (pv 12) (pe_lst (pa_cons (pe_join pe_str (pe_op op_cat (pv 11) (pe_lst (pa_cons (pv 9) pa_nil)))) (pa_cons (pe_join pe_str (pe_op op_cat (pe_lst (pa_cons (pv 9) pa_nil)) (pv 11))) pa_nil)))))
      (C8.pss_cut (ps_set (i := 13) sc_law.nd rfl (Or.inl rfl) (pe_op op_cat (pv 3) (pe_lc (own := [("_law_k", 4)]) (g := gName 4) (tt := tYes) rfl sc_law.nd (pi_range1 (by rfl) T.m_range (pa_cons (pe_op op_sub pe_int (pe_callB call_len_seq (by rfl) T.m_len (by decide +kernel) (pa_cons (pv 3) pa_nil))) pa_nil)) (blkOk_by (own := [("_law_k", 4)]) (N := N_law) (sc := defScope s_law) (by decide +kernel)) (fun _ _ _ _ _ => pg_name (i := 4) sc_law.nd rfl (Or.inl rfl)) (fun _ _ _ _ _ => pts_nil) (fun _ _ _ _ _ => (pe_tup (pa_cons pe_str (pa_cons pe_str pa_nil)))))))
      (pss_cons (ps_setLc (i := 14) rfl sc_law.nd rfl rfl (sw_true rfl rfl rfl (by decide +kernel)) (pi_list (pv 13)) (blkOk_by (own := [("_law_step", 18)]) (N := N_law) (sc := defScope s_law) (by decide +kernel)) (fun _ _ _ _ _ => pg_name (i := 18) sc_law.nd rfl (Or.inl rfl)) (fun _ _ _ _ _ => pts_nil) (fun _ _ _ _ _ => (pe_cal C_text_of (hr.mono (by decide)) (by rfl) (pa_cons (pv 18) pa_nil))))
      (C8.pss_cut (ps_set (i := 12) sc_law.nd rfl (Or.inl rfl) (pe_op op_cat (pv 12) (pe_lst (pa_cons (pe_join pe_str (pv 14)) (pa_cons (pe_join pe_str (pe_op op_cat (pv 14) (pe_lst (pa_cons (pv 9) pa_nil)))) pa_nil)))))
      (pss_cons (ps_for PassesOwn.never rfl (pi_list (pv 12)) (pg_name (i := 15) sc_law.nd rfl (Or.inl rfl))
        (pss_one (ps_if (pt_not (pt_val (pe_cal C_right (hr.mono (by decide)) (by rfl) (pa_cons (pv 15) pa_nil))))
          (pss_one (ps_ret pe_bl))
          pss_nil)))
      (C8.pss_cut (ps_set (i := 16) sc_law.nd rfl (Or.inl rfl) (pe_lst (pa_cons (pe_tup pa_nil) (pa_cons (pe_tup (pa_cons pe_str pa_nil)) (pa_cons (pe_tup (pa_cons pe_str (pa_cons pe_str (pa_cons (pe_tup (pa_cons pe_str (pa_cons pe_str pa_nil))) pa_nil)))) (pa_cons (pe_tup (pa_cons pe_str (pa_cons pe_str (pa_cons pe_str pa_nil)))) pa_nil))))))
      (C8.pss_cut (ps_set (i := 16) sc_law.nd rfl (Or.inl rfl) (pe_op op_cat (pv 16) (pe_lst (pa_cons (pe_tup (pa_cons pe_str (pa_cons pe_str (pa_cons pe_str pa_nil)))) (pa_cons (pe_tup (pa_cons pe_str (pa_cons pe_str pa_nil))) pa_nil)))))
      (pss_cons (ps_set (i := 8) sc_law.nd rfl (Or.inl rfl) (pe_ix ix_list (pv 16) (pe_op op_mod (pe_callTy call_int1 (by rfl) T.m_int (by decide +kernel) (pa_cons (pe_ix ix_list (pv 1) pe_int (fun _ _ => rfl)) pa_nil)) pe_int) (fun _ _ => rfl)))
      (pss_cons (ps_set (i := 9) sc_law.nd rfl (Or.inl rfl) (pe_ix ix_list (pv 16) (pe_op op_mod (pe_op op_fdiv (pe_callTy call_int1 (by rfl) T.m_int (by decide +kernel) (pa_cons (pe_ix ix_list (pv 1) pe_int (fun _ _ => rfl)) pa_nil)) pe_int) pe_int) (fun _ _ => rfl)))
      (C8.pss_cut (ps_set (i := 11) sc_law.nd rfl (Or.inl rfl) (pe_op op_cat (pe_op op_cat (pe_slice sl_list (pv 3) po_none (po_some (pv 10))) (pe_lst (pa_cons (pv 8) pa_nil))) (pe_slice sl_list (pv 3) (po_some (pv 10)) po_none)))
      (C8.pss_cut (ps_set (i := 17) sc_law.nd rfl (Or.inl rfl) (pe_lst (pa_cons (pv 3) (pa_cons (pv 11) (pa_cons (pe_op op_cat (pv 11) (pe_lst (pa_cons (pv 9) pa_nil))) (pa_cons (pe_op op_cat (pe_lst (pa_cons (pv 9) pa_nil)) (pv 11)) pa_nil))))))
      (pss_cons (ps_for PassesOwn.never rfl (pi_list (pe_op op_cat (pv 17) (pe_lst (pa_cons (pv 13) (pa_cons (pe_op op_cat (pv 13) (pe_lst (pa_cons (pv 9) pa_nil))) pa_nil))))) (pg_name (i := 15) sc_law.nd rfl (Or.inl rfl))
        (pss_one (ps_if (pt_not (pt_val (pe_cal C_written (hr.mono (by decide)) (by rfl) (pa_cons (pv 15) pa_nil))))
          (pss_one (ps_ret pe_bl))
          pss_nil)))
      (pss_one (ps_ret pe_bl))))))))))))))))))))))))))), ?_⟩
    refine ⟨_, rfl, a, ns, rfl, hS, hlen, fun H1 p ms sm np ep hP => ?_⟩
    have hlo := hP.lo
    have r0 := (getD_rg hP.rg (i := 0) (by omega)).2
    have r1 := (getD_rg hP.rg (i := 1) (by omega)).2
    have r2 := (getD_rg hP.rg (i := 2) (by omega)).2
    obtain ⟨r0a, r0b⟩ := r0
    obtain ⟨r1a, r1b⟩ := r1
    obtain ⟨r2a, r2b⟩ := r2
    have a0 : atI (ms.map V.int) 0 = some (.int (ms.getD 0 0)) := at_pool (by decide) (by omega)
    have a1 : atI (ms.map V.int) 1 = some (.int (ms.getD 1 0)) := at_pool (by decide) (by omega)
    have a2 : atI (ms.map V.int) 2 = some (.int (ms.getD 2 0)) := at_pool (by decide) (by omega)
    generalize ms.getD 0 0 = d0 at *
    generalize ms.getD 1 0 = d1 at *
    generalize ms.getD 2 0 = d2 at *
    refine ⟨_, rfl, p, _, 0, _, rfl, rfl, .inl (.inl ep), a0, .inl ⟨_, rfl, _, _, rfl, rfl, ⟨by decide, by decide⟩, ?_⟩⟩
    have hst : 0 ≤ d0 / 8 ∧ d0 / 8 < 70000 := by omega
    refine ⟨Nat.zero_le _, fun l nl => ?_⟩
    have sl1 := same_upd (o := .lst []) nl
    refine ⟨_, rfl, p, _, 1, _, rfl, rfl, .inl (.inl (sl1 _ _ ep)), a1, .inl ⟨_, rfl, _, _, rfl, rfl, (by show (0 : Int) < 21; decide), _, rfl, by omega, by omega, ?_⟩⟩
    refine for_range (lo := 0) (n := (d1 % 21).toNat) (fun i σ Hx => ∃ (x4 : Option V) (xs : List Addr) (pss : List (List Part)), σ = [some (.ref a), some (.ref p), some (.int (d0 / 8)), some (.ref l), x4, none, none, none, none, none, none, none, none, none, none, none, none, none, none] ∧ Same H1 Hx ∧ LsAt Hx l xs pss ∧ (∀ ps ∈ pss, GoodP ps) ∧ pss.length = i)
      ⟨none, [], [], rfl, sl1, ⟨upd_same, .nil⟩, (fun ps h => nomatch h), rfl⟩ ?_ ?_
    · rintro i σ Hx hi ⟨x4, xs, pss, rfl, sx, hls, hg, hl⟩
      have hi20 : i < 20 := by omega
      have hn := nthV_rg hP (k := 3 + (0 + (i : Int))) (by omega)
      obtain ⟨hn1, hn2⟩ := hn
      refine ⟨_, rfl, .inl ⟨rfl, _, .inl (.inl hls.1)⟩, _, rfl, _, rfl, _, _, rfl, rfl, p, ms, _, rfl, .inl (.inl (sx _ _ ep)), hP, by omega, by omega, _, rfl, _, _, rfl, hn1, by omega, hst.1, hst.2, fun b ps H2 s2 hb hG => ?_⟩
      have hx2 := hls.same s2
      have hxl := hls.2.length
      refine ⟨l, _, _, rfl, rfl, hx2.1, sz8 (by rw [List.length_map]; omega), ?_⟩
      refine ⟨_, xs ++ [b], pss ++ [ps], rfl, same_mut (sx.trans s2) nl, ⟨?_, ?_⟩, fun q hq => ?_, by rw [List.length_append, hl]; rfl⟩
      · rw [upd_same, List.map_append]
        rfl
      · exact paired_app (Paired.mono (fun _ _ h => h.put hx2.1) hx2.2) (.cons (hb.put hx2.1) .nil)
      · rcases List.mem_append.mp hq with hq | hq
        · exact hg q hq
        · rw [List.mem_singleton.mp hq]
          exact hG
    rintro σ H2 ⟨x4, xs, pss, rfl, s2, hls, hgood, hl⟩
    have hpl : pss.length ≤ 20 := by omega
    have hxl := hls.2.length
    have ep2 := s2 _ _ ep
    have hgf : ∀ ps ∈ pss, Form ps ∧ okF ps ∧ Lin 160 (textP ps) := fun ps h => good_form (hgood ps h)
    clear s2 sl1
    -- the lines
    refine ⟨_, rfl, l, rfl, ⟨_, .inl (.inl hls.1)⟩, fun D hD => ?_⟩
    refine lc_list (xs := xs.map V.ref) (fun i H3 => Same H2 H3 ∧ H3 D = some (.lst (((pss.take i).map textP).map V.str))) ⟨same_upd hD, upd_same⟩ (fun i H3 _ ⟨s3, _⟩ => .inl (.inl (s3 _ _ hls.1))) ?_ ?_
    · rintro i y H3 hy ⟨s3, d3⟩
      obtain ⟨b, hb, rfl⟩ := ref_get hy
      obtain ⟨ps, hps, hst'⟩ := pair_get hls.2 hb
      have hm := List.mem_of_getElem? hps
      have hil := (List.getElem?_eq_some_iff.mp hps).1
      refine ⟨rfl, _, rfl, b, ps, rfl, hst'.same s3, (hgf ps hm).2.1.1, (hgf ps hm).1, fun H4 s4 => ⟨_, s4 _ _ d3, ?_, same_mut (s3.trans s4) hD, ?_⟩⟩
      · rw [List.length_map, List.length_map, List.length_take]
        exact sz8 (by omega)
      · rw [upd_same, List.take_add_one, hps, List.map_append, List.map_append]
        rfl
    rintro H3 ⟨s3, eD⟩
    rw [List.length_map, hxl, List.take_length] at eD
    have hls3 := hls.same s3
    have ep3 := s3 _ _ ep2
    clear hls ep2 s3
    have hzl : ∀ z ∈ pss.map textP, Lin 160 z := fun z hz => by
      obtain ⟨ps, h, rfl⟩ := List.mem_map.mp hz
      exact (hgf ps h).2.2
    have hzn : (pss.map textP).length ≤ 20 := by rw [List.length_map]; exact hpl
    generalize hzs : pss.map textP = zs at *
    have hsum : ∀ (k : Nat) (l : List Str), (∀ z ∈ l, Lin 160 z) → l.length ≤ k → (l.map (·.length)).sum + l.length * wNl.length ≤ 161 * k := fun k l h hk => by
      have : ∀ l : List Str, (∀ z ∈ l, Lin 160 z) → (l.map (·.length)).sum ≤ 160 * l.length := by
        intro l
        induction l with
        | nil => intro _; exact Nat.zero_le _
        | cons z ys ih =>
          intro h1
          have a1 := (h1 z List.mem_cons_self).1.1
          have a2 := ih (fun y hy => h1 y (List.mem_cons_of_mem _ hy))
          rw [List.map_cons, List.sum_cons, List.length_cons]
          omega
      have := this l h
      rw [nl_len]
      omega
    have jb : ∀ (k : Nat) (l : List Str), (∀ z ∈ l, Lin 160 z) → l.length ≤ k → k ≤ 100 → (l.map (·.length)).sum + l.length * wNl.length ≤ sizeLine := fun k l h hk h1 => sz9 (by have := hsum k l h hk; omega)
    refine ⟨⟨_, rfl⟩, _, rfl, wNl, D, zs, rfl, rfl, .inl (.inl (.inl eD)), jb 20 zs hzl hzn (by decide), ?_⟩
    have hX := tx_join hzl (by omega)
    obtain ⟨hX0, hX1, hX2⟩ := tx_ok hX
    have hXl := hX.1
    generalize Txt.join wNl zs = X0 at hX0 hX1 hX2 hXl ⊢
    clear hX
    -- the odd lines
    refine ⟨by show 8 ≤ sizeLine; decide, fun o1 no1 => ?_⟩
    let S7 : Addr → Option V → Option V → Option V → Option V → Option V → Option V → Option V → Option V → Option V → Option V → L2.St := fun o x8 x9 x10 x11 x12 x13 x14 x15 x16 x17 => [some (.ref a), some (.ref p), some (.int (d0 / 8)), some (.ref l), x4, some (.ref D), some (.str X0), some (.ref o), x8, x9, x10, x11, x12, x13, x14, x15, x16, x17, none]
    refine ⟨fun σ' H' => ∃ o3, σ' = S7 o3 none none none none none none none none none none ∧ Same H3 H' ∧ H' o3 = some (.lst ((OD1 ++ OD2).map V.str)), ?_, ?_⟩
    · refine ⟨_, rfl, by show 3 ≤ sizeLine; decide, fun o2 no2 => ?_⟩
      refine ⟨o1, o2, OD1.map V.str, OD2.map V.str, rfl, rfl, same_upd no2 _ _ upd_same, upd_same, by show 11 ≤ sizeLine; decide, fun o3 no3 => ?_⟩
      exact ⟨o3, rfl, ((same_upd no1).trans (same_upd no2)).trans (same_upd no3), by rw [upd_same, List.map_append]⟩
    rintro _ H4 ⟨o3, rfl, s4, eO⟩
    have hls4 := hls3.same s4
    have eD4 := s4 _ _ eD
    have ep4 := s4 _ _ ep3
    clear hls3 eD ep3 s4 no1
    obtain ⟨z1, hz1, az1⟩ := at_mod (OD1 ++ OD2) V.str d2 (n := 11) rfl (by decide)
    obtain ⟨z2, hz2, az2⟩ := at_mod (OD1 ++ OD2) V.str (d2 / 11) (n := 11) rfl (by decide)
    have lz1 := od_lin z1 hz1
    have lz2 := od_lin z2 hz2
    refine ⟨_, rfl, _, rfl, p, _, 2, _, rfl, rfl, .inl (.inl ep4), a2, .inl ⟨_, rfl, _, _, rfl, rfl, (by show (0 : Int) < 11; decide), o3, _, _, _, rfl, rfl, .inl (.inl eO), az1, ?_⟩⟩
    refine ⟨_, rfl, _, rfl, p, _, 2, _, rfl, rfl, .inl (.inl ep4), a2, .inl ⟨_, rfl, _, _, rfl, rfl, ⟨by decide, by decide⟩, _, _, rfl, rfl, (by show (0 : Int) < 11; decide), o3, _, _, _, rfl, rfl, .inl (.inl eO), az2, ?_⟩⟩
    have hzlen : ((zs.map V.str).length : Int) = (zs.length : Int) := by rw [List.length_map]
    obtain ⟨k, hk, hkz⟩ : ∃ k : Nat, d2 / 121 % (((zs.map V.str).length : Nat) + 1 : Int) = (k : Int) ∧ k ≤ zs.length := by
      have h0 := Int.emod_nonneg (d2 / 121) (show ((zs.map V.str).length : Int) + 1 ≠ 0 by omega)
      have h1 := Int.emod_lt_of_pos (d2 / 121) (show 0 < ((zs.map V.str).length : Int) + 1 by omega)
      exact ⟨(d2 / 121 % (((zs.map V.str).length : Nat) + 1 : Int)).toNat, by omega, by omega⟩
    have hkp : k ≤ pss.length := by
      rw [← hzs, List.length_map] at hkz
      exact hkz
    have hlm : (zs.map V.str).length = zs.length := List.length_map _
    refine ⟨fun σ' H' => σ' = S7 o3 (some (.str z1)) (some (.str z2)) (some (.int k)) none none none none none none none ∧ H4 = H', ?_, ?_⟩
    · refine ⟨_, rfl, p, _, 2, _, rfl, rfl, .inl (.inl ep4), a2, .inl ⟨_, rfl, _, _, rfl, rfl, ⟨by decide, by decide⟩, _, rfl, D, _, rfl, .inl (.inl (.inl eD4)), _, _, rfl, rfl, _, _, rfl, rfl, (by show (0 : Int) < ((zs.map V.str).length : Int) + 1; omega), ?_⟩⟩
      exact ⟨by rw [← hk]; rfl, rfl⟩
    rintro _ _ ⟨rfl, rfl⟩
    -- the spoilt lines
    have t1 := cut_take (xs := zs.map V.str) (k := k) (by rw [hlm]; exact hkz)
    have t2 := cut_drop (xs := zs.map V.str) (k := k) (by rw [hlm]; exact hkz)
    obtain ⟨sp, hsp⟩ : ∃ sp, sp = zs.take k ++ [z1] ++ zs.drop k := ⟨_, rfl⟩
    have lsp : ∀ z ∈ sp, Lin 160 z := fun z hz => by
      rw [hsp] at hz
      rcases List.mem_append.mp hz with hz | hz
      · rcases List.mem_append.mp hz with hz | hz
        · exact hzl z (List.mem_of_mem_take hz)
        · rw [List.mem_singleton.mp hz]
          exact lz1
      · exact hzl z (List.mem_of_mem_drop hz)
    have nsp : sp.length ≤ 21 := by
      rw [hsp, List.length_append, List.length_append, List.length_take, List.length_drop]
      show min k zs.length + 1 + _ ≤ 21
      omega
    refine ⟨fun σ' H' => ∃ c5, σ' = S7 o3 (some (.str z1)) (some (.str z2)) (some (.int k)) (some (.ref c5)) none none none none none none ∧ Same H4 H' ∧ H' c5 = some (.lst (sp.map V.str)), ?_, ?_⟩
    · refine ⟨_, rfl, _, rfl, _, rfl, D, _, rfl, .inl (.inl eD4), fun c1 nc1 => ?_⟩
      rw [t1]
      refine ⟨_, rfl, by show 1 ≤ sizeLine; decide, fun c2 nc2 => ⟨c1, c2, _, _, rfl, rfl, same_upd nc2 _ _ upd_same, upd_same, sz9 (by rw [List.length_take]; show _ + 1 ≤ _; omega), fun c3 nc3 => ?_⟩⟩
      have s3 := ((same_upd (o := .lst ((zs.map V.str).take k)) nc1).trans (same_upd (o := .lst [V.str z1]) nc2)).trans (same_upd (o := .lst ((zs.map V.str).take k ++ [V.str z1])) nc3)
      refine ⟨_, rfl, _, rfl, _, rfl, D, _, rfl, .inl (.inl (s3 _ _ eD4)), fun c4 nc4 => ?_⟩
      rw [t2]
      refine ⟨c3, c4, _, _, rfl, rfl, same_upd nc4 _ _ upd_same, upd_same, sz9 (by rw [List.length_append, List.length_take, List.length_drop]; show _ + 1 + _ ≤ _; omega), fun c5 nc5 => ?_⟩
      refine ⟨c5, rfl, (s3.trans (same_upd nc4)).trans (same_upd nc5), ?_⟩
      rw [upd_same, hsp, List.map_append, List.map_append, List.map_take, List.map_drop]
      rfl
    rintro _ H5 ⟨c5, rfl, s5, eS⟩
    have hls5 := hls4.same s5
    have ep5 := s5 _ _ ep4
    clear hls4 eD4 ep4 s5 eO az1 az2
    have ex1 : ∀ {x : Str}, x.length ≤ 14500 → x.length + wNl.length ≤ sizeLine ∧ wNl.length + x.length ≤ sizeLine := fun h => ⟨sz9 (by rw [nl_len]; omega), sz9 (by rw [nl_len]; omega)⟩
    -- the texts
    refine ⟨fun σ' H' => ∃ t1, σ' = S7 o3 (some (.str z1)) (some (.str z2)) (some (.int k)) (some (.ref c5)) (some (.ref t1)) none none none none none ∧ Same H5 H' ∧ H' t1 = some (.lst ([X0, X0 ++ wNl, wNl ++ X0, Txt.join wNl sp].map V.str)), ?_, ?_⟩
    · refine ⟨_, rfl, _, rfl, X0, wNl, rfl, rfl, (ex1 hXl).1, _, rfl, wNl, X0, rfl, rfl, (ex1 hXl).2, ⟨_, rfl⟩, _, rfl, wNl, c5, sp, rfl, rfl, .inl (.inl (.inl eS)), jb 21 sp lsp nsp (by decide), by show 4 ≤ sizeLine; decide, fun t1 nt1 => ?_⟩
      exact ⟨t1, rfl, same_upd nt1, upd_same⟩
    rintro _ H6 ⟨t1', rfl, s6, eT1⟩
    have hls6 := hls5.same s6
    have ep6 := s6 _ _ ep5
    have eS6 := s6 _ _ eS
    clear hls5 ep5 s6 eS
    refine ⟨fun σ' H' => ∃ t3, σ' = S7 o3 (some (.str z1)) (some (.str z2)) (some (.int k)) (some (.ref c5)) (some (.ref t3)) none none none none none ∧ Same H6 H' ∧ H' t3 = some (.lst (([X0, X0 ++ wNl, wNl ++ X0, Txt.join wNl sp] ++ [Txt.join wNl (sp ++ [z2]), Txt.join wNl ([z2] ++ sp)]).map V.str)), ?_, ?_⟩
    · have hml : (sp.map V.str).length = sp.length := List.length_map _
      have lsa : ∀ z ∈ sp ++ [z2], Lin 160 z := fun z hz => by
        rcases List.mem_append.mp hz with hz | hz
        · exact lsp z hz
        · rw [List.mem_singleton.mp hz]
          exact lz2
      have lsb : ∀ z ∈ [z2] ++ sp, Lin 160 z := fun z hz => by
        rcases List.mem_append.mp hz with hz | hz
        · rw [List.mem_singleton.mp hz]
          exact lz2
        · exact lsp z hz
      refine ⟨_, rfl, ⟨_, rfl⟩, _, rfl, _, rfl, by show 1 ≤ sizeLine; decide, fun c6 nc6 => ⟨c5, c6, _, _, rfl, rfl, same_upd nc6 _ _ eS6, upd_same, sz9 (by rw [hml]; show _ + 1 ≤ _; omega), fun c7 nc7 => ?_⟩⟩
      have s67 := (same_upd (o := .lst [V.str z2]) nc6).trans (same_upd (o := .lst (sp.map V.str ++ [V.str z2])) nc7)
      refine ⟨wNl, c7, sp ++ [z2], rfl, rfl, .inl (.inl (.inl ?_)), jb 22 _ lsa (by rw [List.length_append]; show _ + 1 ≤ _; omega) (by decide), ⟨_, rfl⟩, _, rfl, by show 1 ≤ sizeLine; decide, fun c8 nc8 => ⟨_, rfl, c8, c5, _, _, rfl, rfl, upd_same, same_upd nc8 _ _ (s67 _ _ eS6), sz9 (by rw [hml]; show 1 + _ ≤ _; omega), fun c9 nc9 => ?_⟩⟩
      · rw [upd_same, List.map_append]
        rfl
      have s69 := (s67.trans (same_upd (o := .lst [V.str z2]) nc8)).trans (same_upd (o := .lst ([V.str z2] ++ sp.map V.str)) nc9)
      refine ⟨wNl, c9, [z2] ++ sp, rfl, rfl, .inl (.inl (.inl ?_)), jb 22 _ lsb (by rw [List.length_append]; show 1 + _ ≤ _; omega) (by decide), by show 2 ≤ sizeLine; decide, fun t2' nt2 => ⟨t1', t2', _, _, rfl, rfl, same_upd nt2 _ _ (s69 _ _ eT1), upd_same, by show 6 ≤ sizeLine; decide, fun t3 nt3 => ?_⟩⟩
      · rw [upd_same]
        rfl
      exact ⟨t3, rfl, (s69.trans (same_upd nt2)).trans (same_upd nt3), by rw [upd_same, List.map_append]; rfl⟩
    rintro _ H7 ⟨t3, rfl, s7, eT3⟩
    have hls7 := hls6.same s7
    have ep7 := s7 _ _ ep6
    clear hls6 ep6 s7 eS6 eT1
    -- the long list
    obtain ⟨lg, hlg⟩ : ∃ lg, lg = pss ++ List.replicate (79 - pss.length) QA := ⟨_, rfl⟩
    have glg : ∀ ps ∈ lg, GoodP ps := fun ps h => by
      rw [hlg] at h
      rcases List.mem_append.mp h with h | h
      · exact hgood ps h
      · rw [(List.mem_replicate.mp h).2]
        exact qa_good
    have nlg : lg.length = 79 := by
      rw [hlg, List.length_append, List.length_replicate]
      omega
    have hxm : (xs.map V.ref).length = pss.length := by rw [List.length_map]; exact hxl
    refine ⟨fun σ' H' => ∃ (L : Addr) (xl : List Addr), σ' = S7 o3 (some (.str z1)) (some (.str z2)) (some (.int k)) (some (.ref c5)) (some (.ref t3)) (some (.ref L)) none none none none ∧ Same H7 H' ∧ LsAt H' L xl lg, ?_, ?_⟩
    · refine ⟨_, rfl, _, rfl, l, _, rfl, .inl (.inl (.inl hls7.1)), _, _, rfl, rfl, _, rfl, by omega, by omega, fun D2 nD2 => ?_⟩
      refine lc_range (lo := 0) (n := (79 - ((xs.map V.ref).length : Int)).toNat) (fun i Hx => Same H7 Hx ∧ ∃ x2 : List Addr, Hx D2 = some (.lst (x2.map V.ref)) ∧ Paired (StAt Hx) x2 (List.replicate i QA)) ⟨same_upd nD2, [], upd_same, .nil⟩ ?_ ?_
      · rintro i Hx hi ⟨sx, x2, e2, p2⟩
        have hx2 := p2.length
        rw [List.length_replicate] at hx2
        refine ⟨rfl, by show 2 ≤ sizeLine; decide, fun b nb => ?_⟩
        have sb := same_upd (o := .tup [V.str wQuit, V.str wA]) nb
        have e2' := sb _ _ e2
        have hqa : StAt (upd Hx b (.tup [V.str wQuit, V.str wA])) b QA := ⟨_, upd_same, .cons rfl (.cons rfl .nil)⟩
        refine ⟨_, e2', sz8 (by rw [List.length_map]; omega), same_mut (sx.trans sb) nD2, x2 ++ [b], ?_, ?_⟩
        · rw [upd_same, List.map_append]
          rfl
        · rw [List.replicate_succ']
          exact paired_app (Paired.mono (fun _ _ h => (StAt.same h sb).put e2') p2) (.cons (hqa.put e2') .nil)
      rintro Hx ⟨sx, x2, e2, p2⟩
      have hlsx := hls7.same sx
      have hx2 := p2.length
      rw [List.length_replicate] at hx2
      refine ⟨l, D2, _, _, rfl, rfl, hlsx.1, e2, sz9 (by rw [hxm, List.length_map]; omega), fun L nL => ?_⟩
      have sL := same_upd (o := .lst (xs.map V.ref ++ x2.map V.ref)) nL
      refine ⟨L, xs ++ x2, rfl, sx.trans sL, ?_, ?_⟩
      · rw [upd_same, List.map_append]
      · have en : (79 - ((xs.map V.ref).length : Int)).toNat = 79 - pss.length := by rw [hxm]; omega
        rw [en] at p2
        rw [hlg]
        exact paired_app (hlsx.same sL).2 (Paired.mono (fun _ _ h => StAt.same h sL) p2)
    rintro _ H8 ⟨L, xl, rfl, s8, hL8⟩
    have hls8 := hls7.same s8
    have ep8 := s8 _ _ ep7
    have eT8 := s8 _ _ eT3
    clear hls7 ep7 s8 eT3 hlg
    have glf : ∀ ps ∈ lg, Form ps ∧ okF ps ∧ Lin 160 (textP ps) := fun ps h => good_form (glg ps h)
    have hxll := hL8.2.length
    -- its lines
    refine ⟨_, rfl, L, rfl, ⟨_, .inl (.inl hL8.1)⟩, fun E1 hE1 => ?_⟩
    refine lc_list (xs := xl.map V.ref) (fun i H3 => Same H8 H3 ∧ H3 E1 = some (.lst (((lg.take i).map textP).map V.str))) ⟨same_upd hE1, upd_same⟩ (fun i H3 _ ⟨s3, _⟩ => .inl (.inl (s3 _ _ hL8.1))) ?_ ?_
    · rintro i y H3 hy ⟨s3, d3⟩
      obtain ⟨b, hb, rfl⟩ := ref_get hy
      obtain ⟨ps, hps, hst'⟩ := pair_get hL8.2 hb
      have hm := List.mem_of_getElem? hps
      have hil := (List.getElem?_eq_some_iff.mp hps).1
      refine ⟨rfl, _, rfl, b, ps, rfl, hst'.same s3, (glf ps hm).2.1.1, (glf ps hm).1, fun H4 s4 => ⟨_, s4 _ _ d3, ?_, same_mut (s3.trans s4) hE1, ?_⟩⟩
      · rw [List.length_map, List.length_map, List.length_take]
        exact sz8 (by omega)
      · rw [upd_same, List.take_add_one, hps, List.map_append, List.map_append]
        rfl
    rintro H9 ⟨s9, eE⟩
    rw [List.length_map, hxll, List.take_length] at eE
    have hls9 := hls8.same s9
    have hL9 := hL8.same s9
    have ep9 := s9 _ _ ep8
    have eT9 := s9 _ _ eT8
    clear hls8 hL8 ep8 s9 eT8
    have lal : ∀ z ∈ lg.map textP, Lin 160 z := fun z hz => by
      obtain ⟨ps, h, rfl⟩ := List.mem_map.mp hz
      exact (glf ps h).2.2
    have nal : (lg.map textP).length = 79 := by rw [List.length_map]; exact nlg
    generalize lg.map textP = al at eE lal nal ⊢
    have ham : (al.map V.str).length = al.length := List.length_map _
    have lala : ∀ z ∈ al ++ [z2], Lin 160 z := fun z hz => by
      rcases List.mem_append.mp hz with hz | hz
      · exact lal z hz
      · rw [List.mem_singleton.mp hz]
        exact lz2
    obtain ⟨TX, hTX⟩ : ∃ TX, TX = [X0, X0 ++ wNl, wNl ++ X0, Txt.join wNl sp] ++ [Txt.join wNl (sp ++ [z2]), Txt.join wNl ([z2] ++ sp)] ++ [Txt.join wNl al, Txt.join wNl (al ++ [z2])] := ⟨_, rfl⟩
    refine ⟨fun σ' H' => ∃ t6, σ' = S7 o3 (some (.str z1)) (some (.str z2)) (some (.int k)) (some (.ref c5)) (some (.ref t6)) (some (.ref L)) (some (.ref E1)) none none none ∧ Same H9 H' ∧ H' t6 = some (.lst (TX.map V.str)), ?_, ?_⟩
    · refine ⟨_, rfl, ⟨_, rfl⟩, _, rfl, wNl, E1, al, rfl, rfl, .inl (.inl (.inl eE)), jb 79 al lal (by omega) (by decide), ⟨_, rfl⟩, _, rfl, _, rfl, by show 1 ≤ sizeLine; decide, fun c6 nc6 => ⟨E1, c6, _, _, rfl, rfl, same_upd nc6 _ _ eE, upd_same, sz9 (by rw [ham]; show _ + 1 ≤ _; omega), fun c7 nc7 => ?_⟩⟩
      have s67 := (same_upd (o := .lst [V.str z2]) nc6).trans (same_upd (o := .lst (al.map V.str ++ [V.str z2])) nc7)
      refine ⟨wNl, c7, al ++ [z2], rfl, rfl, .inl (.inl (.inl ?_)), jb 80 _ lala (by rw [List.length_append]; show _ + 1 ≤ _; omega) (by decide), by show 2 ≤ sizeLine; decide, fun t5 nt5 => ⟨t3, t5, _, _, rfl, rfl, same_upd nt5 _ _ (s67 _ _ eT9), upd_same, by show 8 ≤ sizeLine; decide, fun t6 nt6 => ?_⟩⟩
      · rw [upd_same, List.map_append]
        rfl
      exact ⟨t6, rfl, (s67.trans (same_upd nt5)).trans (same_upd nt6), by rw [upd_same, hTX, List.map_append (l₂ := [Txt.join wNl al, Txt.join wNl (al ++ [z2])])]; rfl⟩
    rintro _ H10 ⟨t6, rfl, s10, eT10⟩
    have hls10 := hls9.same s10
    have hL10 := hL9.same s10
    have ep10 := s10 _ _ ep9
    clear hls9 hL9 ep9 s10 eT9 eE
    have hTXok : ∀ z ∈ TX, TxOk z := fun z hz => by
      rw [hTX] at hz
      simp only [List.mem_append, List.mem_cons, List.not_mem_nil, or_false] at hz
      have lsa : ∀ z ∈ sp ++ [z2], Lin 160 z := fun z hz => by
        rcases List.mem_append.mp hz with hz | hz
        · exact lsp z hz
        · rw [List.mem_singleton.mp hz]
          exact lz2
      have lsb : ∀ z ∈ [z2] ++ sp, Lin 160 z := fun z hz => by
        rcases List.mem_append.mp hz with hz | hz
        · rw [List.mem_singleton.mp hz]
          exact lz2
        · exact lsp z hz
      have n1 : (sp ++ [z2]).length ≤ 90 := by rw [List.length_append]; show _ + 1 ≤ _; omega
      have n2 : ([z2] ++ sp).length ≤ 90 := by rw [List.length_append]; show 1 + _ ≤ _; omega
      have n3 : (al ++ [z2]).length ≤ 90 := by rw [List.length_append]; show _ + 1 ≤ _; omega
      rcases hz with ((rfl | rfl | rfl | rfl) | (rfl | rfl)) | (rfl | rfl)
      · exact hX0
      · exact hX1
      · exact hX2
      · exact (tx_ok (tx_join lsp (by omega))).1
      · exact (tx_ok (tx_join lsa n1)).1
      · exact (tx_ok (tx_join lsb n2)).1
      · exact (tx_ok (tx_join lal (by omega))).1
      · exact (tx_ok (tx_join lala n3)).1
    -- each text
    refine ⟨_, rfl, t6, rfl, ⟨_, .inl (.inl eT10)⟩, ?_⟩
    refine for_list (xs := TX.map V.str) (fun i σ Hx => ∃ x15, σ = S7 o3 (some (.str z1)) (some (.str z2)) (some (.int k)) (some (.ref c5)) (some (.ref t6)) (some (.ref L)) (some (.ref E1)) x15 none none ∧ Same H10 Hx) ⟨none, rfl, Same.refl _⟩ (fun i σ Hx _ ⟨_, _, s'⟩ => .inl (.inl (s' _ _ eT10))) ?_ ?_
    · rintro i y σ Hx hy ⟨x15, rfl, sx⟩
      obtain ⟨z, hz, rfl⟩ : ∃ z, TX[i]? = some z ∧ y = .str z := by
        rw [List.getElem?_map] at hy
        cases e : TX[i]? with
        | none => rw [e] at hy; cases hy
        | some n => rw [e] at hy; exact ⟨n, rfl, (Option.some.inj hy).symm⟩
      exact ⟨_, rfl, z, rfl, hTXok z (List.mem_of_getElem? hz), fun H' s' => ⟨_, rfl, iteF ⟨_, rfl, sx.trans s'⟩⟩⟩
    rintro σ H11 ⟨x15, rfl, s11⟩
    have hls11 := hls10.same s11
    have hL11 := hL10.same s11
    have ep11 := s11 _ _ ep10
    clear hls10 hL10 ep10 s11 eT10
    -- the tuples that are no steps
    let S9 : Option V → Option V → Option V → Option V → Option V → L2.St := fun x8 x9 x11 x16 x17 => S7 o3 x8 x9 (some (.int k)) x11 (some (.ref t6)) (some (.ref L)) (some (.ref E1)) x15 x16 x17
    refine ⟨fun σ' H' => ∃ (W1 : Addr) (ws : List Addr), σ' = S9 (some (.str z1)) (some (.str z2)) (some (.ref c5)) (some (.ref W1)) none ∧ Same H11 H' ∧ LsAt H' W1 ws WR1, ?_, ?_⟩
    · refine ⟨Nat.zero_le _, fun w0 n0 => ⟨by show 1 ≤ sizeLine; decide, fun w1 n1 => ⟨by show 2 ≤ sizeLine; decide, fun wi ni => ⟨by show 3 ≤ sizeLine; decide, fun w2 n2 => ⟨by show 3 ≤ sizeLine; decide, fun w3 n3 => ⟨by show 4 ≤ sizeLine; decide, fun W1 nW => ?_⟩⟩⟩⟩⟩⟩
      have q0 := same_upd (o := .tup []) n0
      have q1 := same_upd (o := .tup [V.str wBegin]) n1
      have q2 := same_upd (o := .tup [V.str wX, V.str wX]) ni
      have q3 := same_upd (o := .tup [V.str wClose, V.str wA, V.ref wi]) n2
      have q4 := same_upd (o := .tup [V.str wRead, V.str wA, V.str wE]) n3
      have q5 := same_upd (o := .lst [V.ref w0, V.ref w1, V.ref w2, V.ref w3]) nW
      refine ⟨W1, [w0, w1, w2, w3], rfl, ((((q0.trans q1).trans q2).trans q3).trans q4).trans q5, upd_same, ?_⟩
      refine .cons ⟨[], q5 _ _ (q4 _ _ (q3 _ _ (q2 _ _ (q1 _ _ upd_same)))), .nil⟩ (.cons ⟨_, q5 _ _ (q4 _ _ (q3 _ _ (q2 _ _ upd_same))), .cons rfl .nil⟩ (.cons ⟨_, q5 _ _ (q4 _ _ upd_same), .cons rfl (.cons rfl (.cons ⟨wi, rfl, q5 _ _ (q4 _ _ (q3 _ _ upd_same))⟩ .nil))⟩ (.cons ⟨_, q5 _ _ upd_same, .cons rfl (.cons rfl (.cons rfl .nil))⟩ .nil)))
    rintro _ H12 ⟨W1, ws1, rfl, s12, hW1⟩
    have hls12 := hls11.same s12
    have hL12 := hL11.same s12
    have ep12 := s12 _ _ ep11
    clear hls11 hL11 ep11 s12
    refine ⟨fun σ' H' => ∃ (W3 : Addr) (ws : List Addr), σ' = S9 (some (.str z1)) (some (.str z2)) (some (.ref c5)) (some (.ref W3)) none ∧ Same H12 H' ∧ LsAt H' W3 ws (WR1 ++ WR2), ?_, ?_⟩
    · have hwl := hW1.2.length
      have hwl' : WR1.length = 4 := rfl
      refine ⟨_, rfl, by show 3 ≤ sizeLine; decide, fun v0 m0 => ⟨by show 2 ≤ sizeLine; decide, fun v1 m1 => ⟨by show 2 ≤ sizeLine; decide, fun W2 nW2 => ?_⟩⟩⟩
      have q0 := same_upd (o := .tup [V.str wBegin, V.str wA, V.str wB]) m0
      have q1 := same_upd (o := .tup [V.str wQuit, V.str w9]) m1
      have q2 := same_upd (o := .lst [V.ref v0, V.ref v1]) nW2
      have q02 := (q0.trans q1).trans q2
      have hW2 := hW1.same q02
      refine ⟨W1, W2, _, _, rfl, rfl, hW2.1, upd_same, sz9 (by rw [List.length_map, hwl, hwl']; show 4 + 2 ≤ 100000; decide), fun W3 nW3 => ?_⟩
      have q3 := same_upd (o := .lst (ws1.map V.ref ++ [V.ref v0, V.ref v1])) nW3
      refine ⟨W3, ws1 ++ [v0, v1], rfl, q02.trans q3, ?_, ?_⟩
      · rw [upd_same, List.map_append]
        rfl
      · exact paired_app (hW2.same q3).2 (.cons ⟨_, q3 _ _ (q2 _ _ (q1 _ _ upd_same)), .cons rfl (.cons rfl (.cons rfl .nil))⟩ (.cons ⟨_, q3 _ _ (q2 _ _ upd_same), .cons rfl (.cons rfl .nil)⟩ .nil))
    rintro _ H13 ⟨W3, ws, rfl, s13, hW3⟩
    have hls13 := hls12.same s13
    have hL13 := hL12.same s13
    have ep13 := s13 _ _ ep12
    clear hls12 hL12 ep12 s13 hW1
    have hwl : (ws.length : Int) = 6 := by
      have := hW3.2.length
      have h6 : (WR1 ++ WR2).length = 6 := rfl
      omega
    obtain ⟨b1, hb1, ab1⟩ := at_mod ws V.ref d2 (n := 6) hwl (by decide)
    obtain ⟨b2, hb2, ab2⟩ := at_mod ws V.ref (d2 / 6) (n := 6) hwl (by decide)
    have stOf : ∀ b ∈ ws, ∃ q, StAt H13 b q ∧ okF q := fun b hb => by
      obtain ⟨j, hj⟩ := List.mem_iff_getElem?.mp hb
      obtain ⟨q, hq, hs⟩ := pair_get hW3.2 hj
      exact ⟨q, hs, wr_ok q (List.mem_of_getElem? hq)⟩
    obtain ⟨q1, st1, ok1⟩ := stOf b1 hb1
    obtain ⟨q2, st2, ok2'⟩ := stOf b2 hb2
    refine ⟨_, rfl, _, rfl, p, _, 2, _, rfl, rfl, .inl (.inl ep13), a2, .inl ⟨_, rfl, _, _, rfl, rfl, (by show (0 : Int) < 6; decide), W3, _, _, _, rfl, rfl, .inl (.inl hW3.1), ab1, ?_⟩⟩
    refine ⟨_, rfl, _, rfl, p, _, 2, _, rfl, rfl, .inl (.inl ep13), a2, .inl ⟨_, rfl, _, _, rfl, rfl, ⟨by decide, by decide⟩, _, _, rfl, rfl, (by show (0 : Int) < 6; decide), W3, _, _, _, rfl, rfl, .inl (.inl hW3.1), ab2, ?_⟩⟩
    clear hW3 ab1 ab2 stOf ep13
    -- the spoilt list
    have u1 := cut_take (xs := xs.map V.ref) (k := k) (by rw [hxm]; exact hkp)
    have u2 := cut_drop (xs := xs.map V.ref) (k := k) (by rw [hxm]; exact hkp)
    obtain ⟨psp, hpsp⟩ : ∃ psp, psp = pss.take k ++ [q1] ++ pss.drop k := ⟨_, rfl⟩
    have okp : ∀ ps ∈ psp, okF ps := fun ps h => by
      rw [hpsp] at h
      rcases List.mem_append.mp h with h | h
      · rcases List.mem_append.mp h with h | h
        · exact (hgf ps (List.mem_of_mem_take h)).2.1
        · rw [List.mem_singleton.mp h]
          exact ok1
      · exact (hgf ps (List.mem_of_mem_drop h)).2.1
    have npsp : psp.length ≤ 21 := by
      rw [hpsp, List.length_append, List.length_append, List.length_take, List.length_drop]
      show min k pss.length + 1 + _ ≤ 21
      omega
    refine ⟨fun σ' H' => ∃ (c : Addr) (xsp : List Addr), σ' = S9 (some (.ref b1)) (some (.ref b2)) (some (.ref c)) (some (.ref W3)) none ∧ Same H13 H' ∧ LsAt H' c xsp psp, ?_, ?_⟩
    · refine ⟨_, rfl, _, rfl, _, rfl, l, _, rfl, .inl (.inl hls13.1), fun c1 nc1 => ?_⟩
      rw [u1]
      refine ⟨_, rfl, by show 1 ≤ sizeLine; decide, fun c2 nc2 => ⟨c1, c2, _, _, rfl, rfl, same_upd nc2 _ _ upd_same, upd_same, sz9 (by rw [List.length_take, hxm]; show _ + 1 ≤ _; omega), fun c3 nc3 => ?_⟩⟩
      have s3 := ((same_upd (o := .lst ((xs.map V.ref).take k)) nc1).trans (same_upd (o := .lst [V.ref b1]) nc2)).trans (same_upd (o := .lst ((xs.map V.ref).take k ++ [V.ref b1])) nc3)
      refine ⟨_, rfl, _, rfl, _, rfl, l, _, rfl, .inl (.inl (s3 _ _ hls13.1)), fun c4 nc4 => ?_⟩
      rw [u2]
      refine ⟨c3, c4, _, _, rfl, rfl, same_upd nc4 _ _ upd_same, upd_same, sz9 (by rw [List.length_append, List.length_take, List.length_drop, hxm]; show _ + 1 + _ ≤ _; omega), fun c5' nc5 => ?_⟩
      have s5 := (s3.trans (same_upd (o := .lst ((xs.map V.ref).drop k)) nc4)).trans (same_upd (o := .lst ((xs.map V.ref).take k ++ [V.ref b1] ++ (xs.map V.ref).drop k)) nc5)
      refine ⟨c5', xs.take k ++ [b1] ++ xs.drop k, rfl, s5, ?_, ?_⟩
      · rw [upd_same, List.map_append, List.map_append, List.map_take, List.map_drop]
        rfl
      · rw [hpsp]
        obtain ⟨p1, p2⟩ := pair_take k (hls13.same s5).2
        exact paired_app (paired_app p1 (.cons (st1.same s5) .nil)) p2
    rintro _ H14 ⟨c, xsp, rfl, s14, hC⟩
    have hls14 := hls13.same s14
    have hL14 := hL13.same s14
    have st14 := st2.same s14
    clear hls13 hL13 s14 st1 st2
    have hcl := hC.2.length
    have hcm : (xsp.map V.ref).length = xsp.length := List.length_map _
    refine ⟨fun σ' H' => ∃ K1 c7 c9 : Addr, σ' = S9 (some (.ref b1)) (some (.ref b2)) (some (.ref c)) (some (.ref W3)) (some (.ref K1)) ∧ Same H14 H' ∧ H' K1 = some (.lst [V.ref l, V.ref c, V.ref c7, V.ref c9]) ∧ LsAt H' c7 (xsp ++ [b2]) (psp ++ [q2]) ∧ LsAt H' c9 ([b2] ++ xsp) ([q2] ++ psp), ?_, ?_⟩
    · refine ⟨_, rfl, _, rfl, _, rfl, _, rfl, by show 1 ≤ sizeLine; decide, fun c6 nc6 => ⟨c, c6, _, _, rfl, rfl, same_upd nc6 _ _ hC.1, upd_same, sz9 (by rw [hcm]; show _ + 1 ≤ _; omega), fun c7 nc7 => ?_⟩⟩
      have s67 := (same_upd (o := .lst [V.ref b2]) nc6).trans (same_upd (o := .lst (xsp.map V.ref ++ [V.ref b2])) nc7)
      refine ⟨_, rfl, by show 1 ≤ sizeLine; decide, fun c8 nc8 => ⟨_, rfl, c8, c, _, _, rfl, rfl, upd_same, same_upd nc8 _ _ (s67 _ _ hC.1), sz9 (by rw [hcm]; show 1 + _ ≤ _; omega), fun c9 nc9 => ⟨by show 4 ≤ sizeLine; decide, fun K1 nK1 => ?_⟩⟩⟩
      have s8 := same_upd (o := .lst [V.ref b2]) nc8
      have s9' := same_upd (o := .lst ([V.ref b2] ++ xsp.map V.ref)) nc9
      have sK := same_upd (o := .lst [V.ref l, V.ref c, V.ref c7, V.ref c9]) nK1
      have sall := ((s67.trans s8).trans s9').trans sK
      refine ⟨K1, c7, c9, rfl, sall, upd_same, ⟨?_, ?_⟩, ⟨?_, ?_⟩⟩
      · have h7 := sK _ _ (s9' _ _ (s8 _ _ (upd_same (H := upd H14 c6 (.lst [V.ref b2])) (a := c7) (o := .lst (xsp.map V.ref ++ [V.ref b2])))))
        rw [h7, List.map_append]
        rfl
      · exact paired_app (hC.same sall).2 (.cons (st14.same sall) .nil)
      · exact sK _ _ upd_same
      · exact .cons (st14.same sall) (hC.same sall).2
    rintro _ H15 ⟨K1, c7, c9, rfl, s15, eK, h7, h9⟩
    have hls15 := hls14.same s15
    have hL15 := hL14.same s15
    have hC15 := hC.same s15
    have st15 := st14.same s15
    clear hls14 hL14 hC st14 s15
    have hLm : (xl.map V.ref).length = 79 := by rw [List.length_map, hxll]; exact nlg
    refine ⟨_, rfl, _, rfl, _, rfl, _, rfl, by show 1 ≤ sizeLine; decide, fun c10 nc10 => ⟨L, c10, _, _, rfl, rfl, same_upd nc10 _ _ hL15.1, upd_same, sz9 (by rw [hLm]; show 79 + 1 ≤ 100000; decide), fun c11 nc11 => ⟨by show 2 ≤ sizeLine; decide, fun K2 nK2 => ?_⟩⟩⟩
    have s10' := same_upd (o := .lst [V.ref b2]) nc10
    have s11' := same_upd (o := .lst (xl.map V.ref ++ [V.ref b2])) nc11
    have sK2 := same_upd (o := .lst [V.ref L, V.ref c11]) nK2
    have sq := (s10'.trans s11').trans sK2
    refine ⟨K1, K2, _, _, rfl, rfl, sq _ _ eK, upd_same, by show 6 ≤ sizeLine; decide, fun K3 nK3 => ?_⟩
    have sK3 := same_upd (o := .lst ([V.ref l, V.ref c, V.ref c7, V.ref c9] ++ [V.ref L, V.ref c11])) nK3
    have sQ := sq.trans sK3
    have h11 : LsAt (upd (upd (upd (upd H15 c10 (.lst [V.ref b2])) c11 (.lst (xl.map V.ref ++ [V.ref b2]))) K2 (.lst [V.ref L, V.ref c11])) K3 (.lst ([V.ref l, V.ref c, V.ref c7, V.ref c9] ++ [V.ref L, V.ref c11]))) c11 (xl ++ [b2]) (lg ++ [q2]) := by
      refine ⟨?_, paired_app (hL15.same sQ).2 (.cons (st15.same sQ) .nil)⟩
      rw [sK3 _ _ (sK2 _ _ upd_same), List.map_append]
      rfl
    have hl1 := hls15.same sQ
    have hc1 := hC15.same sQ
    have h71 := h7.same sQ
    have h91 := h9.same sQ
    have hL1 := hL15.same sQ
    have okl : ∀ ps ∈ lg, okF ps := fun ps h => (glf ps h).2.1
    have oka : ∀ (r : List (List Part)), (∀ ps ∈ r, okF ps) → (∀ ps ∈ r ++ [q2], okF ps) ∧ ∀ ps ∈ [q2] ++ r, okF ps := fun r hr => ⟨fun ps h => by
      rcases List.mem_append.mp h with h | h
      · exact hr ps h
      · rw [List.mem_singleton.mp h]
        exact ok2', fun ps h => by
      rcases List.mem_append.mp h with h | h
      · rw [List.mem_singleton.mp h]
        exact ok2'
      · exact hr ps h⟩
    have hall : ∀ y ∈ ([V.ref l, V.ref c, V.ref c7, V.ref c9] ++ [V.ref L, V.ref c11] : List V), ∃ (e : Addr) (xe : List Addr) (pe : List (List Part)), y = .ref e ∧ LsAt (upd (upd (upd (upd H15 c10 (.lst [V.ref b2])) c11 (.lst (xl.map V.ref ++ [V.ref b2]))) K2 (.lst [V.ref L, V.ref c11])) K3 (.lst ([V.ref l, V.ref c, V.ref c7, V.ref c9] ++ [V.ref L, V.ref c11]))) e xe pe ∧ (∀ ps ∈ pe, okF ps) ∧ pe.length ≤ 100 := fun y hy => by
      simp only [List.mem_append, List.mem_cons, List.not_mem_nil, or_false] at hy
      rcases hy with (rfl | rfl | rfl | rfl) | (rfl | rfl)
      · exact ⟨l, xs, pss, rfl, hl1, fun ps h => (hgf ps h).2.1, by omega⟩
      · exact ⟨c, xsp, psp, rfl, hc1, okp, by omega⟩
      · exact ⟨c7, _, _, rfl, h71, (oka psp okp).1, by rw [List.length_append]; show _ + 1 ≤ _; omega⟩
      · exact ⟨c9, _, _, rfl, h91, (oka psp okp).2, by rw [List.length_append]; show 1 + _ ≤ _; omega⟩
      · exact ⟨L, xl, lg, rfl, hL1, okl, by omega⟩
      · exact ⟨c11, _, _, rfl, h11, (oka lg okl).1, by rw [List.length_append]; show _ + 1 ≤ _; omega⟩
    refine ⟨K3, rfl, ⟨_, .inl (.inl upd_same)⟩, ?_⟩
    generalize hHH : upd (upd (upd (upd H15 c10 (.lst [V.ref b2])) c11 (.lst (xl.map V.ref ++ [V.ref b2]))) K2 (.lst [V.ref L, V.ref c11])) K3 (.lst ([V.ref l, V.ref c, V.ref c7, V.ref c9] ++ [V.ref L, V.ref c11])) = HH at hall
    have eK3 : HH K3 = some (.lst ([V.ref l, V.ref c, V.ref c7, V.ref c9] ++ [V.ref L, V.ref c11])) := by rw [← hHH, upd_same]
    refine for_list (xs := [V.ref l, V.ref c, V.ref c7, V.ref c9] ++ [V.ref L, V.ref c11]) (fun i σ Hx => ∃ x15', σ = S7 o3 (some (.ref b1)) (some (.ref b2)) (some (.int k)) (some (.ref c)) (some (.ref t6)) (some (.ref L)) (some (.ref E1)) x15' (some (.ref W3)) (some (.ref K1)) ∧ Same HH Hx) ⟨x15, rfl, fun b o e => e⟩ (fun i σ Hx _ ⟨_, _, s'⟩ => .inl (.inl (s' _ _ eK3))) ?_ ?_
    · rintro i y σ Hx hy ⟨x15', rfl, sx⟩
      obtain ⟨e, xe, pe, rfl, hle, hoke, hne⟩ := hall y (List.mem_of_getElem? hy)
      exact ⟨_, rfl, e, xe, pe, rfl, hle.same sx, hoke, hne, fun H' s' => ⟨_, rfl, iteF ⟨_, rfl, sx.trans s'⟩⟩⟩
    rintro σ Hx ⟨x15', rfl, sx⟩
    exact q Hx
end
end Kx

/-! own errors over ValueError: what the end asks of their classes and their __init__ -/
namespace Kx
open PySem PySem.Spec PyProof.Rows L2 NdefX
/-- what is asked of an own error's class, as one test -/
def fxB (K : PySem.W.Frag) (C : Addr) (fs : List Str) : Bool :=
  decide (PySem.W.findIn K (.ref C) "__setattr__" = some (some (.builtin "object.__setattr__"))) && (decide (PySem.W.subIn K (.ref C) (.type "BaseException") = some true) && (decide (PySem.W.typeIn K (.ref C) = some (.type "type")) && (PySem.W.keepIn K (.ref C) &&
  (decide (PySem.W.ks_superIn K C C "__init__" = some (some (.builtin "ValueError.__init__"))) && (decide (PySem.W.subIn K (.ref C) (.type "ValueError") = some true) && (decide (PySem.W.mroIn K C (.ref C) = some true) &&
  (decide (PySem.W.findIn K (.ref C) "__getattribute__" = some (some (.builtin "BaseException.__getattribute__"))) && (decide (PySem.W.findIn K (.ref C) "__getattr__" = some none) && (PySem.W.hasDictIn K C && (decide (PySem.W.findIn K (.ref C) "__class__" = some (some (.builtin "object.__class__"))) &&
  (decide (PySem.W.mroIn K C (.type "object") = some true) && fs.all fun f => decide (PySem.W.findIn K (.ref C) f = some none))))))))))))
/-- the same, told -/
structure Fx (K : PySem.W.Frag) (C : Addr) (fs : List Str) : Prop where
  sa : PySem.W.findIn K (.ref C) "__setattr__" = some (some (.builtin "object.__setattr__"))
  exC : PySem.W.subIn K (.ref C) (.type "BaseException") = some true
  tyC : PySem.W.typeIn K (.ref C) = some (.type "type")
  kC : PySem.W.keepIn K (.ref C) = true
  sup : PySem.W.ks_superIn K C C "__init__" = some (some (.builtin "ValueError.__init__"))
  subV : PySem.W.subIn K (.ref C) (.type "ValueError") = some true
  mro : PySem.W.mroIn K C (.ref C) = some true
  ga : PySem.W.findIn K (.ref C) "__getattribute__" = some (some (.builtin "BaseException.__getattribute__"))
  gg : PySem.W.findIn K (.ref C) "__getattr__" = some none
  hd : PySem.W.hasDictIn K C = true
  ha : PySem.W.findIn K (.ref C) "__class__" = some (some (.builtin "object.__class__"))
  mo : PySem.W.mroIn K C (.type "object") = some true
  nf : ∀ f ∈ fs, PySem.W.findIn K (.ref C) f = some none
theorem fx_of {K : PySem.W.Frag} {C : Addr} {fs : List Str} (h : fxB K C fs = true) : Fx K C fs := by
  obtain ⟨h1, h⟩ := Bool.and_eq_true_iff.mp h
  obtain ⟨h2, h⟩ := Bool.and_eq_true_iff.mp h
  obtain ⟨h3, h⟩ := Bool.and_eq_true_iff.mp h
  obtain ⟨h4, h⟩ := Bool.and_eq_true_iff.mp h
  obtain ⟨h5, h⟩ := Bool.and_eq_true_iff.mp h
  obtain ⟨h6, h⟩ := Bool.and_eq_true_iff.mp h
  obtain ⟨h7, h⟩ := Bool.and_eq_true_iff.mp h
  obtain ⟨h8, h⟩ := Bool.and_eq_true_iff.mp h
  obtain ⟨h9, h⟩ := Bool.and_eq_true_iff.mp h
  obtain ⟨h10, h⟩ := Bool.and_eq_true_iff.mp h
  obtain ⟨h11, h⟩ := Bool.and_eq_true_iff.mp h
  obtain ⟨h12, h⟩ := Bool.and_eq_true_iff.mp h
  exact ⟨of_decide_eq_true h1, of_decide_eq_true h2, of_decide_eq_true h3, h4, of_decide_eq_true h5, of_decide_eq_true h6, of_decide_eq_true h7, of_decide_eq_true h8, of_decide_eq_true h9, h10, of_decide_eq_true h11, of_decide_eq_true h12, fun f hf => of_decide_eq_true (List.all_eq_true.mp h f hf)⟩
/-- the classes' own lines -/
def ClsAt (K : PySem.W.Frag) (C : Addr) : Prop := ∃ nm q N bs bm sn sub ab col dd k0 k1 k2 k3 k5, K.lookup C = some (excClassObj nm q C N bs bm true sn sub ab col dd k0 k1 k2 k3 k5 "ValueError.__new__") ∧ PySem.HandSPX.refsVE bm = true
theorem cls_at {K : PySem.W.Frag} {C : Addr} {nm q : Str} {N : Addr} {bs bm : List Value} {sn : List Str} {sub : List Value} {ab : Bool} {col : Option Bool} {dd : Option Addr} {k0 k1 k2 k3 k5 : Option Value} (l : K.lookup C = some (excClassObj nm q C N bs bm true sn sub ab col dd k0 k1 k2 k3 k5 "ValueError.__new__")) (hb : PySem.HandSPX.refsVE bm = true) : ClsAt K C :=
  ⟨nm, q, N, bs, bm, sn, sub, ab, col, dd, k0, k1, k2, k3, k5, l, hb⟩
theorem Fx.supC {K : PySem.W.Frag} {C : Addr} {fs : List Str} (h : Fx K C fs) (c : ClsAt K C) (opq : PySem.W.nsIn K cStatics "thirdparty.any" = some none) : SupC K C := ⟨⟨c, h.sa, h.exC, h.tyC, h.kC⟩, h.sup, h.subV, h.mro, opq⟩
/-- the __init__ of an own error, as k_is finds it -/
structure Ei (K : PySem.W.Frag) (P : Program) (C : Addr) (qual : Str) (st : Stmt) (f : Addr) (fd : FuncData) : Prop where
  a : PySem.W.findIn K (.ref C) "__init__" = some (some (.ref f))
  t : PySem.W.typeIn K (.ref f) = some (.type "function")
  ex : ∃ (cda cc : Addr) (kV doc pm ct : Value) (an : Option Addr), fd = PySem.W.fnX "__init__" qual (defArgs st) (defBody st) (defScope st) [("__class__", cc)] .none kV doc pm an (.ref cda) ct ∧ PySem.W.codeIn K (.ref cda) qual = true ∧ SupF K P C f fd cda cc "self"
theorem ei_mk {K : PySem.W.Frag} {P : Program} {C : Addr} {qual : Str} {st : Stmt} {f cda cc : Addr} {kV doc pm ct oc ccl cl : Value} {an od cdd cld : Option Addr} {osl ccs csl : Array (Option Value)} {vs : Array Value} {file : Str} {tf : Tok} {ar : Arg} (a : PySem.W.findIn K (.ref C) "__init__" = some (some (.ref f))) (t : PySem.W.typeIn K (.ref f) = some (.type "function"))
    (l : K.lookup f = some ⟨oc, od, .func (PySem.W.fnX "__init__" qual (defArgs st) (defBody st) (defScope st) [("__class__", cc)] .none kV doc pm an (.ref cda) ct), osl⟩) (c : PySem.W.codeIn K (.ref cda) qual = true)
    (lc : K.lookup cda = some ⟨ccl, cdd, .fields vs, ccs⟩) (vf : vs[2]? = some (.str file tf)) (ef : ((P.main.file : Str) == file) = true) (ll : K.lookup cc = some ⟨cl, cld, .cell (some (.ref C)), csl⟩) (top : (P.main.scope.names.lookup ("super" : Str)).isSome = false)
    (hd : ((defArgs st).posonlyargs ++ (defArgs st).args).head? = some ar) (hn : ar.arg = "self") : Ei K P C qual st f (PySem.W.fnX "__init__" qual (defArgs st) (defBody st) (defScope st) [("__class__", cc)] .none kV doc pm an (.ref cda) ct) :=
  ⟨a, t, cda, cc, kV, doc, pm, ct, an, rfl, c, ⟨⟨oc, od, osl, l⟩, ⟨ar, hd, hn⟩, ⟨ccl, cdd, vs, ccs, file, tf, lc, vf, ef⟩, ⟨cl, cld, csl, ll⟩, top⟩⟩
end Kx

namespace Kx
open PySem PySem.Spec PyProof.Rows L2 NdefX Kr Ke Ks Kn
theorem all_mk {l : PySem.W.OpenLaw} {w : World} {K : PySem.W.Frag} {h : Heap} {mg : Str → Option Value} {fa CI CL CK g0 g1 f0 f1 f2 f3 f4 f5 f6 f7 f8 f9 f10 f11 f12 f13 f14 f15 f16 f17 f18 f19 f20 f21 : Addr} {gd0 gd1 fd0 fd1 fd2 fd3 fd4 fd5 fd6 fd7 fd8 fd9 fd10 fd11 fd12 fd13 fd14 fd15 fd16 fd17 fd18 fd19 fd20 fd21 : FuncData} {u0 u1 u2 : Value} (X : K.In h) (G : h.Ns mainGlobals mg) (hfa : mg "law" = some (.ref fa))
    (nCI : PySem.W.nsIn K mainGlobals "InvalidStep" = some (some (.ref CI)))
    (nCL : PySem.W.nsIn K mainGlobals "InvalidLine" = some (some (.ref CL)))
    (nCK : PySem.W.nsIn K mainGlobals "KeeperError" = some (some (.ref CK)))
    (ei0 : Ei K l.prog CI "InvalidStep.__init__" s_isInit g0 gd0) (cl0 : ClsAt K CI) (bI0 : Binds K gd0 ["self", "step"] []) (x0 : fxB K CI ["step"] = true)
    (ei1 : Ei K l.prog CL "InvalidLine.__init__" s_ilInit g1 gd1) (cl1 : ClsAt K CL) (bI1 : Binds K gd1 ["self", "number", "line"] []) (x1 : fxB K CL ["number", "line"] = true)
    (d0 : At K "law" s_law f0 fd0)
    (d1 : At K "_law_draws_of" s_draws_of f1 fd1)
    (d2 : At K "_law_nth" s_nth f2 fd2)
    (d3 : At K "_law_named" s_named f3 fd3)
    (d4 : At K "_law_is_name" s_lname f4 fd4)
    (d5 : At K "_law_is_step" s_lstep f5 fd5)
    (d6 : At K "_law_good_step" s_good_step f6 fd6)
    (d7 : At K "_law_text_of" s_text_of f7 fd7)
    (d8 : At K "_law_words_of" s_words_of f8 fd8)
    (d9 : At K "_law_parsed" s_parsed f9 fd9)
    (d10 : At K "_law_lines" s_lines f10 fd10)
    (d11 : At K "_law_right" s_right f11 fd11)
    (d12 : At K "_law_written" s_written f12 fd12)
    (d13 : At K "valid_name" s_valid_name f13 fd13)
    (d14 : At K "valid_step" s_valid_step f14 fd14)
    (d15 : At K "format_step" s_fmt f15 fd15)
    (d16 : At K "format_history" s_fh f16 fd16)
    (d17 : At K "parse_history" s_ph f17 fd17)
    (d18 : At K "_is_name" s_iname f18 fd18)
    (d19 : At K "_are_different_names" s_dif f19 fd19)
    (d20 : At K "_numbered_step" s_num f20 fd20)
    (d21 : At K "_parts" s_parts f21 fd21)
    (y0 : ∀ (s : Shared) (v : Value), BindsTo s fd0 ⟨[v], []⟩ [("_law_script", v)])
    (y1 : Binds K fd1 ["_law_script"] [])
    (y2 : Binds K fd2 ["_law_pool", "_law_k"] [])
    (y3 : Binds K fd3 ["_law_k", "_law_style"] [])
    (y4 : Binds K fd4 ["_law_part"] [])
    (y5 : Binds K fd5 ["_law_step"] [])
    (y6 : Binds K fd6 ["_law_draw", "_law_style"] [])
    (y7 : Binds K fd7 ["_law_step"] [])
    (y8 : Binds K fd8 ["_law_line"] [])
    (y9 : Binds K fd9 ["_law_line"] [])
    (y10 : Binds K fd10 ["_law_text"] [])
    (y11 : Binds K fd11 ["_law_text"] [])
    (y12 : Binds K fd12 ["_law_steps"] [])
    (y13 : Binds K fd13 ["text"] [])
    (y14 : Binds K fd14 ["step"] [])
    (y15 : Binds K fd15 ["step"] [])
    (y16 : Binds K fd16 ["steps"] [])
    (y17 : Binds K fd17 ["text"] [])
    (y18 : Binds K fd18 ["part"] [])
    (y19 : Binds K fd19 ["part"] [])
    (y20 : Binds K fd20 ["number", "line"] [])
    (y21 : Binds K fd21 ["line"] [])
    (z0 : PySem.W.nsIn K mainGlobals "len" = some none)
    (z1 : PySem.W.nsIn K mainGlobals "abs" = some none)
    (z2 : PySem.W.nsIn K mainGlobals "int" = some none)
    (z3 : PySem.W.nsIn K mainGlobals "range" = some none)
    (z4 : PySem.W.nsIn K mainGlobals "all" = some none)
    (z5 : PySem.W.nsIn K mainGlobals "isinstance" = some none)
    (z6 : PySem.W.nsIn K mainGlobals "str" = some none)
    (z7 : PySem.W.nsIn K mainGlobals "tuple" = some none)
    (z8 : PySem.W.nsIn K mainGlobals "set" = some none)
    (z9 : PySem.W.nsIn K mainGlobals "super" = some none)
    (z10 : PySem.W.nsIn K mainGlobals "bool" = some none)
    (z11 : PySem.W.nsIn K mainGlobals "list" = some none)
    (z12 : PySem.W.nsIn K mainGlobals "enumerate" = some none)
    (c0 : PySem.W.nsIn K mainGlobals "LETTERS" = some (some u0)) (r0 : RelV (.str LET) u0)
    (c1 : PySem.W.nsIn K mainGlobals "DIGITS" = some (some u1)) (r1 : RelV (.str DIG) u1)
    (c2 : PySem.W.nsIn K mainGlobals "LONGEST_NAME" = some (some u2)) (r2 : RelV (.int 8) u2)
    (opq : PySem.W.nsIn K cStatics "thirdparty.any" = some none)
    (hn : PySem.W.specialIn K (.builtin "object.__class__") "__get__" = some (some (.builtin "getset_descriptor.__get__")))
    (ht : PySem.W.takesIn K (.builtin "object.__class__") = some true)
    (te : PySem.W.exmOne K (.ref CL) (.ref CL) = some true)
    (kI : PySem.W.kitOne K (.ref CL) (.ref CI) = some false)
    (kK : PySem.W.kitOne K (.ref CL) (.ref CK) = some true)
    (teI : PySem.W.exmOne K (.ref CI) (.ref CI) = some true)
    (kIK : PySem.W.kitOne K (.ref CI) (.ref CK) = some true) :
    ∃ fd : FuncData, (∀ (s : Shared) (v : Value), BindsTo s fd ⟨[v], []⟩ [("_law_script", v)]) ∧ ∀ base : Heap, K.In base → base.Ns mainGlobals mg → FnOk l.prog w K mg base CX0 8 fa fd ["_law_script"] (spLaw K) := by
  have e := hfa.symm.trans (PySem.W.mg_of X G d0.a)
  cases e
  have fx0 := fx_of x0
  have S0 := fx0.supC cl0 opq
  have fx1 := fx_of x1
  have S1 := fx1.supC cl1 opq
  have T : TxS mg := { m_len := (PySem.W.mg_none_of X G z0), m_abs := (PySem.W.mg_none_of X G z1), m_int := (PySem.W.mg_none_of X G z2), m_range := (PySem.W.mg_none_of X G z3), m_all := (PySem.W.mg_none_of X G z4), m_isinstance := (PySem.W.mg_none_of X G z5), m_str := (PySem.W.mg_none_of X G z6), m_tuple := (PySem.W.mg_none_of X G z7), m_set := (PySem.W.mg_none_of X G z8), c_LETTERS := gc_of X G c0 r0, c_DIGITS := gc_of X G c1 r1, c_LONGEST_NAME := gc_of X G c2 r2 }
  have R : RfL K mg CI CL CK := { gI := (PySem.W.mg_of X G nCI), gL := (PySem.W.mg_of X G nCL), gK := (PySem.W.mg_of X G nCK), m_bool := (PySem.W.mg_none_of X G z10), m_list := (PySem.W.mg_none_of X G z11), m_enum := (PySem.W.mg_none_of X G z12), ex := ⟨fx1.ga, fx1.gg, fx1.exC, fx1.hd, fx1.ha, hn, ht, fx1.mo⟩, xf := ⟨fx1.ga, fx1.gg, fx1.exC, fx1.hd⟩, n0 := fx1.nf _ (by decide +kernel), n1 := fx1.nf _ (by decide +kernel), te := te, kI := kI, kK := kK, exI := ⟨fx0.ga, fx0.gg, fx0.exC, fx0.hd, fx0.ha, hn, ht, fx0.mo⟩, xfI := ⟨fx0.ga, fx0.gg, fx0.exC, fx0.hd⟩, nS := fx0.nf _ (by decide +kernel), teI := teI, kIK := kIK }
  obtain ⟨ia0, it0, cda0, cc0, kV0, doc0, pm0, ct0, an0, hfd0, hcd0, SF0⟩ := ei0
  obtain ⟨ia1, it1, cda1, cc1, kV1, doc1, pm1, ct1, an1, hfd1, hcd1, SF1⟩ := ei1
  refine ⟨fd0, y0, fun base _ _ => ?_⟩
  have FI0 : FnOk l.prog w K mg base CX0 1 g0 gd0 ["self", "step"] (spErrD CI K) := ok_isInit SF0 S0 R.nS (PySem.W.mg_none_of X G z9) hfd0 hcd0
  have FI1 : FnOk l.prog w K mg base CX0 1 g1 gd1 ["self", "number", "line"] (spErrL CL) := ok_ilInit SF1 S1 R.n0 R.n1 (PySem.W.mg_none_of X G z9) hfd1 hcd1
  have C1 : Cal l.prog w K mg base "_law_draws_of" 1 (spDraws K) := ⟨f1, fd1, _, ok_draws_of d1.F T.toTB, y1, PySem.W.mg_of X G d1.a, d1.F.kp⟩
  have C2 : Cal l.prog w K mg base "_law_nth" 1 (spNth K) := ⟨f2, fd2, _, ok_nth d2.F T.toTB, y2, PySem.W.mg_of X G d2.a, d2.F.kp⟩
  have C3 : Cal l.prog w K mg base "_law_named" 1 spNamedL := ⟨f3, fd3, _, named_lin (ok_named d3.F T), y3, PySem.W.mg_of X G d3.a, d3.F.kp⟩
  have C4 : Cal l.prog w K mg base "_law_is_name" 1 (spPt nmP) := ⟨f4, fd4, _, ok_lname2 d4.F T, y4, PySem.W.mg_of X G d4.a, d4.F.kp⟩
  have H4 : L2H.CalH l.prog w K mg base "_law_is_name" 1 (spPt nmP) := ⟨f4, fd4, _, okh_lname2 d4.F T, y4, PySem.W.mg_of X G d4.a, d4.F.kp⟩
  have C5 : Cal l.prog w K mg base "_law_is_step" 2 (spStp stepB) := ⟨f5, fd5, _, ok_lstep d5.F T C4, y5, PySem.W.mg_of X G d5.a, d5.F.kp⟩
  have H5 : L2H.CalH l.prog w K mg base "_law_is_step" 2 (spStp stepB) := ⟨f5, fd5, _, okh_lstep d5.F T H4, y5, PySem.W.mg_of X G d5.a, d5.F.kp⟩
  have C6 : Cal l.prog w K mg base "_law_good_step" 2 spGood := ⟨f6, fd6, _, ok_good_step d6.F T C3, y6, PySem.W.mg_of X G d6.a, d6.F.kp⟩
  have C7 : Cal l.prog w K mg base "_law_text_of" 1 spText := ⟨f7, fd7, _, ok_text_of d7.F, y7, PySem.W.mg_of X G d7.a, d7.F.kp⟩
  have C8' : Cal l.prog w K mg base "_law_words_of" 1 spWords := ⟨f8, fd8, _, ok_words_of d8.F, y8, PySem.W.mg_of X G d8.a, d8.F.kp⟩
  have C9 : Cal l.prog w K mg base "_law_parsed" 3 spParsed := ⟨f9, fd9, _, ok_parsed d9.F T C8' C5, y9, PySem.W.mg_of X G d9.a, d9.F.kp⟩
  have C10 : Cal l.prog w K mg base "_law_lines" 1 spLines := ⟨f10, fd10, _, ok_lines d10.F, y10, PySem.W.mg_of X G d10.a, d10.F.kp⟩
  have H10 : L2H.CalH l.prog w K mg base "_law_lines" 1 spLines := ⟨f10, fd10, _, okh_lines d10.F, y10, PySem.W.mg_of X G d10.a, d10.F.kp⟩
  have C13 : Cal l.prog w K mg base "valid_name" 1 spName := ⟨f13, fd13, _, ok_valid_name d13.F T, y13, PySem.W.mg_of X G d13.a, d13.F.kp⟩
  have C18 : Cal l.prog w K mg base "_is_name" 2 (spPt nmP) := ⟨f18, fd18, _, ok_iname d18.F T C13, y18, PySem.W.mg_of X G d18.a, d18.F.kp⟩
  have C19 : Cal l.prog w K mg base "_are_different_names" 3 (spPt difP) := ⟨f19, fd19, _, ok_dif d19.F T C18, y19, PySem.W.mg_of X G d19.a, d19.F.kp⟩
  have C14 : Cal l.prog w K mg base "valid_step" 4 (spStp stepB) := ⟨f14, fd14, _, ok_valid_step d14.F T C18 C19, y14, PySem.W.mg_of X G d14.a, d14.F.kp⟩
  have M15 : L2N.CalN l.prog w K mg base "format_step" 5 ["step"] (spFmt CI) := ⟨⟨f15, fd15, ok_fmt d15.F C14 R.gI S0.oex ia0 it0 FI0 bI0, y15, PySem.W.mg_of X G d15.a, d15.F.kp⟩⟩
  have M16 : L2N.CalN l.prog w K mg base "format_history" 6 ["steps"] (spFH CI) := ⟨⟨f16, fd16, ok_fh d16.F M15, y16, PySem.W.mg_of X G d16.a, d16.F.kp⟩⟩
  have C21 : Cal l.prog w K mg base "_parts" 1 spParts := ⟨f21, fd21, _, ok_parts d21.F T, y21, PySem.W.mg_of X G d21.a, d21.F.kp⟩
  have M20 : L2N.CalN l.prog w K mg base "_numbered_step" 5 ["number", "line"] (spNum CL) := ⟨⟨f20, fd20, ok_num d20.F C21 C14 R.gL S1.oex ia1 it1 FI1 bI1, y20, PySem.W.mg_of X G d20.a, d20.F.kp⟩⟩
  have M17 : L2N.CalN l.prog w K mg base "parse_history" 6 ["text"] (spPH CL) := ⟨⟨f17, fd17, ok_ph d17.F R.m_enum M20, y17, PySem.W.mg_of X G d17.a, d17.F.kp⟩⟩
  have C11 : Cal l.prog w K mg base "_law_right" 7 spRightT := ⟨f11, fd11, _, ok_right d11.F T R C10 H10 C9 M17, y11, PySem.W.mg_of X G d11.a, d11.F.kp⟩
  have C12 : Cal l.prog w K mg base "_law_written" 7 spWrit := ⟨f12, fd12, _, ok_written d12.F T R C5 H5 C7 M16, y12, PySem.W.mg_of X G d12.a, d12.F.kp⟩
  exact ok_law d0.F T C1 C2 C6 C7 C11 C12
end Kx

open PySem PySem.W PyProof.Rows
set_option maxHeartbeats 0 in
theorem PySem.Challenge.cw_letforget_k04_whole_written_history_holds : PySem.Challenge.rw_letforget_k04_whole_written_history.Holds := by
  w_on; o_law; k_head; (case hw => w_witness2)
  k_fill
  refine L2.walk_of (l := PySem.Challenge.rw_letforget_k04_whole_written_history) (n := 63) (k := 8) (x := "_law_script") (CX := fun _ => L2.CX0) (sp := fun w => Kx.spLaw _) rfl (by decide) rfl ⟨rfl, by decide, by decide⟩ (fun w h Y => PySem.W.kIn_of Y) ?F (fun _ _ a ns hl _ hS => ⟨a, ns, rfl, hS, hl, fun _ => rfl⟩) (fun _ _ _ _ _ h => h)
  case F =>
    intro w mg fa h KX G hmg
    refine' Kx.all_mk (l := PySem.Challenge.rw_letforget_k04_whole_written_history) KX G hmg ?nCI
      ?nCL
      ?nCK
      (Kx.ei_mk ?ea0 ?et0 ?el0 ?ec0 ?elc0 ?evf0 ?eef0 ?ell0 rfl rfl rfl)
      (Kx.cls_at ?cl0 ?cb0)
      (.all fun us hl => match us, hl with | [_, _], _ => rfl)
      ?x0
      (Kx.ei_mk ?ea1 ?et1 ?el1 ?ec1 ?elc1 ?evf1 ?eef1 ?ell1 rfl rfl rfl)
      (Kx.cls_at ?cl1 ?cb1)
      (.all fun us hl => match us, hl with | [_, _, _], _ => rfl)
      ?x1
      (Kx.at_mk ?a0 ?l0 ?e0 ?k0)
      (Kx.at_mk ?a1 ?l1 ?e1 ?k1)
      (Kx.at_mk ?a2 ?l2 ?e2 ?k2)
      (Kx.at_mk ?a3 ?l3 ?e3 ?k3)
      (Kx.at_mk ?a4 ?l4 ?e4 ?k4)
      (Kx.at_mk ?a5 ?l5 ?e5 ?k5)
      (Kx.at_mk ?a6 ?l6 ?e6 ?k6)
      (Kx.at_mk ?a7 ?l7 ?e7 ?k7)
      (Kx.at_mk ?a8 ?l8 ?e8 ?k8)
      (Kx.at_mk ?a9 ?l9 ?e9 ?k9)
      (Kx.at_mk ?a10 ?l10 ?e10 ?k10)
      (Kx.at_mk ?a11 ?l11 ?e11 ?k11)
      (Kx.at_mk ?a12 ?l12 ?e12 ?k12)
      (Kx.at_mk ?a13 ?l13 ?e13 ?k13)
      (Kx.at_mk ?a14 ?l14 ?e14 ?k14)
      (Kx.at_mk ?a15 ?l15 ?e15 ?k15)
      (Kx.at_mk ?a16 ?l16 ?e16 ?k16)
      (Kx.at_mk ?a17 ?l17 ?e17 ?k17)
      (Kx.at_mk ?a18 ?l18 ?e18 ?k18)
      (Kx.at_mk ?a19 ?l19 ?e19 ?k19)
      (Kx.at_mk ?a20 ?l20 ?e20 ?k20)
      (Kx.at_mk ?a21 ?l21 ?e21 ?k21)
      (fun s v => .of_eq rfl)
      (.all fun us hl => match us, hl with | [_], _ => rfl)
      (.all fun us hl => match us, hl with | [_, _], _ => rfl)
      (.all fun us hl => match us, hl with | [_, _], _ => rfl)
      (.all fun us hl => match us, hl with | [_], _ => rfl)
      (.all fun us hl => match us, hl with | [_], _ => rfl)
      (.all fun us hl => match us, hl with | [_, _], _ => rfl)
      (.all fun us hl => match us, hl with | [_], _ => rfl)
      (.all fun us hl => match us, hl with | [_], _ => rfl)
      (.all fun us hl => match us, hl with | [_], _ => rfl)
      (.all fun us hl => match us, hl with | [_], _ => rfl)
      (.all fun us hl => match us, hl with | [_], _ => rfl)
      (.all fun us hl => match us, hl with | [_], _ => rfl)
      (.all fun us hl => match us, hl with | [_], _ => rfl)
      (.all fun us hl => match us, hl with | [_], _ => rfl)
      (.all fun us hl => match us, hl with | [_], _ => rfl)
      (.all fun us hl => match us, hl with | [_], _ => rfl)
      (.all fun us hl => match us, hl with | [_], _ => rfl)
      (.all fun us hl => match us, hl with | [_], _ => rfl)
      (.all fun us hl => match us, hl with | [_], _ => rfl)
      (.all fun us hl => match us, hl with | [_, _], _ => rfl)
      (.all fun us hl => match us, hl with | [_], _ => rfl)
      ?z0
      ?z1
      ?z2
      ?z3
      ?z4
      ?z5
      ?z6
      ?z7
      ?z8
      ?z9
      ?z10
      ?z11
      ?z12
      ?c0
      ?r0
      ?c1
      ?r1
      ?c2
      ?r2
      ?opq
      ?hn
      ?ht
      ?te
      ?kI
      ?kK
      ?teI
      ?kIK
    (case nCI => k_is)
    (case nCL => k_is)
    (case nCK => k_is)
    (case ea0 => k_is)
    (case et0 => k_is)
    (case el0 => k_is)
    (case ec0 => k_is)
    (case elc0 => k_is)
    (case evf0 => rfl)
    (case eef0 => first | rfl | decide +kernel)
    (case ell0 => k_is)
    (case cl0 => k_is)
    (case cb0 => first | rfl | decide +kernel)
    (case x0 => first | kernel_rfl | rfl)
    (case ea1 => k_is)
    (case et1 => k_is)
    (case el1 => k_is)
    (case ec1 => k_is)
    (case elc1 => k_is)
    (case evf1 => rfl)
    (case eef1 => first | rfl | decide +kernel)
    (case ell1 => k_is)
    (case cl1 => k_is)
    (case cb1 => first | rfl | decide +kernel)
    (case x1 => first | kernel_rfl | rfl)
    (case a0 => k_is)
    (case l0 => k_is)
    (case e0 => k_is)
    (case k0 => k_is)
    (case a1 => k_is)
    (case l1 => k_is)
    (case e1 => k_is)
    (case k1 => k_is)
    (case a2 => k_is)
    (case l2 => k_is)
    (case e2 => k_is)
    (case k2 => k_is)
    (case a3 => k_is)
    (case l3 => k_is)
    (case e3 => k_is)
    (case k3 => k_is)
    (case a4 => k_is)
    (case l4 => k_is)
    (case e4 => k_is)
    (case k4 => k_is)
    (case a5 => k_is)
    (case l5 => k_is)
    (case e5 => k_is)
    (case k5 => k_is)
    (case a6 => k_is)
    (case l6 => k_is)
    (case e6 => k_is)
    (case k6 => k_is)
    (case a7 => k_is)
    (case l7 => k_is)
    (case e7 => k_is)
    (case k7 => k_is)
    (case a8 => k_is)
    (case l8 => k_is)
    (case e8 => k_is)
    (case k8 => k_is)
    (case a9 => k_is)
    (case l9 => k_is)
    (case e9 => k_is)
    (case k9 => k_is)
    (case a10 => k_is)
    (case l10 => k_is)
    (case e10 => k_is)
    (case k10 => k_is)
    (case a11 => k_is)
    (case l11 => k_is)
    (case e11 => k_is)
    (case k11 => k_is)
    (case a12 => k_is)
    (case l12 => k_is)
    (case e12 => k_is)
    (case k12 => k_is)
    (case a13 => k_is)
    (case l13 => k_is)
    (case e13 => k_is)
    (case k13 => k_is)
    (case a14 => k_is)
    (case l14 => k_is)
    (case e14 => k_is)
    (case k14 => k_is)
    (case a15 => k_is)
    (case l15 => k_is)
    (case e15 => k_is)
    (case k15 => k_is)
    (case a16 => k_is)
    (case l16 => k_is)
    (case e16 => k_is)
    (case k16 => k_is)
    (case a17 => k_is)
    (case l17 => k_is)
    (case e17 => k_is)
    (case k17 => k_is)
    (case a18 => k_is)
    (case l18 => k_is)
    (case e18 => k_is)
    (case k18 => k_is)
    (case a19 => k_is)
    (case l19 => k_is)
    (case e19 => k_is)
    (case k19 => k_is)
    (case a20 => k_is)
    (case l20 => k_is)
    (case e20 => k_is)
    (case k20 => k_is)
    (case a21 => k_is)
    (case l21 => k_is)
    (case e21 => k_is)
    (case k21 => k_is)
    (case z0 => k_is)
    (case z1 => k_is)
    (case z2 => k_is)
    (case z3 => k_is)
    (case z4 => k_is)
    (case z5 => k_is)
    (case z6 => k_is)
    (case z7 => k_is)
    (case z8 => k_is)
    (case z9 => k_is)
    (case z10 => k_is)
    (case z11 => k_is)
    (case z12 => k_is)
    (case c0 => k_is)
    (case r0 => exact ⟨_, rfl⟩)
    (case c1 => k_is)
    (case r1 => exact ⟨_, rfl⟩)
    (case c2 => k_is)
    (case r2 => exact ⟨_, rfl⟩)
    (case opq => k_is)
    (case hn => k_is)
    (case ht => k_is)
    (case te => first | kernel_rfl | rfl)
    (case kI => first | kernel_rfl | rfl)
    (case kK => first | kernel_rfl | rfl)
    (case teI => first | kernel_rfl | rfl)
    (case kIK => first | kernel_rfl | rfl)
