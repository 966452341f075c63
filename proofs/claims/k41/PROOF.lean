import PyProof.Rows.All
import Wide.All
import OpenK.AllK
import Wide.FinOn
import HandS.ForExc
import HandS.ExcInit
import HandS.ExcSuper
import HandS.Nested
import HandS.FStr
import KE.KExcSuper
import HandS.ForMost
import HandS.IsInst
import HandS.TupLe
import HandS.Codes
import HandS.FStrTup
import HandS.List
import PyProof.ReprNest
import PyProof.ReprText
import HandS.ExcIs
import HandS.ExcField
import HandS.Words
import PyProof.StrOps2
import KE.KExcIs
import HandS.Strs
import PySem.Challenge.RW_letforget_k41_errors_by_position
set_option Elab.async false
set_option linter.all false
set_option maxRecDepth 100000
set_option maxHeartbeats 4000000
/-! An own error class over ValueError whose __init__ begins with super().__init__(..): its __init__ as a def, its making. -/
namespace Kx
open PySem PySem.Spec PyProof.Rows L2 NdefX
/-- what the written part says of such a class -/
structure SupC (K : PySem.W.Frag) (C : Addr) : Prop where
  oex : OexC K C
  sup : PySem.W.ks_superIn K C C "__init__" = some (some (.builtin "ValueError.__init__"))
  subV : PySem.W.subIn K (.ref C) (.type "ValueError") = some true
  mro : PySem.W.mroIn K C (.ref C) = some true
  opq : PySem.W.nsIn K cStatics "thirdparty.any" = some none
/-- what it says of the __init__: its code's file, the cell of __class__ -/
structure SupF (K : PySem.W.Frag) (P : Program) (C f : Addr) (fd : FuncData) (cda cc : Addr) (me : Str) : Prop where
  fn : ∃ oc od osl, K.lookup f = some ⟨oc, od, .func fd, osl⟩
  head : ∃ ar : Arg, (fd.params.posonlyargs ++ fd.params.args).head? = some ar ∧ ar.arg = me
  code : ∃ (ccl : Value) (cdd : Option Addr) (vs : Array Value) (ccs : Array (Option Value)) (file : Str) (tf : Tok), K.lookup cda = some ⟨ccl, cdd, .fields vs, ccs⟩ ∧ vs[2]? = some (.str file tf) ∧ ((P.main.file : Str) == file) = true
  cell : ∃ (cl : Value) (cld : Option Addr) (csl : Array (Option Value)), K.lookup cc = some ⟨cl, cld, .cell (some (.ref C)), csl⟩
  top : (P.main.scope.names.lookup ("super" : Str)).isSome = false
theorem boot_super : bootBuiltins "super" = some (.type "super") := by decide +kernel
section
variable {X : Cx} {pins : List (Addr × Obj)} {σ : L2.St} {H : Hp} {s : Shared} {a C f cda cc : Addr} {fd : FuncData} {me : Str} {i : Nat} {e : Expr} {es : List Expr} {ta : TA} {p0 p1 p2 p3 p4 : Pos} {body : List Stmt}
/-- ValueError.__init__ bound to such an object, called -/
theorem bw_ok {u : Addr} {us : List Value} {Q : Value → Shared → Prop} {A : Around} {E : Value → Shared → Prop} (T : OexC X.K C) (I : Inv X pins σ H s) (ea : H a = some (exo a C none)) (hu : s.heap.get? u = some (PySem.W.kxs_mw "ValueError.__init__" a)) (hl : us.length ≤ sizeLine) (h : ∀ s', Inv X pins σ H s' → Q .none s') :
    wpAny (model X.prog X.w) A (call (.ref u) us) Q E s := by
  obtain ⟨nm, q, N, bs, bm, sn, sub, ab, col, dd, k0, k1, k2, k3, k5, hC, hbm⟩ := T.cls
  obtain ⟨t1, ho⟩ := exo_at I.hok ea
  have hC' := I.kIn _ _ hC
  obtain ⟨hp, g, d, t, os⟩ := s
  have fin : ∀ h' t2, (∀ b o, b ≠ a → hp.get? b = some o → h'.get? b = some o) → h'.get? a = some (PySem.HandSPX.excO C t2) → Q .none ⟨h', g, d, t, os⟩ := fun h' t2 k hx => by
    have J := I.write (t' := t) (x := a) (e := a) (o := exo a C none) (by rw [ea]; exact True.intro) (.inl rfl) k ⟨_, hx⟩ (exo_ok hx)
    have eu : upd H a (exo a C none) = H := by
      funext b
      by_cases hb : b = a
      · rw [hb, upd_same, ea]
      · rw [upd_ne hb]
    rw [eu] at J
    exact h _ J
  refine wpAny_call (codeAny_of_tree ?_)
  show wpAny _ A.in1 (callAny (.ref u) ⟨us, []⟩) _ _ _
  simp only [callAny]
  refine wpAny_bind (wpAny_load hu ?_)
  simp only [PySem.W.kxs_mw, show (Value.type "method-wrapper" == Value.type "method" || Value.type "method-wrapper" == Value.type "builtin_function_or_method" || Value.type "method-wrapper" == Value.type "method-wrapper") = true by decide, if_true]
  refine PySem.W.KFB.if_so (by decide) ?_
  refine wpAny_bind (PySem.W.check_bound_init F.excBase_ValueError.toExcCallFacts hC' ho rfl ?_)
  refine wpAny_bind (wpAny_pure (wpAny_pure ?_))
  refine ⟨plainId_quiet F.excBase_ValueError.init.plain _, codeAny_builtin F.excBase_ValueError.initEntry ?_⟩
  rw [Around.under_plainId F.excBase_ValueError.init.plain _]
  refine PySem.W.exc_init_tree (cls := .ref C) (t0 := t1) (dv := none) (c2 := .none) (c3 := .none) (b4 := .bool false) ho hl fun h' k e' t' => ?_
  exact fin h' _ k e'
/-- super().__init__(e, ..) as a statement of such an __init__ -/
theorem at_super {pl : Sem Bool} {D : PySem.Flow → Shared → Prop} (T : SupC X.K C) (S : SupF X.K X.prog C f fd cda cc me) (hfu : X.env.func = some f) (hco : X.env.code = .ref cda) (hce : X.env.cells.lookup ("__class__" : Str) = some cc)
    (hks : X.env.kindOf "super" = some .globalImplicit) (hkc : X.env.kindOf "__class__" = some .free) (hka : X.env.kindOf me = some .local) (hm : X.mg "super" = none) (I : Inv X pins σ H s)
    (hN : X.N[i]? = some me) (hσ : σ[i]? = some (some (.ref a))) (ea : H a = some (exo a C none)) (ha : PA X (e :: es) ta)
    (h : ta σ H fun vs H1 => vs.length ≤ 1000 ∧ H1 a = some (exo a C none) ∧ ∀ s', Inv X pins σ H1 s' → D .next s')
    (hi : interactive X.env = false := by rfl) (hs : swapsWith (.Call (.Attribute (.Call (.Name "super" p0) [] [] p1) "__init__" p2) (e :: es) [] p3) none p4.line X.env = pure false := by rfl)
    (he : starEach (e :: es) X.env = (false, eval e X.env) :: starEach es X.env := by rfl) (hpl : (backTo p3 (starEach es X.env)).any (·.1) = false := by rfl)
    (hev : eval (.Call (.Attribute (.Call (.Name "super" p0) [] [] p1) "__init__" p2) (e :: es) [] p3) X.env = (do
      let ov ← attributeBase (.Call (.Name "super" p0) [] [] p1) "__init__" X.env (eval (.Call (.Name "super" p0) [] [] p1) X.env)
      standAt p2.atName
      let (f, first) ← holding [ov] (getMethod ov "__init__" pl)
      callWith p3 f first (backTo p3 (starEach (e :: es) X.env)) []) := by rfl) :
    _root_.PySem.wpAt (model X.prog X.w) X.A (.func body X.env) (exec (.Expr (.Call (.Attribute (.Call (.Name "super" p0) [] [] p1) "__init__" p2) (e :: es) [] p3) p4) X.env) D X.xe s := by
  obtain ⟨oc, od, osl, lkf⟩ := S.fn
  obtain ⟨ar, hhead, hme⟩ := S.head
  obtain ⟨ccl, cdd, vs, ccs, file, tf, lkc, hvs, hfile⟩ := S.code
  obtain ⟨cl, cld, csl, lkcell⟩ := S.cell
  obtain ⟨nm, q, N, bs, bm, sn, sub, ab, col, dd, k0, k1, k2, k3, k5, hC, hbm⟩ := T.oex.cls
  have hcl : PySem.W.clsIn X.K C = some { name := nm, bases := bs, mro := .ref C :: bm, ns := N, qualname := q, hasDict := true, slotNames := sn, subclasses := sub, abstract := ab, collection := col, hasDel := false } := by unfold PySem.W.clsIn; rw [hC] <;> rfl
  have KX := I.kIn
  have hkf : X.env.scope.kind = .function := I.ok.kind
  obtain ⟨t1, ho⟩ := exo_at I.hok ea
  obtain ⟨m, hn, hl⟩ := I.loc
  obtain ⟨u0, r0, lk0⟩ := hl i me (.ref a) hN hσ (.inl hka)
  cases (show u0 = Value.ref a from r0)
  have hm0 : m me = some (.ref a) := by
    rcases lk0 with ⟨_, z⟩ | ⟨z, _⟩
    · exact z
    · rw [hka] at z
      rcases z with z | z <;> cases z
  obtain ⟨mb, hmb1, hmb2⟩ := I.mod.blt
  refine PySem.ks_wpAt_Expr_any ?_ hi hs
  refine PySem.ks_wpAt_MethodCall ?_ hev
  refine PySem.ks_wpAt_super_base hks hkc (by decide) hfu (KX _ _ lkf) rfl hhead hco (KX _ _ lkc) rfl hvs hfile S.top ?_
  refine PySem.W.ks_loadName_global hkf hks (PySem.Calls.loadGlobal_builtin (mb := mb) (by rw [I.ok.glob]; exact I.mod.glob.keeps I.bk) hm (by rw [I.ok.blt]; exact hmb1.keeps I.bk) ((hmb2 _ (by decide +kernel)).trans boot_super) ⟨rfl, ?_⟩)
  refine wpAny_loadName_free hkf hkc hce (v := .ref C) ⟨_, KX _ _ lkcell, rfl⟩ ?_
  rw [hme]
  refine wpAny_loadName_local hkf hka hn hm0 ?_
  obtain ⟨hh, g, d, t, os⟩ := s
  refine ks_wpAny_isType_cls (KX _ _ hC) rfl ⟨rfl, ?_⟩
  have hsub : PySem.W.Looks (model X.prog X.w) hh (isSubtype (.ref C) (.ref C)) true := PySem.W.looks_mroIn KX T.mro
  refine PySem.ks_wpAny_call_super (KX _ _ hC) rfl ho rfl (fun c e => by cases e) hsub (fun h1 e1 k1' => ?_)
  have I1 : Inv X pins σ H ⟨h1, g, d, t, os⟩ := I.kept (h' := h1) (t' := t) k1'
  have hI : PySem.W.Looks (model X.prog X.w) h1 (isInstance (.ref a) (.type "ValueError")) true := (show PySem.W.InstAt h1 a _ C none from ⟨k1' _ _ ho, rfl, rfl, trivial⟩).type.andThen (PySem.W.looks_subIn I1.kIn T.subV)
  have hsup := T.sup
  unfold PySem.W.ks_superIn at hsup
  rw [hcl] at hsup
  refine PySem.W.kxs_getMethod PySem.W.kxs_ValueError e1 (PySem.W.looks_opaque I1.kIn T.opq) (l₀ := .ref C :: bm) ?_ rfl I1.kIn hsup hI ?_ (by decide) ?_
  · exact fun A Q E s k q => wpAny_bind ((PySem.W.looks_clsIn I1.kIn hcl) A _ E s k (wpAny_pure q))
  · exact PySem.W.ks_ne (odx := none) I1.kIn (⟨k1' _ _ ho, rfl, rfl, trivial⟩ : PySem.W.InstAt h1 a _ C none) hcl
  have hsz : h1.objs.size ≤ h1.objs.size := Nat.le_refl _
  have I2 : Inv X pins σ H ⟨h1.push (PySem.W.kxs_mw "ValueError.__init__" a), g, d, t + 1, os⟩ := I1.kept (t' := t + 1) fun b o e => Heap.get?_push_of_some _ e
  have hu : (h1.push (PySem.W.kxs_mw "ValueError.__init__" a)).get? h1.objs.size = some (PySem.W.kxs_mw "ValueError.__init__" a) := Heap.get?_push_size _ rfl
  have fp : FpOk X pins H h1.objs.size := I1.fpOk hsz (I1.hok.fresh hsz)
  have I3 := I2.pinned (fp := [h1.objs.size]) (fun b hb => by rw [List.mem_singleton.mp hb]; exact fp) (fun b hb => by
    rw [List.mem_singleton.mp hb]
    exact ⟨_, hu, fun v z => by cases z⟩)
  refine PySem.W.kxs_callWith (i := "ValueError.__init__") (x := a) (by rw [he]; show (false || (backTo p3 (starEach es X.env)).any (·.1)) = false; rw [hpl]; rfl) ?_
  rw [he]
  refine PySem.Calls.evalArgs_plain ?_
  have har := ha.run p3 _ _ σ H _ I3 h
  rw [he] at har
  refine thn har fun us s4 ⟨vs, H4, I4, r4, hlen, ea4, fin⟩ => ?_
  have pin4 := (I4.pin (h1.objs.size, PySem.W.kxs_mw "ValueError.__init__" a) (List.mem_append_right _ (List.mem_append_right _ (mem_pinsAt (List.mem_singleton.mpr rfl) hu)))).1
  refine ⟨pin4, ?_⟩
  rw [List.nil_append]
  refine bw_ok T.oex I4.unpinned ea4 pin4 ?_ fun s5 I5 => fin s5 I5
  rw [← r4.length, sizeLine_eq]
  omega
end
section
variable {P : Program} {w : World} {K : PySem.W.Frag} {mg : Str → Option Value} {base : Heap} {CX : CXT}
abbrev supSt (p0 p1 p2 p3 p4 : Pos) (e : Expr) : Stmt := .Expr (.Call (.Attribute (.Call (.Name "super" p0) [] [] p1) "__init__" p2) [e] [] p3) p4
/-- THE RULE: such an __init__ keeps its promise, by its one argument's reading and the rest of its body -/
theorem fn_super {k : Nat} {f C cda cc : Addr} {fd : FuncData} {name qual me : Str} {params : Arguments} {p0 p1 p2 p3 p4 : Pos} {e : Expr} {rest : List Stmt} {scope : Scope} {kV doc pm ct : Value} {an : Option Addr} {N ps : List Str} {sp : Sp}
    (S : SupF K P C f fd cda cc me) (T : SupC K C) (hfd : fd = PySem.W.fnX name qual params (supSt p0 p1 p2 p3 p4 e :: rest) scope [("__class__", cc)] .none kV doc pm an (.ref cda) ct) (hcd : PySem.W.codeIn K (.ref cda) qual = true) (NS : NScope N ps ["__class__"] scope) (hm : mg "super" = none)
    (hN : N[0]? = some me) (hps : 0 < ps.length) (hks : scope.names.lookup ("super" : Str) = some .globalImplicit) (hka : scope.names.lookup me = some .local) (len : ∀ vs H Q E, sp vs H Q E → vs.length = ps.length)
    (hbody : ∀ (A : Around) (outer : List Env) (s : Shared) (H : Hp) (vs : List V) (Q : VK) (E : XK), Room k (A.deeper (envF ⟨name, qual, params, supSt p0 p1 p2 p3 p4 e :: rest, scope, [("__class__", cc)], cda⟩ f s.heap.objs.size)) → sp vs H Q E →
      ∃ (a : Addr) (te : TE) (t : TS), vs[0]? = some (.ref a) ∧ H a = some (exo a C none) ∧ PE (ncx CX P w K mg base N ⟨name, qual, params, supSt p0 p1 p2 p3 p4 e :: rest, scope, [("__class__", cc)], cda⟩ f A outer s H E) e te ∧
        PSs (ncx CX P w K mg base N ⟨name, qual, params, supSt p0 p1 p2 p3 p4 e :: rest, scope, [("__class__", cc)], cda⟩ f A outer s H E) rest t ∧
        ∀ R : Hp → Prop, (∀ H1, H1 a = some (exo a C none) → t { nx := fun _ H' => Q .non H', rt := Q } (startF N vs [some (.ref C)]) H1 → R H1) → te (startF N vs [some (.ref C)]) H fun _ H1 => R H1)
    (hev : ∀ env : Env, ∃ pl : Sem Bool, eval (.Call (.Attribute (.Call (.Name "super" p0) [] [] p1) "__init__" p2) [e] [] p3) env = (do
      let ov ← attributeBase (.Call (.Name "super" p0) [] [] p1) "__init__" env (eval (.Call (.Name "super" p0) [] [] p1) env)
      standAt p2.atName
      let (f, first) ← holding [ov] (getMethod ov "__init__" pl)
      callWith p3 f first (backTo p3 (starEach [e] env)) []))
    (hse : ∀ env : Env, starEach [e] env = [(false, eval e env)])
    (hsw : ∀ env : Env, swapsWith (.Call (.Attribute (.Call (.Name "super" p0) [] [] p1) "__init__" p2) [e] [] p3) none p4.line env = pure false) :
    FnOk P w K mg base CX (k + 1) f fd ps sp := by
  refine ⟨len, fun A outer s H args us vs Q E hr e0 hb r hsp => ?_⟩
  subst hfd
  have hl := len _ _ _ _ hsp
  have KX : K.In s.heap := e0.mod.kin.keeps fun b o e => (e0.bs b o e).1
  have lim : s.heap.NoLimit := e0.mod.nolimit.keeps fun b o e => (e0.bs b o e).1
  obtain ⟨oc, od, osl, lk⟩ := S.fn
  obtain ⟨cl, cld, csl, lkcell⟩ := S.cell
  have hcl : s.heap.get? cc = some ⟨cl, cld, .cell (some (.ref C)), csl⟩ := KX _ _ lkcell
  have hHc : H cc = none := (e0.bs _ _ (e0.mod.kin _ _ lkcell)).2
  have one : ∀ (y : Str) (c : Addr), ([(("__class__" : Str), cc)] : List (Str × Addr)).lookup y = some c → y = "__class__" ∧ c = cc := fun y c h => by
    have hm := PySem.mem_of_lookup h
    rw [List.mem_singleton] at hm
    exact ⟨congrArg Prod.fst hm, congrArg Prod.snd hm⟩
  have look1 : ([(("__class__" : Str), cc)] : List (Str × Addr)).lookup ("__class__" : Str) = some cc := by simp [List.lookup]
  have CA : CellsAt [(("__class__" : Str), cc)] ["__class__"] [some (V.ref C)] s.heap H := by
    refine ⟨rfl, fun y c h => ?_, fun x y c h1 h2 => (one x c h1).1.trans (one y c h2).1.symm, fun i y h => ?_⟩
    · rw [(one y c h).2]
      exact ⟨hHc, _, _, hcl, rfl⟩
    · match i, h with
      | 0, h =>
        have e : ("__class__" : Str) = y := Option.some.inj h
        subst e
        refine ⟨cc, look1, fun v hv => ?_⟩
        have ev : V.ref C = v := Option.some.inj (Option.some.inj hv)
        subst ev
        exact ⟨_, rfl, _, hcl, rfl⟩
      | i + 1, h => exact absurd h (by simp)
  refine ks_codeAny_call_defAt hr.depth (KX _ _ lk) rfl lim (PySem.W.codeRec_of KX hcd) rfl hb (fun x hx => NS.nocell x hx) (fun y hy => NS.par _ (List.of_mem_zip hy).1) (fun h₀ hns hk => ?_) NS.co NS.gen NS.kind
  obtain ⟨a, te, t, h0, ea, he, ht, hq⟩ := hbody A outer s H vs Q E (hr.deeper _) hsp
  have I := inv_startN (CX := CX) (mg := mg) (base := base) (f := f) (E := E) (h₁ := h₀) (tk := s.toks + (ps.zip us).length) (F := ⟨name, qual, params, supSt p0 p1 p2 p3 p4 e :: rest, scope, [("__class__", cc)], cda⟩) NS hr.hd e0 hl r CA hns hk
  have hσ : (startF N vs [some (V.ref C)])[0]? = some (some (.ref a)) := by
    unfold startF
    rw [List.getElem?_append_left (by rw [List.length_map]; omega), List.getElem?_map, h0]
    rfl
  have fin : ∀ {σ' : L2.St} {H' : Hp} {s' : Shared} {v : V} {u : Value}, Inv (ncx CX P w K mg base N ⟨name, qual, params, supSt p0 p1 p2 p3 p4 e :: rest, scope, [("__class__", cc)], cda⟩ f A outer s H E) [] σ' H' s' → L2.RelV v u → Q v H' → CE outer P w H s Q u s' :=
    fun {σ' H' s' v u} J rv q => ⟨v, H', J.os, J.bare, J.base, J.hok, rv, q⟩
  obtain ⟨pl, hev⟩ := hev (envF ⟨name, qual, params, supSt p0 p1 p2 p3 p4 e :: rest, scope, [("__class__", cc)], cda⟩ f s.heap.objs.size)
  refine ks_wpAt_execs_cons ?_
  refine at_super (X := ncx CX P w K mg base N ⟨name, qual, params, supSt p0 p1 p2 p3 p4 e :: rest, scope, [("__class__", cc)], cda⟩ f A outer s H E) (pl := pl) (i := 0) (ta := tCons te tNil) T S rfl rfl look1 hks (NS.frk _ (List.mem_singleton.mpr rfl)) hka hm I hN hσ ea (pa_cons he pa_nil (hse _)) ?_ ?_ (hsw _) (hse _) rfl hev
  · refine hq (fun H1 => ([()].length ≤ 1000 ∧ H1 a = some (exo a C none) ∧ ∀ s', _)) fun H1 e1 ht1 => ⟨by decide, e1, fun s' I1 => ?_⟩
    refine wpAt_of_wpAny (wpAny_mono (ht.run [] s' _ H1 _ I1 ht1) (fun fl s' hs => ?_) fun e s' hs => hs)
    cases fl with
    | ret u =>
      obtain ⟨v, σ', H', J, rv, q⟩ := hs
      exact fin J rv q
    | next =>
      obtain ⟨σ', H', J, q⟩ := hs
      exact fin (v := V.non) (u := Value.none) J rfl q
    | brk =>
      obtain ⟨_, _, _, q⟩ := hs
      exact False.elim q
    | cont =>
      obtain ⟨_, _, _, q⟩ := hs
      exact False.elim q
  · show (scope.kind == .module && _) = false
    rw [NS.kind]
    rfl
end
end Kx

namespace Kx
open PySem PySem.Spec PyProof.Rows L2
/-! ### a def as its callers see it; a constant of the module -/
def Cal (P : Program) (w : World) (K : PySem.W.Frag) (mg : Str → Option Value) (base : Heap) (x : Str) (k : Nat) (sp : Sp) : Prop :=
  ∃ (f : Addr) (fd : FuncData) (ps : List Str), FnOk P w K mg base CX0 k f fd ps sp ∧ Binds K fd ps [] ∧ mg x = some (.ref f) ∧ PySem.W.keepIn K (.ref f) = true
theorem pe_cal {X : Cx} {x : Str} {k : Nat} {sp : Sp} {e : Expr} {es : List Expr} {t : TA} {p pos : Pos} (C : Cal X.prog X.w X.K X.mg X.base x k sp) (hr : Room k X.A) (hg : Gl X x) (ha : PA X (e :: es) t)
    (hdb : (x == ("__debug__" : Str)) = false := by decide) (he : starEach (e :: es) X.env = (false, eval e X.env) :: starEach es X.env := by rfl) (hpl : (backTo pos (starEach es X.env)).any (·.1) = false := by rfl) :
    PE X (.Call (.Name x p) (e :: es) [] pos) (tCall sp [] E0 t) := by
  obtain ⟨f, fd, ps, F, b, g, kp⟩ := C
  exact pe_call F hr hg g kp b .nil pass0 ha hdb he hpl
theorem pe_cal0 {X : Cx} {x : Str} {k : Nat} {sp : Sp} {p pos : Pos} (C : Cal X.prog X.w X.K X.mg X.base x k sp) (hr : Room k X.A) (hg : Gl X x)
    (hdb : (x == ("__debug__" : Str)) = false := by decide) : PE X (.Call (.Name x p) [] [] pos) (tCall sp [] E0 tNil) := by
  obtain ⟨f, fd, ps, F, b, g, kp⟩ := C
  exact pe_call0 F hr hg g kp b .nil pass0 hdb
def GC (mg : Str → Option Value) (x : Str) (v : V) : Prop := ∃ u, mg x = some u ∧ RelV v u
theorem pe_gc {X : Cx} {x : Str} {v : V} {pos : Pos} (h : GC X.mg x v) (hg : Gl X x) (hd : (x == ("__debug__" : Str)) = false := by decide) : PE X (.Name x pos) (tC v) := by
  obtain ⟨u, hm, r⟩ := h
  exact pe_glob hg hm r hd
theorem same_upd {H : Hp} {p : Addr} {o : HO} (h : H p = none) : Same H (upd H p o) := fun b x e => by
  rw [upd_ne (ne_of_none e h)]
  exact e
/-- what lies at an address that H did not know may change -/
theorem same_mut {H H1 : Hp} {p : Addr} {o : HO} (s : Same H H1) (h : H p = none) : Same H (upd H1 p o) := fun b x e => by
  rw [upd_ne (ne_of_none e h)]
  exact s b x e
theorem iteB {b : Bool} {A B : Prop} (h1 : b = true → A) (h2 : b = false → B) : if b = true then A else B := by
  cases b with
  | true => exact h1 rfl
  | false => exact h2 rfl
theorem sz9 {n : Nat} (h : n ≤ 100000) : n ≤ sizeLine := Nat.le_trans h (by decide)
theorem sz8 {n : Nat} (h : n < 100000) : n < sizeLine := Nat.lt_of_lt_of_le h (by decide)
/-- what a pool of draws is -/
def inR (v : Int) : Prop := 0 ≤ v ∧ v < 65536
structure Pool (ms : List Int) : Prop where
  lo : 3 ≤ ms.length
  hi : ms.length ≤ 200
  rg : ∀ v ∈ ms, inR v
def spDraws (K : PySem.W.Frag) : Sp := fun vs H Q _ => ∃ (a : Addr) (ns : List Int), vs = [.ref a] ∧ SqL K H a (ns.map V.int) ∧ ns.length ≤ 63 ∧
  ∀ H' p ms, Same H H' → H p = none → H' p = some (.lst (ms.map V.int)) → Pool ms → Q (.ref p) H'
theorem map_app (ms : List Int) (v : Int) : (ms.map V.int) ++ [V.int v] = (ms ++ [v]).map V.int := by rw [List.map_append]; rfl
theorem rg_app {ms : List Int} {v : Int} (h : ∀ x ∈ ms, inR x) (hv : inR v) : ∀ x ∈ ms ++ [v], inR x := fun x hx => by
  rcases List.mem_append.mp hx with hx | hx
  · exact h x hx
  · rw [List.mem_singleton.mp hx]; exact hv
theorem sl9 {n : Nat} (h : n < 100000) : n < sizeLine := Nat.lt_of_lt_of_le h (by decide)
variable {K : PySem.W.Frag}
theorem pe10 : ((10 : Int) ^ (18 : Int).toNat) = 1000000000000000000 := by decide
theorem eqv_nil : ∀ ms : List Int, PyData.eqv (.list (ms.map PyData.int)) (.list []) = decide (ms = [])
  | [] => by simp [PyData.eqv, PyData.eqvAll]
  | x :: r => by simp [PyData.eqv, PyData.eqvAll]
theorem dp_ints {H : Hp} : ∀ ms : List Int, DpAll K H (ms.map V.int) (ms.map PyData.int)
  | [] => .nil
  | x :: r => .cons (.int x) (dp_ints r)
theorem lay_ints : ∀ ms : List Int, PyData.canLayAll0 (ms.map PyData.int) = true
  | [] => rfl
  | x :: r => by
    rw [List.map_cons]
    simp only [PyData.canLayAll0, PyData.canLay0, lay_ints r, Bool.and_self]
theorem dep_ints : ∀ ms : List Int, PyData.depthAll (ms.map PyData.int) = 0
  | [] => rfl
  | x :: r => by
    rw [List.map_cons]
    simp only [PyData.depthAll, PyData.depth, dep_ints r, Nat.max_self]
theorem shp_ints (ms : List Int) : SeqAt.shaped (.list (ms.map PyData.int)) = true := by
  unfold SeqAt.shaped
  simp only [PyData.canLay0, PyData.depth, lay_ints, dep_ints, Bool.true_and]
  decide
def nthV (ms : List Int) (k : Int) : Int := if k < (ms.length : Int) then ms.getD k.toNat 0 else (ms.getD (k % (ms.length : Int)).toNat 0 * 31 + k * 7919) % 65521
theorem getD_rg {ms : List Int} (h : ∀ v ∈ ms, inR v) {i : Nat} (hi : i < ms.length) : ms[i]? = some (ms.getD i 0) ∧ inR (ms.getD i 0) := by
  have e : ms.getD i 0 = ms[i] := by rw [List.getD_eq_getElem?_getD, List.getElem?_eq_getElem hi]; rfl
  rw [e]
  exact ⟨List.getElem?_eq_getElem hi, h _ (List.getElem_mem hi)⟩
theorem nthV_rg {ms : List Int} (h : Pool ms) {k : Int} (hk : 0 ≤ k) : inR (nthV ms k) := by
  unfold nthV
  split
  · exact (getD_rg h.rg (by omega)).2
  · unfold inR; constructor <;> omega
theorem at_pool {ms : List Int} {k : Int} (hk : 0 ≤ k) (hl : k < (ms.length : Int)) : atI (ms.map V.int) k = some (.int (ms.getD k.toNat 0)) := by
  obtain ⟨j, rfl⟩ : ∃ j : Nat, k = (j : Int) := ⟨k.toNat, by omega⟩
  refine atI_nat ?_
  rw [List.getElem?_map, List.getElem?_eq_getElem (by omega), List.getD_eq_getElem?_getD, Int.toNat_natCast, List.getElem?_eq_getElem (by omega)]
  rfl
def spNth (K : PySem.W.Frag) : Sp := fun vs H Q _ => ∃ (p : Addr) (ms : List Int) (k : Int), vs = [.ref p, .int k] ∧ SqL K H p (ms.map V.int) ∧ Pool ms ∧ 0 ≤ k ∧ k < 1000000 ∧ Q (.int (nthV ms k)) H
def SIG1 : Str := " !\"#$&'()*+,-./0123456789:;<=>?@ABCDEFGHIJKLMNOPQRSTUVWXYZ[\\]^_`"
def SIG2 : Str := "abcdefghijklmnopqrstuvwxyz{|}~\n"
def SIGS : List Nat := (SIG1 ++ SIG2).cps.toList
def signV (k : Int) : Nat := SIGS.getD (k % 95).toNat 0
theorem sigs_len : SIGS.length = 95 := by decide +kernel
theorem sigs_len2 : (SIG1 ++ SIG2).length = 95 := by decide +kernel
theorem sig12 : SIG1.length + SIG2.length ≤ 1000 := by decide +kernel
def okS (c : Nat) : Bool := c == 10 || (decide (32 ≤ c) && decide (c ≤ 126) && c != 37)
theorem sigs_ok : SIGS.all okS = true := by decide +kernel
theorem at_sig (k : Int) : atI SIGS (k % 95) = some (signV k) := by
  have h0 : 0 ≤ k % 95 := by omega
  obtain ⟨j, hj⟩ : ∃ j : Nat, k % 95 = (j : Int) := ⟨(k % 95).toNat, by omega⟩
  unfold signV
  rw [hj, Int.toNat_natCast]
  refine atI_nat ?_
  have hl : j < SIGS.length := by rw [sigs_len]; omega
  rw [List.getElem?_eq_getElem hl, List.getD_eq_getElem?_getD, List.getElem?_eq_getElem hl]
  rfl
theorem signV_ok (k : Int) : okS (signV k) = true := by
  have hl : (k % 95).toNat < SIGS.length := by rw [sigs_len]; omega
  unfold signV
  rw [List.getD_eq_getElem?_getD, List.getElem?_eq_getElem hl]
  exact List.all_eq_true.mp sigs_ok _ (List.getElem_mem hl)
def spSign : Sp := fun vs H Q _ => ∃ k : Int, vs = [.int k] ∧ Q (.str ⟨#[signV k]⟩) H
def spSaid : Sp := fun vs H Q _ => ∃ a b : Bool, vs = [.bl a, .bl b] ∧ Q (.bl (decide (a = b))) H
/-- the built-ins that every law's own defs ask -/
structure TB (mg : Str → Option Value) : Prop where
  m_len : mg "len" = none
  m_abs : mg "abs" = none
  m_int : mg "int" = none
  m_range : mg "range" = none
/-! ### the end: what the top has written -/
/-- a def of the top, as k_is finds it -/
structure At (K : PySem.W.Frag) (x : Str) (st : Stmt) (f : Addr) (fd : FuncData) : Prop where
  a : PySem.W.nsIn K mainGlobals x = some (some (.ref f))
  F : Fun K x x st f fd
theorem gc_of {K : PySem.W.Frag} {h : Heap} {mg : Str → Option Value} (X : K.In h) (G : h.Ns mainGlobals mg) {x : Str} {v : V} {u : Value} (a : PySem.W.nsIn K mainGlobals x = some (some u)) (r : RelV v u) : GC mg x v := ⟨u, PySem.W.mg_of X G a, r⟩
theorem at_mk {K : PySem.W.Frag} {x : Str} {st : Stmt} {f : Addr} {oc : Value} {od an : Option Addr} {osl : Array (Option Value)} {kV doc pm cdv ct : Value} (a : PySem.W.nsIn K mainGlobals x = some (some (.ref f)))
    (l : K.lookup f = some ⟨oc, od, .func (PySem.W.fnOf x x (defArgs st) (defBody st) (defScope st) .none kV doc pm an cdv ct), osl⟩)
    (c : PySem.W.codeIn K cdv x = true) (k : PySem.W.keepIn K (.ref f) = true) : At K x st f (PySem.W.fnOf x x (defArgs st) (defBody st) (defScope st) .none kV doc pm an cdv ct) := ⟨a, fun_mk l c k⟩
end Kx

/-! {x!r}, x of texts, lists and tuples, whatever is under way: some text of bounded length. -/
namespace Kr
open PySem PySem.Spec PyProof.Rows
/-- repr gives some text of at most n signs, with k units to spare -/
def Shows (prog : Program) (w : World) (h₀ : Heap) (k n : Nat) (x : Value) : Prop :=
  ∀ b : Nat, b + n ≤ sizeLine → ∀ (A : Around) (E : Value → Shared → Prop) (s : Shared) (Q : Str → Shared → Prop), A.units + k < cLine → (∀ c o, h₀.get? c = some o → s.heap.get? c = some o) →
    (∀ (t : Str) (h' : Heap) (tk : Nat), t.length ≤ n → (∀ c o, s.heap.get? c = some o → h'.get? c = some o) → Q t { s with heap := h', toks := tk }) → wpAny (model prog w) A (pyReprUnder b x) Q E s
def cst (ns : List Nat) : Nat := (ns.map (· + 2)).sum
theorem cst_cons (n : Nat) (ns : List Nat) : cst (n :: ns) = n + 2 + cst ns := by
  unfold cst
  rw [List.map_cons, List.sum_cons]
theorem cst_take_succ {ns : List Nat} {i n : Nat} (h : ns[i]? = some n) : cst (ns.take (i + 1)) = cst (ns.take i) + (n + 2) := by
  unfold cst
  rw [List.take_add_one, h, List.map_append, List.sum_append]
  simp
theorem cst_take_le (ns : List Nat) (i : Nat) : cst (ns.take i) ≤ cst ns := by
  have e : cst ns = cst (ns.take i) + cst (ns.drop i) := by
    unfold cst
    rw [← List.sum_append, ← List.map_append, List.take_append_drop]
  omega
theorem listText_le (ts : List Str) : (listText ts).length ≤ piled ts + 2 := by
  rw [listText_eq_join, strLen_append, strLen_append]
  have e1 : ((("[" : String) : Str)).length = 1 := rfl
  have e2 : ((("]" : String) : Str)).length = 1 := rfl
  rw [e1, e2]
  by_cases h : ts = []
  · subst h
    decide +kernel
  · have := join_length_add ts h
    omega
section
variable {prog : Program} {w : World} {h₀ : Heap} {k : Nat}
theorem Shows.str (x : Str) (t : Tok) (hx : (reprText x).length ≤ sizeLine) : Shows prog w h₀ k (reprText x).length (.str x t) := fun b hb A E s Q _ _ hQ =>
  ReprIs.str (prog := prog) (w := w) x t hx b hb A E s Q fun tk => hQ _ s.heap tk (Nat.le_refl _) fun _ _ e => e
theorem Shows.le {n m : Nat} {x : Value} (h : Shows prog w h₀ k n x) (hn : n ≤ m) : Shows prog w h₀ k m x := fun b hb A E s Q hu hk hQ =>
  h b (by omega) A E s Q hu hk fun t h' tk ht => hQ t h' tk (by omega)
theorem Shows.unit {n j : Nat} {x : Value} (h : Shows prog w h₀ k n x) (hn : k ≤ j) : Shows prog w h₀ j n x := fun b hb A E s Q hu hk hQ =>
  h b hb A E s Q (by omega) hk hQ
/-- the loop of a list's repr -/
theorem loop_any {A : Around} {R : Result → Shared → Prop} {a P : Addr} (hne : a ≠ P) {items : Array Value} {ns : List Nat} {base : Nat} (hu : A.units + (k + 1) < cLine) (hPf : h₀.get? P = none) (hlen : ns.length = items.size)
    (hT : ∀ (i : Nat) (x : Value), items[i]? = some x → ∃ n, ns[i]? = some n ∧ Shows prog w h₀ k n x) (hsz : base + cst ns + 2 ≤ sizeLine) :
    ∀ (m i : Nat) (s : Shared) (oa : Obj) (na : Nat) (acc : Array Value) (c : Nat) (done : List (Str × Tok)), items.size - i = m → i ≤ items.size → (∀ b o, h₀.get? b = some o → s.heap.get? b = some o) → s.heap.get? a = some oa → oa.data = .seq items na →
    s.heap.get? P = some { cls := .type "list", dict := none, data := .seq acc c, slots := #[] } → acc.toList = strValues done → done.length = i → piled (done.map (·.1)) ≤ cst (ns.take i) →
    (∀ (t : Str) h' u tk, t.length ≤ cst ns + 2 → (∀ b o, b ≠ P → s.heap.get? b = some o → h'.get? b = some o) → R (.ok (.ret (.str t u))) { s with heap := h', toks := tk }) →
    codeAny (model prog w) A (.builtin "list.__repr__.loop" ⟨[.ref a, rawInt i, .ref P, rawInt ((base + piled (done.map (·.1)) : Nat) : Int)], []⟩) R s := by
  have hsz1 : items.size ≤ sizeLine := by
    have : ∀ l : List Nat, 2 * l.length ≤ cst l := by
      intro l
      induction l with
      | nil => exact Nat.zero_le _
      | cons n l ih => rw [cst_cons, List.length_cons]; omega
    have := this ns
    omega
  intro m
  induction m with
  | zero =>
    intro i s oa na acc c done hm hi hk0 ha hda hP hacc hdone hpl hR
    have hin : i = items.size := by omega
    have hall : ns.take i = ns := by rw [hin, ← hlen, List.take_length]
    rw [hall] at hpl
    have hlt := listText_le (done.map (·.1))
    refine codeAny_builtin F.entry_list_repr_loop ?_
    show wpAny _ _ (Builtin.«list.__repr__.loop» ⟨[.ref a, .int i 0, .ref P, .int ((base + piled (done.map (·.1)) : Nat) : Int) 0], []⟩) _ _ s
    rw [repr_loop_tree]
    refine wpAny_bind (wpAny_listItems ha hda ?_)
    have hnone : items[(i : Int).toNat]? = none := by simp [hin]
    simp only [hnone]
    unfold reprEnd
    refine wpAny_bind (wpAny_listItems hP rfl ?_)
    rw [hacc, repr_fold]
    refine wpAny_bind (wpAny_pure ?_)
    refine wpAny_bind (wpAny_mkStr (wpAny_pure ?_) (by show (listText _).length ≤ _; omega))
    exact hR _ s.heap _ _ (by show (listText _).length ≤ _; omega) fun _ _ _ e => e
  | succ m ih =>
    intro i s oa na acc c done hm hi hk0 ha hda hP hacc hdone hpl hR
    have hlt : i < items.size := by omega
    obtain ⟨n, hn, hsh⟩ := hT i items[i] (by simp [hlt])
    have hp1 := cst_take_succ hn
    have hp2 := cst_take_le ns (i + 1)
    refine codeAny_builtin F.entry_list_repr_loop ?_
    show wpAny _ _ (Builtin.«list.__repr__.loop» ⟨[.ref a, .int i 0, .ref P, .int ((base + piled (done.map (·.1)) : Nat) : Int) 0], []⟩) _ _ s
    rw [repr_loop_tree]
    refine wpAny_bind (wpAny_listItems ha hda ?_)
    have hsome : items[(i : Int).toNat]? = some items[i] := by simp [hlt]
    simp only [hsome]
    rw [Int.toNat_natCast]
    refine wpAny_bind (wpAny_holding (hsh (base + piled (done.map (·.1)) + 1) (by omega) _ _ _ _ (by rw [units_under_list_loop]; omega) hk0 fun t h' tk ht hkp => ?_))
    refine wpAny_bind (wpAny_mkStr ?_ (by omega))
    refine wpAny_bind ?_
    show wpAny _ _ (updateSeq P _) _ _ _
    have hasz : acc.size ≤ sizeLine := by
      have e1 : acc.toList.length = acc.size := by simp
      have e2 : (strValues done).length = done.length := by simp [strValues]
      rw [hacc] at e1; omega
    refine wpAny_updateSeq (hkp _ _ hP) rfl (wpAny_pure ⟨F.quiet_list_repr_loop _, ?_⟩) hasz
    have hpd : piled ((done ++ [(t, tk)]).map (·.1)) = piled (done.map (·.1)) + (t.length + 2) := by
      rw [List.map_append, piled_append]
      show _ + piled [t] = _
      rw [piled_cons, piled_nil]
    have e1 : ((i : Int) + 1) = ((i + 1 : Nat) : Int) := by omega
    have e2 : base + piled (done.map (·.1)) + (t.length + 2) = base + piled ((done ++ [(t, tk)]).map (·.1)) := by omega
    rw [e1, e2]
    refine ih (i + 1) _ oa na (acc.push (.str t tk)) _ (done ++ [(t, tk)]) (by omega) hlt (fun b o e => (Heap.get?_update_other _ _ (fun h : P = b => by rw [← h, hPf] at e; cases e)).trans (hkp _ _ (hk0 _ _ e))) ((Heap.get?_update_other _ _ (fun h : P = a => hne h.symm)).trans (hkp _ _ ha)) hda (Heap.get?_update_self _ (hkp _ _ hP) rfl) (by simp [hacc, strValues]) (by simp [hdone]) (by omega) fun z h'' u tk' hz hh => ?_
    exact hR z h'' u tk' hz fun b o hb e => hh b o hb ((Heap.get?_update_other _ _ (fun h : P = b => hb h.symm)).trans (hkp _ _ e))
theorem dots3 : ("[...]" : Str).length ≤ 5 := by decide +kernel
/-- list.__repr__ of a non-empty list, whatever is under way -/
theorem list_at {A : Around} {R : Result → Shared → Prop} {s : Shared} {a : Addr} {oa : Obj} {x : Value} {l : List Value} {na base : Nat} {ns : List Nat} (ha : s.heap.get? a = some oa) (hda : oa.data = .seq (x :: l).toArray na) (hu : A.units + (k + 1) < cLine)
    (hk0 : ∀ b o, h₀.get? b = some o → s.heap.get? b = some o) (hlen : ns.length = (x :: l).toArray.size) (hT : ∀ (i : Nat) (y : Value), (x :: l).toArray[i]? = some y → ∃ n, ns[i]? = some n ∧ Shows prog w h₀ k n y) (hsz : base + cst ns + 5 ≤ sizeLine)
    (hR : ∀ (t : Str) h' u tk, t.length ≤ cst ns + 5 → (∀ b o, s.heap.get? b = some o → h'.get? b = some o) → R (.ok (.ret (.str t u))) { s with heap := h', toks := tk }) :
    wpAny (model prog w) A.in1 (Builtin.listReprAt base ⟨[.ref a], []⟩) (fun fin s' => match fin with | .done f => R (.ok f) s' | .again c' => c'.quiet = true ∧ codeAny (model prog w) A c' R s') (fun e s' => R (.error e) s') s := by
  have hPf : h₀.get? s.heap.objs.size = none := by
    cases e : h₀.get? s.heap.objs.size with
    | none => rfl
    | some o => exact absurd (Heap.lt_size (hk0 _ _ e)) (Nat.lt_irrefl _)
  have main : wpAny (model prog w) A.in1 (do again (.builtin "list.__repr__.loop" ⟨[.ref a, rawInt 0, ← newList [], rawInt base], []⟩)) (fun fin s' => match fin with | .done f => R (.ok f) s' | .again c' => c'.quiet = true ∧ codeAny (model prog w) A c' R s') (fun e s' => R (.error e) s') s := by
    refine wpAny_bind (m := newList []) (wpAny_newObj_type ?_)
    refine wpAny_pure ⟨F.quiet_list_repr_loop _, ?_⟩
    exact loop_any (P := s.heap.objs.size) (done := []) (Nat.ne_of_lt (Heap.lt_size ha)) hu hPf hlen hT (by omega) _ 0 _ oa na #[] _ rfl (Nat.zero_le _) (fun b o e => Heap.get?_push_of_some _ (hk0 _ _ e)) (Heap.get?_push_of_some _ ha) hda (Heap.get?_push_size _ rfl) rfl rfl (Nat.zero_le _)
      fun t h' u tk ht hk => hR t h' u tk (by omega) fun b o e => hk b o (Nat.ne_of_lt (Heap.lt_size e)) (Heap.get?_push_of_some _ e)
  intro Γ p hΓ
  have h1 := main Γ p hΓ
  unfold Builtin.listReprAt
  simp [slotArgs, Builtin.List.listItems, seqItems?, Sem.wp_load_of (h := ha), hda, stack]
  show Sem.wp _ Γ (if (Γ.below.any _) = true then _ else _) _ _ p s
  split
  · have h2 : wpAny (model prog w) A.in1 (do rule "list.__repr__.in-itself"; retStr "[...]") (fun fin s' => match fin with | .done f => R (.ok f) s' | .again c' => c'.quiet = true ∧ codeAny (model prog w) A c' R s') (fun e s' => R (.error e) s') s := by
      refine wpAny_bind (wpAny_rule ?_)
      refine wpAny_bind (wpAny_mkStr (wpAny_pure ?_) (by decide +kernel))
      have d := dots3
      exact hR _ s.heap _ _ (by omega) fun _ _ e => e
    exact h2 Γ p hΓ
  · exact h1
/-- a list's object in the heap that was read -/
structure LstAt (h : Heap) (a : Addr) (xs : List Value) : Prop where
  ex : ∃ (o : Obj) (n : Nat), h.get? a = some o ∧ o.cls = .type "list" ∧ o.data = .seq xs.toArray n
structure TupAt (h : Heap) (a : Addr) (xs : List Value) : Prop where
  ex : ∃ (o : Obj) (n : Nat), h.get? a = some o ∧ o.cls = .type "tuple" ∧ o.data = .seq xs.toArray n
/-- the members and what each may come to -/
def Each (prog : Program) (w : World) (h₀ : Heap) (k : Nat) : List Value → List Nat → Prop := Paired fun x n => Shows prog w h₀ k n x
theorem Each.get : ∀ {xs : List Value} {ns : List Nat}, Each prog w h₀ k xs ns → ∀ (i : Nat) (y : Value), xs[i]? = some y → ∃ n, ns[i]? = some n ∧ Shows prog w h₀ k n y
  | _, _, .nil, i, y, e => by simp at e
  | _, _, .cons (b := n) h _, 0, y, e => ⟨n, rfl, (Option.some.inj e) ▸ h⟩
  | _, _, .cons _ t, i + 1, y, e => by
    obtain ⟨n, h1, h2⟩ := Each.get t i y (by simpa using e)
    exact ⟨n, by simpa using h1, h2⟩
theorem Each.len {xs : List Value} {ns : List Nat} (h : Each prog w h₀ k xs ns) : ns.length = xs.length := (Paired.length h).symm
theorem list_top {A : Around} {E : Value → Shared → Prop} {s : Shared} {Q : Value → Shared → Prop} {a : Addr} {xs : List Value} {ns : List Nat} (ha : LstAt h₀ a xs) (hT : Each prog w h₀ k xs ns) (hu : A.units + (k + 1) < cLine) (hk0 : ∀ b o, h₀.get? b = some o → s.heap.get? b = some o) (hsz : cst ns + 5 ≤ sizeLine)
    (hQ : ∀ (t : Str) h' u tk, t.length ≤ cst ns + 5 → (∀ b o, s.heap.get? b = some o → h'.get? b = some o) → Q (.str t u) { s with heap := h', toks := tk }) : wpAny (model prog w) A (pyReprObj (.ref a)) Q E s := by
  obtain ⟨o, n, ho, hc, hd⟩ := ha.ex
  have hTy : s.TypeIs (.ref a) "list" := ⟨o, hk0 _ _ ho, hc⟩
  cases xs with
  | nil => exact wpAny_pyReprObj_list_empty hTy (by omega) (hk0 _ _ ho) hd (hQ _ s.heap _ _ (Nat.le_trans (by decide +kernel : ("[]" : Str).length ≤ 5) (Nat.le_add_left _ _)) fun _ _ e => e)
  | cons x l =>
    unfold pyReprObj
    refine wpAny_bind (wpAny_cRoomFor (by omega) ?_)
    refine wpAny_bind (wpAny_specialOf (name := Str.ofString "__repr__") hTy F.slot_list_repr.lookup ?_)
    refine wpAny_bind (m := callSpecialIfBound? (.ref a) (Str.ofString "__repr__")) (wpAny_callSpecialIfBound?_slot (name := Str.ofString "__repr__") hTy F.slot_list_repr ?_)
    refine wpAny_call (codeAny_call_builtin F.slot_list_repr.plain F.entry_list_repr (F.slot_list_repr.check _ _ _ _ _ _ _ _ hTy (F.args_list_repr_1 _) ?_))
    refine list_at (k := k) (h₀ := h₀) (ns := ns) (R := callEnd _ _) (base := 0) (hk0 _ _ ho) hd hu hk0 (by rw [hT.len]; simp) (fun i y e => hT.get i y (by simpa using e)) (by omega) fun t h' u tk ht hk => ?_
    exact wpAny_bind (wpAny_isInstance (T := "str") (b := true) rfl isSubtype_str_str (wpAny_pure (hQ t h' u tk ht hk)))
theorem Shows.list {a : Addr} {xs : List Value} {ns : List Nat} (ha : LstAt h₀ a xs) (hT : Each prog w h₀ k xs ns) : Shows prog w h₀ (k + 1) (cst ns + 5) (.ref a) := by
  obtain ⟨o, n, ho, hc, hd⟩ := ha.ex
  intro b hb A E s Q hu hk0 hQ
  refine wpAny_pyReprUnder_ref (by omega) ?_
  cases xs with
  | nil => exact wpAny_pyReprObjUnder_list_empty ⟨o, hk0 _ _ ho, hc⟩ (by omega) (hk0 _ _ ho) hd ⟨_, _, rfl, hQ _ s.heap _ (Nat.le_trans (by decide +kernel : ("[]" : Str).length ≤ 5) (Nat.le_add_left _ _)) fun _ _ e => e⟩
  | cons x l =>
    refine wpAny_pyReprObjUnder_twin (twin := "list.__repr__.under") ⟨o, hk0 _ _ ho, hc⟩ F.slot_list_repr.toG rfl (by omega) ?_
    refine call_twin_plain F.plain_list_repr_under F.entry_list_repr_under F.check_list_repr_under ⟨o, hk0 _ _ ho, hc⟩ F.slot_list_repr.toG (F.args_list_repr_1 _) ?_
    refine list_at (k := k) (h₀ := h₀) (ns := ns) (R := callEnd _ _) (hk0 _ _ ho) hd hu hk0 (by rw [hT.len]; simp) (fun i y e => hT.get i y (by simpa using e)) (by omega) fun t h' u tk ht hk => ?_
    exact ⟨⟨_, _, rfl⟩, _, _, rfl, hQ t h' tk ht hk⟩
/-- the fold over a tuple's members -/
theorem fold_any {A : Around} {E : Value → Shared → Prop} (hu : A.units + k < cLine) : ∀ (l : List Value) (ns : List Nat) (acc : Array Str) (n : Nat) (s : Shared) (Q : (Array Str × Nat) → Shared → Prop), Each prog w h₀ k l ns → n + cst ns ≤ sizeLine → (∀ b o, h₀.get? b = some o → s.heap.get? b = some o) →
    (∀ (ts : List Str) h' tk, ts.length = l.length → piled ts ≤ cst ns → (∀ b o, s.heap.get? b = some o → h'.get? b = some o) → Q ⟨acc ++ ts.toArray, n + piled ts⟩ { s with heap := h', toks := tk }) → wpAny (model prog w) A (forIn l (⟨acc, n⟩ : (Array Str × Nat)) tupBody) Q E s := by
  intro l
  induction l with
  | nil =>
    intro ns acc n s Q hT hn _ h
    have h0 := h [] s.heap s.toks rfl (Nat.zero_le _) fun _ _ e => e
    simp only [List.forIn_nil]
    exact wpAny_pure (by simpa [piled] using h0)
  | cons x l ih =>
    intro ns acc n s Q hT hn hk0 h
    cases hT with
    | @cons _ c _ cs hx hl =>
      rw [cst_cons] at hn
      rw [List.forIn_cons]
      refine wpAny_bind (wpAny_bind (hx (n + 1) (by omega) _ _ _ _ hu hk0 fun t h' tk ht hkp => wpAny_pure ?_))
      refine ih cs (acc.push t) (n + (t.length + 2)) _ Q hl (by omega) (fun b o e => hkp _ _ (hk0 _ _ e)) fun ts h'' tk' hl' hp' hk2 => ?_
      have e : n + piled (t :: ts) = n + (t.length + 2) + piled ts := by rw [piled_cons]; omega
      have h1 := h (t :: ts) h'' tk' (by simp [hl']) (by rw [piled_cons, cst_cons]; omega) fun b o e => hk2 _ _ (hkp _ _ e)
      rw [e] at h1
      simpa using h1
theorem tupleText_le (ts : List Str) : (tupleText ts).length ≤ piled ts + 2 := fmt_text ts
theorem tup_rest {A : Around} {E : Value → Shared → Prop} {s : Shared} {Q : Fin → Shared → Prop} {a : Addr} {xs : List Value} {ns : List Nat} {base : Nat} (ha : TupAt h₀ a xs) (hT : Each prog w h₀ k xs ns) (hu : A.units + k < cLine) (hk0 : ∀ b o, h₀.get? b = some o → s.heap.get? b = some o) (hsz : base + cst ns + 5 ≤ sizeLine)
    (hQ : ∀ (t : Str) h' u tk, t.length ≤ cst ns + 5 → (∀ b o, s.heap.get? b = some o → h'.get? b = some o) → Q (.done (.ret (.str t u))) { s with heap := h', toks := tk }) : wpAny (model prog w) A (Builtin.tupleReprAt base ⟨[.ref a], []⟩) Q E s := by
  obtain ⟨o, n, ho, hc, hd⟩ := ha.ex
  rw [tuple_repr_tree]
  refine wpAny_bind (fmt_underWay fun c => ?_)
  cases c with
  | true =>
    refine PySem.W.KFB.if_so rfl ?_
    refine wpAny_bind (wpAny_rule ?_)
    refine wpAny_bind (wpAny_mkStr (wpAny_pure ?_) (by decide +kernel))
    exact hQ "(...)" s.heap _ _ (Nat.le_trans fmt_way (Nat.le_add_left _ _)) fun _ _ e => e
  | false =>
    refine PySem.W.KFB.if_not rfl ?_
    unfold tupleReprRest Builtin.Tuple.tupleItemsOf
    refine wpAny_bind (wpAny_bind (wpAny_seqItems (hk0 _ _ ho) hd (wpAny_pure ?_)))
    rw [← Array.forIn_toList]
    refine wpAny_bind (fold_any hu _ ns _ _ _ _ (by simpa using hT) (by omega) hk0 fun ts h' tk hl hp hkp => ?_)
    have ht := tupleText_le ts
    have hl2 : ts.length = xs.toArray.size := by simpa using hl
    have hz : (tupleText ts).length ≤ sizeLine := by omega
    refine wpAny_bind (wpAny_mkStr (wpAny_pure ?_) (by simpa [tupleText, hl2] using hz))
    have h1 := hQ (tupleText ts) h' tk (tk + 1) (by omega) hkp
    simpa [tupleText, hl2] using h1
theorem tup_top {A : Around} {E : Value → Shared → Prop} {s : Shared} {Q : Value → Shared → Prop} {a : Addr} {xs : List Value} {ns : List Nat} (ha : TupAt h₀ a xs) (hT : Each prog w h₀ k xs ns) (hu : A.units + (k + 1) < cLine) (hk0 : ∀ b o, h₀.get? b = some o → s.heap.get? b = some o) (hsz : cst ns + 5 ≤ sizeLine)
    (hQ : ∀ (t : Str) h' u tk, t.length ≤ cst ns + 5 → (∀ b o, s.heap.get? b = some o → h'.get? b = some o) → Q (.str t u) { s with heap := h', toks := tk }) : wpAny (model prog w) A (pyReprObj (.ref a)) Q E s := by
  obtain ⟨o, n, ho, hc, hd⟩ := id ha.ex
  have hTy : s.TypeIs (.ref a) "tuple" := ⟨o, hk0 _ _ ho, hc⟩
  unfold pyReprObj
  refine wpAny_bind (wpAny_cRoomFor (by omega) ?_)
  refine wpAny_bind (wpAny_specialOf (name := Str.ofString "__repr__") hTy F.slot_tuple_repr.lookup ?_)
  refine wpAny_bind (m := callSpecialIfBound? (.ref a) (Str.ofString "__repr__")) (wpAny_callSpecialIfBound?_slotG (name := Str.ofString "__repr__") hTy F.slot_tuple_repr ?_)
  refine wpAny_call (codeAny_call_builtin_own (Code.quiet_builtin _ (by decide +kernel)) F.entry_tuple_repr (F.slot_tuple_repr.check _ _ _ _ _ _ _ _ hTy (F.args_tuple_repr_1 _) (wpOwn_of_wpAny ?_)))
  refine tup_rest (base := 0) ha hT (by rw [units_under_tuple_repr]; omega) hk0 (by omega) fun t h' u tk ht hk => ?_
  exact wpAny_bind (wpAny_isInstance (T := "str") (b := true) rfl isSubtype_str_str (wpAny_pure (hQ t h' u tk ht hk)))
theorem Shows.tup {a : Addr} {xs : List Value} {ns : List Nat} (ha : TupAt h₀ a xs) (hT : Each prog w h₀ k xs ns) : Shows prog w h₀ (k + 1) (cst ns + 5) (.ref a) := by
  obtain ⟨o, n, ho, hc, hd⟩ := id ha.ex
  intro b hb A E s Q hu hk0 hQ
  refine wpAny_pyReprUnder_ref (by omega) ?_
  refine wpAny_pyReprObjUnder_twin (twin := "tuple.__repr__.under") ⟨o, hk0 _ _ ho, hc⟩ F.slot_tuple_repr rfl (by omega) ?_
  refine call_twin_own (F.quiet_tuple_repr_under _) F.entry_tuple_repr_under F.check_tuple_repr_under ⟨o, hk0 _ _ ho, hc⟩ F.slot_tuple_repr (F.args_tuple_repr_1 _) (wpOwn_of_wpAny ?_)
  refine tup_rest ha hT (by rw [units_under_tuple_repr_under]; omega) hk0 (by omega) fun t h' u tk ht hk => ?_
  exact ⟨⟨_, _, rfl⟩, _, _, rfl, hQ t h' tk ht hk⟩
end
end Kr

namespace Kr
open PySem PySem.Spec PyProof.Rows L2
mutual
def costD : PyData → Nat
  | .str x => 10 * x.length + 2
  | .list ds => costAll ds + 5
  | .tuple ds => costAll ds + 5
  | _ => 0
def costAll : List PyData → Nat
  | [] => 0
  | d :: ds => costD d + 2 + costAll ds
end
mutual
def okD : PyData → Bool
  | .str x => x.cps.toList.all fun c => decide (c < 1114112)
  | .list ds => okAll ds
  | .tuple ds => okAll ds
  | _ => false
def okAll : List PyData → Bool
  | [] => true
  | d :: ds => okD d && okAll ds
end
theorem repr_le {x : Str} (h : okD (.str x) = true) : (reprText x).length ≤ 10 * x.length + 2 := StrLaws.reprText_len x fun c hc => by
  have h' : x.cps.toList.all (fun c => decide (c < 1114112)) = true := by simpa only [okD] using h
  exact Nat.lt_trans (of_decide_eq_true (List.all_eq_true.mp h' c hc)) (by decide)
section
variable {X : Cx} {pins : List (Addr × Obj)} {σ : L2.St} {H : Hp} {s : Shared} {prog : Program} {w : World}
mutual
theorem shows_of (I : Inv X pins σ H s) : ∀ (d : PyData) (v : V) (u : Value), Dp X.K H v d → RelV v u → okD d = true → costD d ≤ sizeLine → Shows prog w s.heap d.depth (costD d) u
  | .str x, _, _, h, r, ok, hz => by
    cases h
    obtain ⟨t, rfl⟩ := r
    have h1 := repr_le ok
    have e : costD (.str x) = 10 * x.length + 2 := by simp only [costD]
    rw [e] at hz ⊢
    exact (Shows.str x t (by omega)).le h1
  | .list ds, _, _, h, r, ok, hz => by
    cases h with
    | lst hs ha =>
      cases r
      obtain ⟨its, rv, ⟨o, n, ho, hc, _, hd⟩, _⟩ := I.list hs
      have e : costD (.list ds) = costAll ds + 5 := by simp only [costD]
      rw [e] at hz ⊢
      obtain ⟨ns, en, hT⟩ := shows_all I ds _ its ha rv (by simpa only [okD] using ok) (by omega)
      rw [← en]
      exact Shows.list ⟨o, n, ho, hc, hd⟩ hT
  | .tuple ds, _, _, h, r, ok, hz => by
    cases h with
    | tup hs ha =>
      cases r
      obtain ⟨its, rv, ⟨o, ho, hc, n, hd⟩, _⟩ := I.tuple hs
      have e : costD (.tuple ds) = costAll ds + 5 := by simp only [costD]
      rw [e] at hz ⊢
      obtain ⟨ns, en, hT⟩ := shows_all I ds _ its ha rv (by simpa only [okD] using ok) (by omega)
      rw [← en]
      exact Shows.tup ⟨o, n, ho, hc, hd⟩ hT
  | .none, _, _, _, _, ok, _ => by simp [okD] at ok
  | .bool _, _, _, _, _, ok, _ => by simp [okD] at ok
  | .int _, _, _, _, _, ok, _ => by simp [okD] at ok
  | .dict _, _, _, _, _, ok, _ => by simp [okD] at ok
theorem shows_all (I : Inv X pins σ H s) : ∀ (ds : List PyData) (vs : List V) (us : List Value), DpAll X.K H vs ds → Vals vs us → okAll ds = true → costAll ds ≤ sizeLine → ∃ ns, cst ns = costAll ds ∧ Each prog w s.heap (PyData.depthAll ds) us ns
  | [], _, _, h, r, _, _ => by
    cases h
    cases r
    exact ⟨[], by simp [cst, costAll], .nil⟩
  | d :: ds, _, _, h, r, ok, hz => by
    cases h with
    | cons h1 h2 =>
      cases r with
      | cons r1 r2 =>
        have e : costAll (d :: ds) = costD d + 2 + costAll ds := by simp only [costAll]
        have o2 : (okD d && okAll ds) = true := by simpa only [okAll] using ok
        obtain ⟨oa, ob⟩ := Bool.and_eq_true_iff.mp o2
        have q1 := shows_of I d _ _ h1 r1 oa (by omega)
        obtain ⟨ns, en, q2⟩ := shows_all I ds _ _ h2 r2 ob (by omega)
        have hm : PyData.depthAll (d :: ds) = max d.depth (PyData.depthAll ds) := by simp only [PyData.depthAll]
        refine ⟨costD d :: ns, by rw [cst_cons, en, e], ?_⟩
        rw [hm]
        exact .cons (q1.unit (Nat.le_max_left _ _)) (Paired.mono (fun _ _ z => z.unit (Nat.le_max_right _ _)) q2)
end
end
/-- {x!r}: some text -/
def tFmtD (K : PySem.W.Frag) (te : TE) : TE := fun σ H Q => te σ H fun x H1 => ∃ d, Dp K H1 x d ∧ okD d = true ∧ costD d ≤ 1000000 ∧ d.depth ≤ 20 ∧ ∀ m : Str, m.length ≤ costD d → Q (.str m) H1
section
variable {X : Cx}
theorem pe_fmtD {e : Expr} {te : TE} {pos : Pos} {k : Nat} (hr : Room k X.A) (he : PE X e te) : PE X (.FormattedValue e 114 none pos) (tFmtD X.K te) := by
  refine ⟨fun pins s σ H Q I h => ?_⟩
  refine wpAny_FormattedValue_repr (thn (he.run pins s σ H _ I h) fun v s1 hv => ?_)
  obtain ⟨x, H1, I1, r1, d, hd, ok, hz, hdp, q⟩ := hv
  have hu := hr.units
  have hz' : costD d ≤ sizeLine := Nat.le_trans hz (by decide)
  have fin : ∀ (t : Str) (h' : Heap) (u tk : Nat), t.length ≤ costD d → (∀ b o, s1.heap.get? b = some o → h'.get? b = some o) → wpAny (model X.prog X.w) X.A (formatField (.str t u) Str.empty) (EP X pins σ Q) X.xe { s1 with heap := h', toks := tk } := fun t h' u tk ht hk =>
    wpAny_formatField_str ⟨.str t, H1, (I1.kept (t' := tk) hk).tok _, ⟨_, rfl⟩, q t ht⟩ ⟨.str t, H1, (I1.kept (t' := tk) hk).tok _, ⟨_, rfl⟩, q t ht⟩ (by omega)
  cases hd with
  | str y =>
    obtain ⟨t, rfl⟩ := r1
    have h1 := repr_le ok
    have e : costD (.str y) = 10 * y.length + 2 := by simp only [costD]
    exact pyReprObj_str (fin _ s1.heap _ _ (by omega) fun _ _ z => z) (by omega)
  | @lst a xs ds hs ha =>
    cases r1
    obtain ⟨its, rv, ⟨o, n, ho, hc, _, hdt⟩, _⟩ := I1.list hs
    have e : costD (.list ds) = costAll ds + 5 := by simp only [costD]
    obtain ⟨ns, en, hT⟩ := shows_all (prog := X.prog) (w := X.w) I1 ds _ its ha rv (by simpa only [okD] using ok) (by omega)
    have hdp' : PyData.depthAll ds + 1 ≤ 20 := by simpa only [PyData.depth] using hdp
    exact list_top ⟨o, n, ho, hc, hdt⟩ hT (by omega) (fun _ _ z => z) (by omega) fun t h' u tk ht hk => fin t h' u tk (by omega) hk
  | @tup a xs ds hs ha =>
    cases r1
    obtain ⟨its, rv, ⟨o, ho, hc, n, hdt⟩, _⟩ := I1.tuple hs
    have e : costD (.tuple ds) = costAll ds + 5 := by simp only [costD]
    obtain ⟨ns, en, hT⟩ := shows_all (prog := X.prog) (w := X.w) I1 ds _ its ha rv (by simpa only [okD] using ok) (by omega)
    have hdp' : PyData.depthAll ds + 1 ≤ 20 := by simpa only [PyData.depth] using hdp
    exact tup_top ⟨o, n, ho, hc, hdt⟩ hT (by omega) (fun _ _ z => z) (by omega) fun t h' u tk ht hk => fin t h' u tk (by omega) hk
  | non => simp [okD] at ok
  | bl b => simp [okD] at ok
  | int i => simp [okD] at ok
end
end Kr

/-! An own error as a value: made, asked for its class, its fields read. Texts times numbers. -/
namespace Ke
open PySem PySem.Spec PyProof.Rows L2 Kx Kr
theorem Same.tupS {K : PySem.W.Frag} {H H' : Hp} {a : Addr} {xs : List V} (e : Same H H') (h : SqT K H a xs) : SqT K H' a xs := by
  rcases h with (h | ⟨o, h⟩) | h
  · exact .inl (.inl (e _ _ h))
  · exact .inl (.inr ⟨o, e _ _ h⟩)
  · exact .inr h
mutual
theorem dp_same {K : PySem.W.Frag} {H H' : Hp} (e : Same H H') : ∀ (d : PyData) (v : V), Dp K H v d → Dp K H' v d
  | .none, _, h => by cases h; exact .non
  | .bool b, _, h => by cases h; exact .bl b
  | .int i, _, h => by cases h; exact .int i
  | .str x, _, h => by cases h; exact .str x
  | .list ds, _, h => by
    cases h with
    | lst hs ha => exact .lst (e.seq hs) (dpAll_same e ds _ ha)
  | .tuple ds, _, h => by
    cases h with
    | tup hs ha => exact .tup (Same.tupS e hs) (dpAll_same e ds _ ha)
  | .dict _, _, h => by cases h
theorem dpAll_same {K : PySem.W.Frag} {H H' : Hp} (e : Same H H') : ∀ (ds : List PyData) (vs : List V), DpAll K H vs ds → DpAll K H' vs ds
  | [], _, h => by cases h; exact .nil
  | d :: ds, _, h => by
    cases h with
    | cons h1 h2 => exact .cons (dp_same e d _ h1) (dpAll_same e ds _ h2)
end
mutual
theorem eqv_self : ∀ d : PyData, okD d = true → PyData.eqv d d = true
  | .str x, _ => by simp [PyData.eqv]
  | .list ds, h => by
    have h' : okAll ds = true := by simpa only [okD] using h
    have := eqvAll_self ds h'
    simpa [PyData.eqv] using this
  | .tuple ds, h => by
    have h' : okAll ds = true := by simpa only [okD] using h
    have := eqvAll_self ds h'
    simpa [PyData.eqv] using this
  | .none, h => by simp [okD] at h
  | .bool _, h => by simp [okD] at h
  | .int _, h => by simp [okD] at h
  | .dict _, h => by simp [okD] at h
theorem eqvAll_self : ∀ ds : List PyData, okAll ds = true → PyData.eqvAll ds ds = true
  | [], _ => by simp [PyData.eqvAll]
  | d :: ds, h => by
    have h' : (okD d && okAll ds) = true := by simpa only [okAll] using h
    obtain ⟨h1, h2⟩ := Bool.and_eq_true_iff.mp h'
    have e1 := eqv_self d h1
    have e2 := eqvAll_self ds h2
    simp [PyData.eqvAll, e1, e2]
end
/-! ### an error as a value -/
/-- an error of the class at C stands at a; its fields (at least) g -/
def ErrAt (C : Addr) (H : Hp) (a : Addr) (g : List (Str × V)) : Prop := (g = [] ∧ H a = some (exo a C none)) ∨ ∃ (d : Addr) (fs : List (Str × V)), H a = some (exo a C (some d)) ∧ H d = some (exd d fs) ∧ ∀ f v, g.lookup f = some v → fs.lookup f = some v
theorem ErrAt.same {C a : Addr} {H H' : Hp} {g : List (Str × V)} (h : ErrAt C H a g) (s : Same H H') : ErrAt C H' a g := by
  rcases h with ⟨e, h⟩ | ⟨d, fs, h1, h2, h3⟩
  · exact .inl ⟨e, s _ _ h⟩
  · exact .inr ⟨d, fs, s _ _ h1, s _ _ h2, h3⟩
/-- C.__init__ -/
def spErr (C : Addr) (cond : List V → Hp → Prop) (g : List V → List (Str × V)) : Sp := fun vs H Q _ => ∃ (a : Addr) (xs : List V), vs = .ref a :: xs ∧ cond xs H ∧ H a = some (exo a C none) ∧
  ∀ H', (∀ b o, H b = some o → b ≠ a → H' b = some o) → ErrAt C H' a (g xs) → Q .non H'
structure MkE (P : Program) (w : World) (K : PySem.W.Frag) (mg : Str → Option Value) (base : Heap) (x : Str) (C : Addr) (k : Nat) (ps : List Str) (cond : List V → Hp → Prop) (g : List V → List (Str × V)) : Prop where
  ex : ∃ (fI : Addr) (fd : FuncData), PySem.W.findIn K (.ref C) "__init__" = some (some (.ref fI)) ∧ PySem.W.typeIn K (.ref fI) = some (.type "function") ∧ FnOk P w K mg base CX0 k fI fd ps (spErr C cond g) ∧ Binds K fd ps []
  T : OexC K C
  g_ : mg x = some (.ref C)
section
variable {X : Cx} {x : Str} {C : Addr} {k : Nat} {ps : List Str} {cond : List V → Hp → Prop} {g : List V → List (Str × V)} {e : Expr} {es : List Expr} {ta : TA} {p pos : Pos}
theorem err_run {pins : List (Addr × Obj)} {σ : L2.St} {H1 : Hp} {s1 : Shared} {Q : VK} {vs : List V} {us : List Value} (M : MkE X.prog X.w X.K X.mg X.base x C k ps cond g) (hr : Room (k + 1) X.A) (I1 : Inv X pins σ H1 s1) (r1 : Vals vs us)
    (hz : vs.length ≤ 1000) (hc : ∀ H', Same H1 H' → cond vs H') (q : ∀ a H2, Same H1 H2 → ErrAt C H2 a (g vs) → Q (.ref a) H2) : wpAny (model X.prog X.w) X.A (call (.ref C) us) (EP X pins σ Q) X.xe s1 := by
  obtain ⟨fI, fd, iC, tI, F1, hb⟩ := M.ex
  obtain ⟨nm, qn, N, bs, bm, sn, sub, ab, col, dd, k0, k1, k2, k3, k5, hC, hbm⟩ := M.T.cls
  obtain ⟨hp, gs, dr, tk, os⟩ := s1
  have hsz : hp.objs.size ≤ hp.objs.size + 1 := Nat.le_succ _
  have hn : H1 (hp.objs.size + 1) = none := I1.hok.fresh hsz
  have kk : ∀ b o, hp.get? b = some o → ((hp.push (PySem.W.kdv_tup us)).push (PySem.HandSPX.excO C hp.objs.size)).get? b = some o := fun b o e => Heap.get?_push_of_some _ (Heap.get?_push_of_some _ e)
  have hget : ((hp.push (PySem.W.kdv_tup us)).push (PySem.HandSPX.excO C hp.objs.size)).get? (hp.objs.size + 1) = some (PySem.HandSPX.excO C hp.objs.size) := by heap_get
  have I2 : Inv X pins σ (upd H1 (hp.objs.size + 1) (exo (hp.objs.size + 1) C none)) ⟨(hp.push (PySem.W.kdv_tup us)).push (PySem.HandSPX.excO C hp.objs.size), gs, dr, tk, os⟩ :=
    I1.laid (t' := tk) (a := hp.objs.size + 1) (o := exo (hp.objs.size + 1) C none) (h' := (hp.push (PySem.W.kdv_tup us)).push (PySem.HandSPX.excO C hp.objs.size)) kk hsz (exo_ok hget)
  have hq : spErr C cond g (.ref (hp.objs.size + 1) :: vs) (upd H1 (hp.objs.size + 1) (exo (hp.objs.size + 1) C none)) (fun v H2 => v = .non ∧ Q (.ref (hp.objs.size + 1)) H2) (fun _ _ _ => False) :=
    ⟨_, vs, rfl, hc _ (same_upd hn), upd_same, fun H' hk he => ⟨rfl, q _ H' (fun b o hb => hk b o (by rw [upd_ne (ne_of_none hb hn)]; exact hb) (ne_of_none hb hn)) he⟩⟩
  have r2 : Vals (V.ref (hp.objs.size + 1) :: vs) (Value.ref (hp.objs.size + 1) :: us) := .cons rfl r1
  have hl : (Value.ref (hp.objs.size + 1) :: us ++ []).length = ps.length := by
    rw [List.append_nil]
    have e := r2.length
    rw [F1.len _ _ _ _ hq] at e
    exact e.symm
  have bind := hb _ (Value.ref (hp.objs.size + 1) :: us) I2.kIn hl
  rw [List.append_nil] at bind
  have hus : us.length ≤ sizeLine := by
    rw [← Paired.length r1, sizeLine_eq]
    omega
  refine wpAny_call (PySem.HandSPX.call_own F.excBase_ValueError (fun Y => PySem.HandSPX.refsVE_contains Y bm hbm) (I1.kIn _ _ hC) (PySem.W.looks_findIn I1.kIn iC) (fun self => PySem.W.bind_fn I1.kIn self tI) hus
    (codeAny_mono (F1.run _ X.stack _ _ ⟨Value.ref (hp.objs.size + 1) :: us, []⟩ (Value.ref (hp.objs.size + 1) :: us) _ _ (fun _ _ _ => False) (hr.make C us []) (I2.env0.make C us []) bind r2 hq) fun r s' hq' => ?_))
  cases r with
  | error er => exact pass0 pins σ _ _ er s' I2 hq'
  | ok fl =>
    cases fl with
    | ret u =>
      obtain ⟨v, H', J', rv, ev, q3⟩ := I2.after hq'
      subst ev
      exact ⟨rv, ⟨V.ref (hp.objs.size + 1), H', J', rfl, q3⟩⟩
    | next => exact False.elim hq'
    | brk => exact False.elim hq'
    | cont => exact False.elim hq'
def tErr (C : Addr) (cond : List V → Hp → Prop) (g : List V → List (Str × V)) (ta : TA) : TE := fun σ H Q => ta σ H fun vs H1 => vs.length ≤ 1000 ∧ (∀ H', Same H1 H' → cond vs H') ∧ ∀ a H2, Same H1 H2 → ErrAt C H2 a (g vs) → Q (.ref a) H2
theorem pe_err (M : MkE X.prog X.w X.K X.mg X.base x C k ps cond g) (hr : Room (k + 1) X.A) (hg : Gl X x) (ha : PA X (e :: es) ta) (hdb : (x == ("__debug__" : Str)) = false := by decide)
    (he : starEach (e :: es) X.env = (false, eval e X.env) :: starEach es X.env := by rfl) (hpl : (backTo pos (starEach es X.env)).any (·.1) = false := by rfl) : PE X (.Call (.Name x p) (e :: es) [] pos) (tErr C cond g ta) := by
  refine ⟨fun pins s σ H Q I h => ?_⟩
  refine wpAny_Call_Name_kw (ld_glob I hg M.g_ ?_ hdb)
  refine PySem.W.callWith_K (h₀ := X.base) I.ok.mod.kin M.T.kC (thn (ha.run pos pins s σ H _ I h) fun us s1 ⟨vs, H1, I1, r1, hz, hc, q⟩ => ⟨I1.kIn, ?_⟩) he hpl
  exact err_run M hr I1 r1 hz hc q
theorem pe_err0 (M : MkE X.prog X.w X.K X.mg X.base x C k ps cond g) (hr : Room (k + 1) X.A) (hg : Gl X x) (hdb : (x == ("__debug__" : Str)) = false := by decide) : PE X (.Call (.Name x p) [] [] pos) (tErr C cond g tNil) := by
  refine ⟨fun pins s σ H Q I h => ?_⟩
  refine wpAny_Call_Name_kw (ld_glob I hg M.g_ ?_ hdb)
  obtain ⟨hz, hc, q⟩ := h
  exact PySem.W.callWith_K0 I.kIn M.T.kC (err_run M hr I .nil hz hc q)
/-- isinstance(e, c), e an error of the class at C -/
def rIsO (K : PySem.W.Frag) (C : Addr) : List V → Hp → VK → Prop := fun xs H Q => ∃ (a : Addr) (g : List (Str × V)) (c : V) (cv : Value) (b : Bool), xs = [.ref a, c] ∧ ErrAt C H a g ∧ (∀ u, RelV c u → u = cv) ∧ PySem.W.kitOne K (.ref C) cv = some b ∧ Q (.bl b) H
theorem err_inst {C a : Addr} {H : Hp} {g : List (Str × V)} {pins : List (Addr × Obj)} {σ : L2.St} {s : Shared} (I : Inv X pins σ H s) (h : ErrAt C H a g) : ∃ oe od, PySem.W.InstAt s.heap a oe C od ∧ ∃ vs, oe.data = .fields vs := by
  rcases h with ⟨_, h⟩ | ⟨d, fs, h1, h2, _⟩
  · obtain ⟨t1, ho⟩ := exo_at I.hok h
    exact ⟨_, none, ⟨ho, rfl, rfl, trivial⟩, _, rfl⟩
  · obtain ⟨t1, ho⟩ := exo_at I.hok h1
    obtain ⟨mA, hns, rel⟩ := exd_at I.hok h2
    obtain ⟨od, hod, _⟩ := lookIn_ns hns
    exact ⟨_, some od, ⟨ho, rfl, rfl, hod⟩, _, rfl⟩
theorem call_isO (D : ExcC X.K C) : CallR X (.builtin "isinstance") (rIsO X.K C) := by
  intro pins s σ H xs us Q I r h
  obtain ⟨a, g, c, cv, b, rfl, he, hcv, e, q⟩ := h
  cases r with
  | cons rx rr =>
    cases rr with
    | cons rt rr =>
      cases rr
      cases rx
      have ec := hcv _ rt
      subst ec
      obtain ⟨oe, od, J, _⟩ := err_inst I he
      have hcl : (PySem.W.clsIn X.K C).isSome = true := by
        obtain ⟨cd, hc, _⟩ := PySem.W.any_some D.hd
        rw [hc]; rfl
      exact PySem.W.kia_one (PySem.W.kitx_exc hcl D.hg D.hk D.hs D.ha D.hn D.ht D.hm) I.kIn J e (fun z => nomatch z) fun tk => ⟨.bl b, H, I.kept (t' := tk) fun _ _ z => z, rfl, q⟩
/-- e.f -/
def tEf (K : PySem.W.Frag) (f : Str) (te : TE) : TE := fun σ H Q => te σ H fun x H1 => ∃ (a C : Addr) (g : List (Str × V)) (v : V), x = .ref a ∧ ErrAt C H1 a g ∧ XfC K C ∧ PySem.W.findIn K (.ref C) f = some none ∧ g.lookup f = some v ∧ Q v H1
theorem pe_ef {f : Str} {te : TE} (he : PE X e te) (hb : attributeBase e f X.env (eval e X.env) = eval e X.env := by rfl) : PE X (.Attribute e f pos) (tEf X.K f te) := by
  refine ⟨fun pins s σ H Q I h => ?_⟩
  refine attr_of hb (thn (he.run pins s σ H _ I h) fun u s1 hh => ?_)
  obtain ⟨x, H1, I1, rx, a, C, g, v, rfl, hE, T, hno, l, q⟩ := hh
  obtain rfl : u = Value.ref a := rx
  rcases hE with ⟨rfl, _⟩ | ⟨d, fs, h1, h2, h3⟩
  · cases l
  · obtain ⟨t1, ho⟩ := exo_at I1.hok h1
    obtain ⟨mA, hns, rel⟩ := exd_at I1.hok h2
    obtain ⟨od, hod, hl⟩ := lookIn_ns hns
    have hv := h3 f v l
    obtain ⟨u, hu, ru⟩ := RelO.some_of (v := v) (o := mA f) (by rw [← hv]; exact rel f)
    exact PySem.HandSPX.exc_get I1.kIn (od := some od) (x := a) ⟨ho, rfl, rfl, hod⟩ T.ga T.gg T.exC (PySem.W.findObj_own T.hdC hno rfl (by rw [hl, hu])) (handed_of ru) ⟨v, H1, I1.tok _, ru, q⟩
end
end Ke

namespace Ke
open PySem PySem.Spec PyProof.Rows L2 Kx Kr
/-- a text of few and plain signs -/
def Sht (z : Str) (n : Nat) : Prop := z.length ≤ n ∧ ∀ c ∈ z.cps.toList, c < 1114112
theorem Sht.le {z : Str} {n m : Nat} (h : Sht z n) (hn : n ≤ m) : Sht z m := ⟨Nat.le_trans h.1 hn, h.2⟩
theorem Sht.app {y z : Str} {n m : Nat} (h : Sht y n) (h' : Sht z m) : Sht (y ++ z) (n + m) := by
  refine ⟨?_, fun c hc => ?_⟩
  · have e : (y ++ z).length = y.length + z.length := Array.size_append
    rw [e]
    exact Nat.add_le_add h.1 h'.1
  · have hc' : c ∈ (y.cps ++ z.cps).toList := hc
    rw [Array.toList_append, List.mem_append] at hc'
    exact hc'.elim (h.2 c) (h'.2 c)
theorem Sht.sz {z : Str} {n : Nat} (h : Sht z n) (hn : n ≤ 100000) : z.length ≤ sizeLine := sz9 (Nat.le_trans h.1 hn)
theorem sht_of {z : Str} {n : Nat} (h1 : z.length ≤ n) (h2 : okD (.str z) = true) : Sht z n := by
  refine ⟨h1, fun c hc => ?_⟩
  have h' : z.cps.toList.all (fun c => decide (c < 1114112)) = true := by simpa only [okD] using h2
  exact of_decide_eq_true (List.all_eq_true.mp h' c hc)
theorem Sht.ok {z : Str} {n : Nat} (h : Sht z n) : okD (.str z) = true := by
  have h' : z.cps.toList.all (fun c => decide (c < 1114112)) = true := List.all_eq_true.mpr fun c hc => decide_eq_true (h.2 c hc)
  simpa only [okD] using h'
theorem rep_fold (x : Array Nat) : ∀ (n : Nat) (acc : Array Nat), ((List.replicate n x).foldl (· ++ ·) acc).size = acc.size + n * x.size ∧ ∀ c ∈ ((List.replicate n x).foldl (· ++ ·) acc).toList, c ∈ acc.toList ∨ c ∈ x.toList
  | 0, acc => ⟨by simp, fun c hc => .inl hc⟩
  | n + 1, acc => by
    rw [List.replicate_succ, List.foldl_cons]
    obtain ⟨h1, h2⟩ := rep_fold x n (acc ++ x)
    refine ⟨?_, fun c hc => ?_⟩
    · rw [h1, Array.size_append, Nat.succ_mul]
      omega
    · rcases h2 c hc with h | h
      · rw [Array.toList_append, List.mem_append] at h
        exact h
      · exact .inr h
/-- a text of one sign times a small number -/
def rRepS : R2 := fun x y H Q => ∃ (z : Str) (n : Int), x = .str z ∧ y = .int n ∧ z.length = 1 ∧ (∀ c ∈ z.cps.toList, c < 1114112) ∧ -1000 ≤ n ∧ n ≤ 1000 ∧ ∀ t : Str, Sht t n.toNat → Q (.str t) H
section
variable {X : Cx}
theorem op_repS : OpR X (binaryOp .Mult) rRepS := by
  intro pins s σ H x y v u Q I rx ry h
  obtain ⟨z, n, rfl, rfl, hz, hc, h1, h2, q⟩ := h
  obtain ⟨t, rfl⟩ := rx
  obtain ⟨t', rfl⟩ := ry
  have en : ((n.toNat : Nat) : Int) = n ∨ n < 0 := by omega
  refine PySem.P.mul_str (by rw [decide_eq_false (by omega), decide_eq_false (by omega)]; rfl) (fun hn _ => ?_) (fun hn _ => ?_) ?_
  · have hd : 1 ≤ (2 ^ 63 - 1 : Int) / n := by
      rw [Int.le_ediv_iff_mul_le (by omega)]
      omega
    rw [hz]
    have : ((1 : Nat) : Int) = 1 := rfl
    omega
  · rw [hz]
    exact decide_eq_false (Nat.not_lt.mpr (sz9 (by omega)))
  · by_cases hn : n < 1
    · rw [if_pos hn]
      refine ⟨by decide, .str Str.empty, H, I.tok _, ⟨_, rfl⟩, q _ ⟨Nat.zero_le _, ?_⟩⟩
      show ∀ c ∈ (Str.empty).cps.toList, c < 1114112
      decide +kernel
    · rw [if_neg hn]
      split
      · rename_i h1'
        exact ⟨.str z, H, I, ⟨t, rfl⟩, q _ ⟨by omega, hc⟩⟩
      · obtain ⟨e1, e2⟩ := rep_fold z.cps n.toNat #[]
        have hz' : z.cps.size = 1 := hz
        rw [hz'] at e1
        have e1' : ((List.replicate n.toNat z.cps).foldl (· ++ ·) #[]).size = n.toNat := by
          rw [e1]
          simp
        refine ⟨?_, .str _, H, I.tok _, ⟨_, rfl⟩, q _ ⟨Nat.le_of_eq e1', fun c hm => ?_⟩⟩
        · have hh : ((List.replicate n.toNat z.cps).foldl (· ++ ·) #[]).size ≤ sizeLine := by
            rw [e1']
            exact sz9 (by omega)
          exact hh
        · rcases e2 c hm with h | h
          · simp at h
          · exact hc c h
end
end Ke

namespace Kx
open PySem PySem.Spec PyProof.Rows L2 NdefX Kr Ke
def topS (i : Nat) : Stmt := PySem.Challenge.pw_letforget_k41_errors_by_position.main.body.getD i (.Pass ⟨0, 0, 0, 0⟩)
abbrev s_draws_of : Stmt := topS 17
abbrev N_draws_of : List Str := ["_law_script", "_law_pool", "_law_cell", "_law_left", "_law_k"]
theorem sc_draws_of : FnScope N_draws_of ["_law_script"] (defScope s_draws_of) := ⟨rfl, rfl, rfl, by decide +kernel, rfl, by decide +kernel, by decide +kernel⟩
section
variable {P : Program} {w : World} {K : PySem.W.Frag} {mg : Str → Option Value} {base : Heap}
theorem ok_draws_of {f : Addr} {fd : FuncData} (F : Fun K "_law_draws_of" "_law_draws_of" s_draws_of f fd) (T : TB mg) : FnOk P w K mg base CX0 1 f fd ["_law_script"] (spDraws K) := by
  refine F.ok sc_draws_of (fun vs H Q E h => ?_) (fun cdv A outer s H vs Q E hr h => ?_)
  · obtain ⟨a, ns, rfl, _⟩ := h
    rfl
  · obtain ⟨a, ns, rfl, hS, hlen, q⟩ := h
    refine ⟨_, (pss_cons (ps_set (i := 1) sc_draws_of.nd rfl (Or.inl rfl) (pe_lst pa_nil))
      (pss_cons (ps_for PassesOwn.never rfl (pi_list (pv 0)) (pg_name (i := 2) sc_draws_of.nd rfl (Or.inl rfl))
        (pss_one (ps_if (pt_cmpR op_lt (pe_callB call_len_seq (by rfl) T.m_len (by decide +kernel) (pa_cons (pv 1) pa_nil)) pe_int (nomark _))
          (pss_cons (ps_set (i := 3) sc_draws_of.nd rfl (Or.inl rfl) (pe_callB call_abs (by rfl) T.m_abs (by decide +kernel) (pa_cons (pe_callTy call_int1 (by rfl) T.m_int (by decide +kernel) (pa_cons (pv 2) pa_nil)) pa_nil)))
          (pss_one (ps_if (pt_cmpR op_lt (pv 3) (pe_op op_pow pe_int pe_int) (nomark _))
            (pss_one (ps_for PassesOwn.never rfl (pi_range1 (by rfl) T.m_range (pa_cons pe_int pa_nil)) (pg_name (i := 4) sc_draws_of.nd rfl (Or.inl rfl))
              (pss_cons (ps_set (i := 3) sc_draws_of.nd rfl (Or.inl rfl) (pe_op op_mod (pe_callTy call_int1 (by rfl) T.m_int (by decide +kernel) (pa_cons (pe_op op_add (pe_op op_add (pe_op op_mul (pv 3) pe_int) (pe_op op_mul pe_int (pv 4))) pe_int) pa_nil)) pe_int))
              (pss_one (ps_expr (pe_bm PySem.F.plainAttrs_list PySem.F.slot_list_append PySem.F.type_list_append mt_append (pv 1) (pa_cons (pv 3) pa_nil)))))))
            (pss_one (ps_for PassesOwn.never rfl (pi_range1 (by rfl) T.m_range (pa_cons pe_int pa_nil)) (pg_name (i := 4) sc_draws_of.nd rfl (Or.inl rfl))
              (pss_one (ps_if (pt_cmpR op_gt (pv 3) pe_int (nomark _))
                (pss_cons (ps_expr (pe_bm PySem.F.plainAttrs_list PySem.F.slot_list_append PySem.F.type_list_append mt_append (pv 1) (pa_cons (pe_op op_mod (pe_callTy call_int1 (by rfl) T.m_int (by decide +kernel) (pa_cons (pv 3) pa_nil)) pe_int) pa_nil)))
                (pss_one (ps_set (i := 3) sc_draws_of.nd rfl (Or.inl rfl) (pe_op op_fdiv (pv 3) pe_int))))
                pss_nil)))))))
          pss_nil)))
      (pss_cons (ps_if (pt_cmpR (op_eqD hr.units) (pv 1) (pe_lst pa_nil) (nomark _))
        (pss_one (ps_set (i := 1) sc_draws_of.nd rfl (Or.inl rfl) (pe_lst (pa_cons pe_int (pa_cons pe_int (pa_cons pe_int (pa_cons pe_int (pa_cons pe_int (pa_cons pe_int (pa_cons pe_int (pa_cons pe_int (pa_cons pe_int (pa_cons pe_int (pa_cons pe_int (pa_cons pe_int (pa_cons pe_int pa_nil))))))))))))))))
        pss_nil)
      (pss_one (ps_ret (pv 1)))))), ?_⟩
    refine ⟨Nat.zero_le _, fun o no => ?_⟩
    -- the loop over the script
    refine ⟨.ref a, rfl, a, rfl, ⟨_, (same_upd no).seq hS⟩, ?_⟩
    refine for_list (xs := ns.map V.int) (fun i σ H1 => ∃ x2 x3 x4 ms, σ = [some (.ref a), some (.ref o), x2, x3, x4] ∧ Same H H1 ∧ H1 o = some (.lst (ms.map V.int)) ∧ ms.length ≤ 132 ∧ (ms = [] ∨ 3 ≤ ms.length) ∧ ∀ v ∈ ms, inR v)
      ⟨none, none, none, [], rfl, same_upd no, upd_same, Nat.zero_le _, .inl rfl, fun v hv => nomatch hv⟩ ?_ ?_ ?_
    · rintro i σ H1 _ ⟨_, _, _, ms, _, sm, _⟩
      exact sm.seq hS
    · rintro i x σ H1 hx ⟨x2, x3, x4, ms, rfl, sm, eo, hm, h3, hrg⟩
      obtain ⟨n, rfl⟩ : ∃ n : Int, x = .int n := by
        rw [List.getElem?_map] at hx
        cases e : ns[i]? with
        | none => rw [e] at hx; cases hx
        | some n => rw [e] at hx; exact ⟨n, (Option.some.inj hx).symm⟩
      refine ⟨_, rfl, o, _, rfl, .inl (.inl (.inl eo)), _, _, rfl, rfl, _, rfl, iteB (fun h1 => ?_) (fun h1 => ?_)⟩
      · have hl72 : ms.length < 72 := by
          have := of_decide_eq_true h1
          rw [List.length_map] at this
          omega
        refine ⟨_, rfl, .inl ⟨n, rfl, n, rfl, ?_⟩⟩
        generalize hL : (if n < 0 then -n else n) = L
        have hL0 : 0 ≤ L := by rw [← hL]; split <;> omega
        refine ⟨_, rfl, _, _, rfl, rfl, ⟨by decide, by decide, by decide⟩, _, _, rfl, rfl, _, rfl, iteB (fun h2 => ?_) (fun h2 => ?_)⟩
        · have hL1 : L < 1000000000000000000 := by rw [← pe10]; exact of_decide_eq_true h2
          refine ⟨3, rfl, by decide, by decide, ?_⟩
          refine for_range (lo := 0) (n := 3) (fun i σ H2 => ∃ x4 L ms', σ = [some (.ref a), some (.ref o), some (.int n), some (.int L), x4] ∧ Same H H2 ∧ H2 o = some (.lst (ms'.map V.int)) ∧ ms'.length = ms.length + i ∧ (∀ v ∈ ms', inR v) ∧ 0 ≤ L ∧ L < 1000000000000000000) 
            ⟨x4, L, ms, rfl, sm, eo, rfl, hrg, hL0, hL1⟩ ?_ ?_
          · rintro i σ H2 hi ⟨x4, L, ms', rfl, sm2, eo2, hm2, hrg2, hLa, hLb⟩
            refine ⟨_, rfl, _, _, rfl, rfl, .inl ⟨by omega, by omega⟩, _, rfl, _, _, rfl, rfl, .inl ⟨by decide, by decide⟩, _, _, rfl, rfl, _, _, rfl, rfl, .inl ⟨_, rfl, _, _, rfl, rfl, (by show (0 : Int) < 65521; decide), ?_⟩⟩
            refine ⟨_, rfl, .inl ⟨rfl, _, .inl (.inl eo2)⟩, _, rfl, o, _, _, rfl, rfl, eo2, sl9 (by rw [List.length_map]; omega), ?_⟩
            have hvr : inR ((L * 30011 + 7919 * (0 + (i : Int)) + 977) % 65521) := by constructor <;> omega
            refine ⟨_, (L * 30011 + 7919 * (0 + (i : Int)) + 977) % 65521, ms' ++ [(L * 30011 + 7919 * (0 + (i : Int)) + 977) % 65521], rfl, same_mut sm2 no, ?_, by rw [List.length_append, List.length_singleton]; omega, rg_app hrg2 hvr, hvr.1, by have := hvr.2; omega⟩
            rw [upd_same, map_app]
          · rintro σ H2 ⟨x4, L, ms', rfl, sm2, eo2, hm2, hrg2, hLa, hLb⟩
            exact ⟨_, _, _, ms', rfl, sm2, eo2, by omega, .inr (by omega), hrg2⟩
        · have hL1 : 1000000000000000000 ≤ L := by
            have := of_decide_eq_false h2
            rw [pe10] at this
            omega
          refine ⟨60, rfl, by decide, by decide, ?_⟩
          refine for_range (lo := 0) (n := 60) (fun i σ H2 => ∃ x4 L ms', σ = [some (.ref a), some (.ref o), some (.int n), some (.int L), x4] ∧ Same H H2 ∧ H2 o = some (.lst (ms'.map V.int)) ∧ ms'.length ≤ ms.length + i ∧ (∀ v ∈ ms', inR v) ∧ 0 ≤ L ∧
              (i = 0 → 1000000000000000000 ≤ L) ∧ (i = 1 → 10000000000 ≤ L ∧ 1 ≤ ms'.length) ∧ (i = 2 → 100000 ≤ L ∧ 2 ≤ ms'.length) ∧ (3 ≤ i → 3 ≤ ms'.length)) 
            ⟨x4, L, ms, rfl, sm, eo, Nat.le_refl _, hrg, hL0, fun _ => hL1, by omega, by omega, by omega⟩ ?_ ?_
          · rintro i σ H2 hi ⟨x4, L, ms', rfl, sm2, eo2, hm2, hrg2, hLa, c0, c1, c2, c3⟩
            refine ⟨_, rfl, _, _, rfl, rfl, _, rfl, iteB (fun h4 => ?_) (fun h4 => ?_)⟩
            · refine ⟨_, rfl, .inl ⟨rfl, _, .inl (.inl eo2)⟩, _, rfl, .inl ⟨_, rfl, _, _, rfl, rfl, (by show (0 : Int) < 65536; decide), o, _, _, rfl, rfl, eo2, sl9 (by rw [List.length_map]; omega), ?_⟩⟩
              refine ⟨_, rfl, _, _, rfl, rfl, ⟨by decide, by decide⟩, ?_⟩
              have hvr : inR (L % 65536) := by constructor <;> omega
              refine ⟨_, L / 65536, ms' ++ [L % 65536], rfl, same_mut sm2 no, ?_, by rw [List.length_append, List.length_singleton]; omega, rg_app hrg2 hvr, by omega, by omega, ?_, ?_, ?_⟩
              · rw [upd_same, map_app]
              · intro e; rw [List.length_append, List.length_singleton]; have := c0 (by omega); constructor <;> omega
              · intro e; rw [List.length_append, List.length_singleton]; have := c1 (by omega); constructor <;> omega
              · intro e; rw [List.length_append, List.length_singleton]
                by_cases e2 : i = 2
                · have := c2 e2; omega
                · have := c3 (by omega); omega
            · have h4' : ¬ (0 < L) := of_decide_eq_false h4
              refine ⟨_, L, ms', rfl, sm2, eo2, by omega, hrg2, hLa, by omega, ?_, ?_, ?_⟩
              · intro e; have := c0 (by omega); omega
              · intro e; have := c1 (by omega); omega
              · intro e
                by_cases e2 : i = 2
                · have := c2 e2; omega
                · exact c3 (by omega)
          · rintro σ H2 ⟨x4, L, ms', rfl, sm2, eo2, hm2, hrg2, hLa, c0, c1, c2, c3⟩
            exact ⟨_, _, _, ms', rfl, sm2, eo2, by omega, .inr (c3 (by omega)), hrg2⟩
      · exact ⟨_, _, _, ms, rfl, sm, eo, hm, h3, hrg⟩
    · rintro σ H1 ⟨x2, x3, x4, ms, rfl, sm, eo, hm, h3, hrg⟩
      refine ⟨_, rfl, Nat.zero_le _, fun p np => ?_⟩
      have nop : o ≠ p := ne_of_none eo np
      refine ⟨_, .list [], .lst (.inl (.inl ((upd_ne nop).trans eo))) (dp_ints ms), .lst (.inl (.inl upd_same)) .nil, shp_ints ms, by decide, _, rfl, iteB (fun h1 => ?_) (fun h1 => ?_)⟩
      · refine ⟨by show 13 ≤ sizeLine; decide, fun r nr => ⟨_, rfl, ?_⟩⟩
        have s1 : Same H (upd H1 p (.lst [])) := sm.trans (same_upd np)
        refine q _ r [2, 10, 1, 0, 4, 0, 1052, 0, 148, 26, 132, 0, 20] (s1.trans (same_upd nr)) (s1.free nr) upd_same ⟨by decide, by decide, ?_⟩
        intro v hv
        simp only [List.mem_cons, List.not_mem_nil, or_false] at hv
        unfold inR
        omega
      · rw [eqv_nil] at h1
        have h3' : 3 ≤ ms.length := by
          rcases h3 with rfl | h3
          · simp at h1
          · exact h3
        refine ⟨_, rfl, ?_⟩
        refine q _ o ms (sm.trans (same_upd np)) no ((upd_ne nop).trans eo) ⟨h3', by omega, hrg⟩
end
/-! ### the errors -/
theorem empty_app (x : Str) : (Str.empty ++ x).length = x.length := by
  show (#[] ++ x.cps).size = x.cps.size
  simp
theorem app_len (x y : Str) : (x ++ y).length = x.length + y.length := Array.size_append
theorem len1 {c : Str} (h : c.length ≤ 100) : (Str.empty ++ c).length ≤ sizeLine := by
  rw [empty_app]
  exact sz9 (by omega)
theorem len2 {c m : Str} (h : c.length ≤ 100) (h' : m.length ≤ 40000) : (Str.empty ++ c ++ m).length ≤ sizeLine := by
  rw [app_len, empty_app]
  exact sz9 (by omega)
theorem len3 {c m c2 : Str} (h : c.length ≤ 100) (h' : m.length ≤ 40000) (h2 : c2.length ≤ 100) : (Str.empty ++ c ++ m ++ c2).length ≤ sizeLine := by
  rw [app_len, app_len, empty_app]
  exact sz9 (by omega)
theorem len4 {c m c2 m2 : Str} (h : c.length ≤ 100) (h' : m.length ≤ 40000) (h2 : c2.length ≤ 100) (h3 : m2.length ≤ 40000) : (Str.empty ++ c ++ m ++ c2 ++ m2).length ≤ sizeLine := by
  rw [app_len, app_len, app_len, empty_app]
  exact sz9 (by omega)
/-- data that may be shown -/
def ShD (K : PySem.W.Frag) (H : Hp) (x : V) : Prop := ∃ d, Dp K H x d ∧ okD d = true ∧ costD d ≤ 40000 ∧ d.depth ≤ 10
theorem ShD.same {K : PySem.W.Frag} {H H' : Hp} {x : V} (h : ShD K H x) (s : Same H H') : ShD K H' x := let ⟨d, a, b⟩ := h; ⟨d, dp_same s d _ a, b⟩
theorem shd_str {K : PySem.W.Frag} {H : Hp} {z : Str} {n : Nat} (h : Sht z n) (hn : n ≤ 1000) : ShD K H (.str z) := by
  refine ⟨.str z, .str z, h.ok, ?_, by simp [PyData.depth]⟩
  have := h.1
  simp only [costD]
  omega
def c0 : List V → Hp → Prop := fun xs _ => xs = []
def cD (K : PySem.W.Frag) : List V → Hp → Prop := fun xs H => ∃ x, xs = [x] ∧ ShD K H x
def cI : List V → Hp → Prop := fun xs _ => ∃ n : Nat, n < 100 ∧ xs = [.int (n : Int)]
def cID (K : PySem.W.Frag) : List V → Hp → Prop := fun xs H => ∃ (n : Nat) (x : V), n < 100 ∧ xs = [.int (n : Int), x] ∧ ShD K H x
def cDD (K : PySem.W.Frag) : List V → Hp → Prop := fun xs H => ∃ x y, xs = [x, y] ∧ ShD K H x ∧ ShD K H y
theorem int100 : ∀ n : Nat, n < 100 → (((toString (n : Int) : String) : Str)).length ≤ 40000 ∧ (n : Int).natAbs.log2 < 1920 := by decide +kernel
theorem swap2 {f g : Str} {x y : V} (hne : ¬ f = g) : ∀ h v, List.lookup h [(f, x), (g, y)] = some v → List.lookup h [(g, y), (f, x)] = some v := fun h v e => by
  rw [lookup_put, lookup_put] at e ⊢
  by_cases h1 : h = f
  · rw [if_pos h1] at e
    rw [if_neg (fun z => hne (h1.symm.trans z)), if_pos h1]
    exact e
  · rw [if_neg h1] at e
    by_cases h2 : h = g
    · rw [if_pos h2] at e ⊢
      exact e
    · rw [if_neg h2] at e
      cases e
theorem err_new {C a d : Addr} {H : Hp} {fs : List (Str × V)} (ea : H a = some (exo a C none)) (nd : H d = none) (ne : d ≠ a) :
    (∀ b o, H b = some o → b ≠ a → (upd (upd H d (exd d fs)) a (exo a C (some d))) b = some o) ∧ (upd (upd H d (exd d fs)) a (exo a C (some d))) a = some (exo a C (some d)) ∧ (upd (upd H d (exd d fs)) a (exo a C (some d))) d = some (exd d fs) :=
  ⟨fun b o e h => by rw [upd_ne h, upd_ne (ne_of_none e nd)]; exact e, upd_same, (upd_ne ne).trans upd_same⟩
theorem err_more {C a d : Addr} {H H' : Hp} {fs : List (Str × V)} (hk : ∀ b o, H b = some o → b ≠ a → H' b = some o) (nd : H d = none) (ea : H' a = some (exo a C (some d))) (ne : d ≠ a) :
    (∀ b o, H b = some o → b ≠ a → (upd H' d (exd d fs)) b = some o) ∧ (upd H' d (exd d fs)) a = some (exo a C (some d)) ∧ (upd H' d (exd d fs)) d = some (exd d fs) :=
  ⟨fun b o e h => by rw [upd_ne (ne_of_none e nd)]; exact hk b o e h, (upd_ne (Ne.symm ne)).trans ea, upd_same⟩
section
variable {P : Program} {w : World} {K : PySem.W.Frag} {mg : Str → Option Value} {base : Heap}
abbrev s_InvalidStep : Stmt := inClass (topS 2) 0
abbrev N_InvalidStep : List Str := ["self", "step", "__class__"]
theorem ns_InvalidStep : NScope N_InvalidStep ["self", "step"] ["__class__"] (defScope s_InvalidStep) := nscope_by (by decide +kernel)
abbrev g_InvalidStep : List V → List (Str × V) := fun xs => (["step"] : List Str).zip xs
theorem ok_InvalidStep {f C cda cc : Addr} {fd : FuncData} {qual : Str} {kV doc pm ct : Value} {an : Option Addr} (S : SupF K P C f fd cda cc "self") (T : SupC K C) (n0 : PySem.W.findIn K (.ref C) "step" = some none) (hm : mg "super" = none)
    (hfd : fd = PySem.W.fnX "__init__" qual (defArgs s_InvalidStep) (defBody s_InvalidStep) (defScope s_InvalidStep) [("__class__", cc)] .none kV doc pm an (.ref cda) ct) (hcd : PySem.W.codeIn K (.ref cda) qual = true) :
    FnOk P w K mg base CX0 1 f fd ["self", "step"] (spErr C (cD K) g_InvalidStep) := by
  refine fn_super (k := 0) (N := N_InvalidStep) (ps := ["self", "step"]) (me := "self") S T hfd hcd ns_InvalidStep hm rfl (by decide) (by decide +kernel) (by decide +kernel) (fun vs H Q E h => ?_) (fun A outer s H vs Q E hr h => ?_) (fun env => ⟨_, rfl⟩) (fun env => rfl) (fun env => rfl)
  · obtain ⟨a, xs, rfl, ⟨x, rfl, _⟩, _⟩ := h
    rfl
  · obtain ⟨a, xs, rfl, ⟨x, rfl, d, hd, od, zd, pd⟩, ea, q⟩ := h
    refine ⟨a, _, _, rfl, ea, pe_joined (.cons pe_str (.cons (pe_fmtD hr (pv 1)) .nil)), pss_one (ps_ost (pv 0) (pv 1)), fun R hR => ?_⟩
    refine ⟨_, rfl, len1 (by decide +kernel), _, rfl, d, hd, od, by omega, by omega, fun m hm => ⟨_, rfl, len2 (by decide +kernel) (by omega), ?_⟩⟩
    refine hR H ea ⟨_, rfl, _, rfl, a, C, rfl, T.oex, n0, .inl ⟨ea, fun dx nd ne => ?_⟩⟩
    obtain ⟨k1, k2, k3⟩ := err_new ea nd ne
    exact q _ k1 (.inr ⟨dx, _, k2, k3, fun f v l => l⟩)
abbrev s_InvalidLine : Stmt := inClass (topS 3) 0
abbrev N_InvalidLine : List Str := ["self", "number", "line", "__class__"]
theorem ns_InvalidLine : NScope N_InvalidLine ["self", "number", "line"] ["__class__"] (defScope s_InvalidLine) := nscope_by (by decide +kernel)
abbrev g_InvalidLine : List V → List (Str × V) := fun xs => (["number", "line"] : List Str).zip xs
theorem ok_InvalidLine {f C cda cc : Addr} {fd : FuncData} {qual : Str} {kV doc pm ct : Value} {an : Option Addr} (S : SupF K P C f fd cda cc "self") (T : SupC K C) (n0 : PySem.W.findIn K (.ref C) "number" = some none) (n1 : PySem.W.findIn K (.ref C) "line" = some none) (hm : mg "super" = none)
    (hfd : fd = PySem.W.fnX "__init__" qual (defArgs s_InvalidLine) (defBody s_InvalidLine) (defScope s_InvalidLine) [("__class__", cc)] .none kV doc pm an (.ref cda) ct) (hcd : PySem.W.codeIn K (.ref cda) qual = true) :
    FnOk P w K mg base CX0 1 f fd ["self", "number", "line"] (spErr C (cID K) g_InvalidLine) := by
  refine fn_super (k := 0) (N := N_InvalidLine) (ps := ["self", "number", "line"]) (me := "self") S T hfd hcd ns_InvalidLine hm rfl (by decide) (by decide +kernel) (by decide +kernel) (fun vs H Q E h => ?_) (fun A outer s H vs Q E hr h => ?_) (fun env => ⟨_, rfl⟩) (fun env => rfl) (fun env => rfl)
  · obtain ⟨a, xs, rfl, ⟨n, x, _, rfl, _⟩, _⟩ := h
    rfl
  · obtain ⟨a, xs, rfl, ⟨n, x, hn, rfl, d, hd, od, zd, pd⟩, ea, q⟩ := h
    refine ⟨a, _, _, rfl, ea, pe_joined (.cons pe_str (.cons (pe_fmt (pv 1)) (.cons pe_str (.cons (pe_fmtD hr (pv 2)) .nil)))), pss_cons (ps_ost (pv 0) (pv 1)) (pss_one (ps_ost (pv 0) (pv 2))), fun R hR => ?_⟩
    obtain ⟨hl, hg⟩ := int100 n hn
    refine ⟨_, rfl, len1 (by decide +kernel), _, rfl, .inr ⟨_, rfl, hg, _, rfl, len2 (by decide +kernel) hl, _, rfl, len3 (by decide +kernel) hl (by decide +kernel), ?_⟩⟩
    refine ⟨_, rfl, d, hd, od, by omega, by omega, fun m2 hm2 => ⟨_, rfl, len4 (by decide +kernel) hl (by decide +kernel) (by omega), ?_⟩⟩
    refine hR H ea ⟨_, rfl, _, rfl, a, C, rfl, T.oex, n0, .inl ⟨ea, fun dx nd ne => ?_⟩⟩
    obtain ⟨k1, k2, k3⟩ := err_new (fs := [("number", _)]) ea nd ne
    refine ⟨_, rfl, _, rfl, a, C, rfl, T.oex, n1, .inr ⟨dx, _, k2, k3, by show 1 ≤ 900; decide, ?_⟩⟩
    obtain ⟨j1, j2, j3⟩ := err_more (fs := [("line", _), ("number", _)]) k1 nd k2 ne
    exact q _ j1 (.inr ⟨dx, _, j2, j3, swap2 (by decide +kernel)⟩)
abbrev s_InvalidMark : Stmt := inClass (topS 4) 0
abbrev N_InvalidMark : List Str := ["self", "word", "__class__"]
theorem ns_InvalidMark : NScope N_InvalidMark ["self", "word"] ["__class__"] (defScope s_InvalidMark) := nscope_by (by decide +kernel)
abbrev g_InvalidMark : List V → List (Str × V) := fun xs => (["word"] : List Str).zip xs
theorem ok_InvalidMark {f C cda cc : Addr} {fd : FuncData} {qual : Str} {kV doc pm ct : Value} {an : Option Addr} (S : SupF K P C f fd cda cc "self") (T : SupC K C) (n0 : PySem.W.findIn K (.ref C) "word" = some none) (hm : mg "super" = none)
    (hfd : fd = PySem.W.fnX "__init__" qual (defArgs s_InvalidMark) (defBody s_InvalidMark) (defScope s_InvalidMark) [("__class__", cc)] .none kV doc pm an (.ref cda) ct) (hcd : PySem.W.codeIn K (.ref cda) qual = true) :
    FnOk P w K mg base CX0 1 f fd ["self", "word"] (spErr C (cD K) g_InvalidMark) := by
  refine fn_super (k := 0) (N := N_InvalidMark) (ps := ["self", "word"]) (me := "self") S T hfd hcd ns_InvalidMark hm rfl (by decide) (by decide +kernel) (by decide +kernel) (fun vs H Q E h => ?_) (fun A outer s H vs Q E hr h => ?_) (fun env => ⟨_, rfl⟩) (fun env => rfl) (fun env => rfl)
  · obtain ⟨a, xs, rfl, ⟨x, rfl, _⟩, _⟩ := h
    rfl
  · obtain ⟨a, xs, rfl, ⟨x, rfl, d, hd, od, zd, pd⟩, ea, q⟩ := h
    refine ⟨a, _, _, rfl, ea, pe_joined (.cons pe_str (.cons (pe_fmtD hr (pv 1)) .nil)), pss_one (ps_ost (pv 0) (pv 1)), fun R hR => ?_⟩
    refine ⟨_, rfl, len1 (by decide +kernel), _, rfl, d, hd, od, by omega, by omega, fun m hm => ⟨_, rfl, len2 (by decide +kernel) (by omega), ?_⟩⟩
    refine hR H ea ⟨_, rfl, _, rfl, a, C, rfl, T.oex, n0, .inl ⟨ea, fun dx nd ne => ?_⟩⟩
    obtain ⟨k1, k2, k3⟩ := err_new ea nd ne
    exact q _ k1 (.inr ⟨dx, _, k2, k3, fun f v l => l⟩)
abbrev s_InvalidMemory : Stmt := inClass (topS 5) 0
abbrev N_InvalidMemory : List Str := ["self", "__class__"]
theorem ns_InvalidMemory : NScope N_InvalidMemory ["self"] ["__class__"] (defScope s_InvalidMemory) := nscope_by (by decide +kernel)
abbrev g_InvalidMemory : List V → List (Str × V) := fun xs => ([] : List Str).zip xs
theorem ok_InvalidMemory {f C cda cc : Addr} {fd : FuncData} {qual : Str} {kV doc pm ct : Value} {an : Option Addr} (S : SupF K P C f fd cda cc "self") (T : SupC K C) (hm : mg "super" = none)
    (hfd : fd = PySem.W.fnX "__init__" qual (defArgs s_InvalidMemory) (defBody s_InvalidMemory) (defScope s_InvalidMemory) [("__class__", cc)] .none kV doc pm an (.ref cda) ct) (hcd : PySem.W.codeIn K (.ref cda) qual = true) :
    FnOk P w K mg base CX0 1 f fd ["self"] (spErr C c0 g_InvalidMemory) := by
  refine fn_super (k := 0) (N := N_InvalidMemory) (ps := ["self"]) (me := "self") S T hfd hcd ns_InvalidMemory hm rfl (by decide) (by decide +kernel) (by decide +kernel) (fun vs H Q E h => ?_) (fun A outer s H vs Q E hr h => ?_) (fun env => ⟨_, rfl⟩) (fun env => rfl) (fun env => rfl)
  · obtain ⟨a, xs, rfl, rfl, _⟩ := h
    rfl
  · obtain ⟨a, xs, rfl, rfl, ea, q⟩ := h
    exact ⟨a, _, _, rfl, ea, pe_str, pss_nil, fun R hR => hR H ea (q H (fun b o e _ => e) (.inl ⟨rfl, ea⟩))⟩
abbrev s_InvalidLot : Stmt := inClass (topS 6) 0
abbrev N_InvalidLot : List Str := ["self", "lot", "__class__"]
theorem ns_InvalidLot : NScope N_InvalidLot ["self", "lot"] ["__class__"] (defScope s_InvalidLot) := nscope_by (by decide +kernel)
abbrev g_InvalidLot : List V → List (Str × V) := fun xs => (["lot"] : List Str).zip xs
theorem ok_InvalidLot {f C cda cc : Addr} {fd : FuncData} {qual : Str} {kV doc pm ct : Value} {an : Option Addr} (S : SupF K P C f fd cda cc "self") (T : SupC K C) (n0 : PySem.W.findIn K (.ref C) "lot" = some none) (hm : mg "super" = none)
    (hfd : fd = PySem.W.fnX "__init__" qual (defArgs s_InvalidLot) (defBody s_InvalidLot) (defScope s_InvalidLot) [("__class__", cc)] .none kV doc pm an (.ref cda) ct) (hcd : PySem.W.codeIn K (.ref cda) qual = true) :
    FnOk P w K mg base CX0 1 f fd ["self", "lot"] (spErr C (cD K) g_InvalidLot) := by
  refine fn_super (k := 0) (N := N_InvalidLot) (ps := ["self", "lot"]) (me := "self") S T hfd hcd ns_InvalidLot hm rfl (by decide) (by decide +kernel) (by decide +kernel) (fun vs H Q E h => ?_) (fun A outer s H vs Q E hr h => ?_) (fun env => ⟨_, rfl⟩) (fun env => rfl) (fun env => rfl)
  · obtain ⟨a, xs, rfl, ⟨x, rfl, _⟩, _⟩ := h
    rfl
  · obtain ⟨a, xs, rfl, ⟨x, rfl, d, hd, od, zd, pd⟩, ea, q⟩ := h
    refine ⟨a, _, _, rfl, ea, pe_joined (.cons pe_str (.cons (pe_fmtD hr (pv 1)) .nil)), pss_one (ps_ost (pv 0) (pv 1)), fun R hR => ?_⟩
    refine ⟨_, rfl, len1 (by decide +kernel), _, rfl, d, hd, od, by omega, by omega, fun m hm => ⟨_, rfl, len2 (by decide +kernel) (by omega), ?_⟩⟩
    refine hR H ea ⟨_, rfl, _, rfl, a, C, rfl, T.oex, n0, .inl ⟨ea, fun dx nd ne => ?_⟩⟩
    obtain ⟨k1, k2, k3⟩ := err_new ea nd ne
    exact q _ k1 (.inr ⟨dx, _, k2, k3, fun f v l => l⟩)
abbrev s_InvalidLimit : Stmt := inClass (topS 7) 0
abbrev N_InvalidLimit : List Str := ["self", "value", "__class__"]
theorem ns_InvalidLimit : NScope N_InvalidLimit ["self", "value"] ["__class__"] (defScope s_InvalidLimit) := nscope_by (by decide +kernel)
abbrev g_InvalidLimit : List V → List (Str × V) := fun xs => (["value"] : List Str).zip xs
theorem ok_InvalidLimit {f C cda cc : Addr} {fd : FuncData} {qual : Str} {kV doc pm ct : Value} {an : Option Addr} (S : SupF K P C f fd cda cc "self") (T : SupC K C) (n0 : PySem.W.findIn K (.ref C) "value" = some none) (hm : mg "super" = none)
    (hfd : fd = PySem.W.fnX "__init__" qual (defArgs s_InvalidLimit) (defBody s_InvalidLimit) (defScope s_InvalidLimit) [("__class__", cc)] .none kV doc pm an (.ref cda) ct) (hcd : PySem.W.codeIn K (.ref cda) qual = true) :
    FnOk P w K mg base CX0 1 f fd ["self", "value"] (spErr C cI g_InvalidLimit) := by
  refine fn_super (k := 0) (N := N_InvalidLimit) (ps := ["self", "value"]) (me := "self") S T hfd hcd ns_InvalidLimit hm rfl (by decide) (by decide +kernel) (by decide +kernel) (fun vs H Q E h => ?_) (fun A outer s H vs Q E hr h => ?_) (fun env => ⟨_, rfl⟩) (fun env => rfl) (fun env => rfl)
  · obtain ⟨a, xs, rfl, ⟨n, _, rfl⟩, _⟩ := h
    rfl
  · obtain ⟨a, xs, rfl, ⟨n, hn, rfl⟩, ea, q⟩ := h
    refine ⟨a, _, _, rfl, ea, pe_joined (.cons pe_str (.cons (pe_fmtR (pv 1)) .nil)), pss_one (ps_ost (pv 0) (pv 1)), fun R hR => ?_⟩
    obtain ⟨hl, hg⟩ := int100 n hn
    refine ⟨_, rfl, len1 (by decide +kernel), _, rfl, .inr ⟨_, rfl, hg, _, rfl, len2 (by decide +kernel) hl, ?_⟩⟩
    refine hR H ea ⟨_, rfl, _, rfl, a, C, rfl, T.oex, n0, .inl ⟨ea, fun dx nd ne => ?_⟩⟩
    obtain ⟨k1, k2, k3⟩ := err_new ea nd ne
    exact q _ k1 (.inr ⟨dx, _, k2, k3, fun f v l => l⟩)
abbrev s_Taken : Stmt := inClass (topS 8) 0
abbrev N_Taken : List Str := ["self", "program", "__class__"]
theorem ns_Taken : NScope N_Taken ["self", "program"] ["__class__"] (defScope s_Taken) := nscope_by (by decide +kernel)
abbrev g_Taken : List V → List (Str × V) := fun xs => (["program"] : List Str).zip xs
theorem ok_Taken {f C cda cc : Addr} {fd : FuncData} {qual : Str} {kV doc pm ct : Value} {an : Option Addr} (S : SupF K P C f fd cda cc "self") (T : SupC K C) (n0 : PySem.W.findIn K (.ref C) "program" = some none) (hm : mg "super" = none)
    (hfd : fd = PySem.W.fnX "__init__" qual (defArgs s_Taken) (defBody s_Taken) (defScope s_Taken) [("__class__", cc)] .none kV doc pm an (.ref cda) ct) (hcd : PySem.W.codeIn K (.ref cda) qual = true) :
    FnOk P w K mg base CX0 1 f fd ["self", "program"] (spErr C (cD K) g_Taken) := by
  refine fn_super (k := 0) (N := N_Taken) (ps := ["self", "program"]) (me := "self") S T hfd hcd ns_Taken hm rfl (by decide) (by decide +kernel) (by decide +kernel) (fun vs H Q E h => ?_) (fun A outer s H vs Q E hr h => ?_) (fun env => ⟨_, rfl⟩) (fun env => rfl) (fun env => rfl)
  · obtain ⟨a, xs, rfl, ⟨x, rfl, _⟩, _⟩ := h
    rfl
  · obtain ⟨a, xs, rfl, ⟨x, rfl, d, hd, od, zd, pd⟩, ea, q⟩ := h
    refine ⟨a, _, _, rfl, ea, pe_joined (.cons pe_str (.cons (pe_fmtD hr (pv 1)) .nil)), pss_one (ps_ost (pv 0) (pv 1)), fun R hR => ?_⟩
    refine ⟨_, rfl, len1 (by decide +kernel), _, rfl, d, hd, od, by omega, by omega, fun m hm => ⟨_, rfl, len2 (by decide +kernel) (by omega), ?_⟩⟩
    refine hR H ea ⟨_, rfl, _, rfl, a, C, rfl, T.oex, n0, .inl ⟨ea, fun dx nd ne => ?_⟩⟩
    obtain ⟨k1, k2, k3⟩ := err_new ea nd ne
    exact q _ k1 (.inr ⟨dx, _, k2, k3, fun f v l => l⟩)
abbrev s_NotRunning : Stmt := inClass (topS 9) 0
abbrev N_NotRunning : List Str := ["self", "program", "__class__"]
theorem ns_NotRunning : NScope N_NotRunning ["self", "program"] ["__class__"] (defScope s_NotRunning) := nscope_by (by decide +kernel)
abbrev g_NotRunning : List V → List (Str × V) := fun xs => (["program"] : List Str).zip xs
theorem ok_NotRunning {f C cda cc : Addr} {fd : FuncData} {qual : Str} {kV doc pm ct : Value} {an : Option Addr} (S : SupF K P C f fd cda cc "self") (T : SupC K C) (n0 : PySem.W.findIn K (.ref C) "program" = some none) (hm : mg "super" = none)
    (hfd : fd = PySem.W.fnX "__init__" qual (defArgs s_NotRunning) (defBody s_NotRunning) (defScope s_NotRunning) [("__class__", cc)] .none kV doc pm an (.ref cda) ct) (hcd : PySem.W.codeIn K (.ref cda) qual = true) :
    FnOk P w K mg base CX0 1 f fd ["self", "program"] (spErr C (cD K) g_NotRunning) := by
  refine fn_super (k := 0) (N := N_NotRunning) (ps := ["self", "program"]) (me := "self") S T hfd hcd ns_NotRunning hm rfl (by decide) (by decide +kernel) (by decide +kernel) (fun vs H Q E h => ?_) (fun A outer s H vs Q E hr h => ?_) (fun env => ⟨_, rfl⟩) (fun env => rfl) (fun env => rfl)
  · obtain ⟨a, xs, rfl, ⟨x, rfl, _⟩, _⟩ := h
    rfl
  · obtain ⟨a, xs, rfl, ⟨x, rfl, d, hd, od, zd, pd⟩, ea, q⟩ := h
    refine ⟨a, _, _, rfl, ea, pe_joined (.cons pe_str (.cons (pe_fmtD hr (pv 1)) .nil)), pss_one (ps_ost (pv 0) (pv 1)), fun R hR => ?_⟩
    refine ⟨_, rfl, len1 (by decide +kernel), _, rfl, d, hd, od, by omega, by omega, fun m hm => ⟨_, rfl, len2 (by decide +kernel) (by omega), ?_⟩⟩
    refine hR H ea ⟨_, rfl, _, rfl, a, C, rfl, T.oex, n0, .inl ⟨ea, fun dx nd ne => ?_⟩⟩
    obtain ⟨k1, k2, k3⟩ := err_new ea nd ne
    exact q _ k1 (.inr ⟨dx, _, k2, k3, fun f v l => l⟩)
abbrev s_NotHeld : Stmt := inClass (topS 10) 0
abbrev N_NotHeld : List Str := ["self", "program", "__class__"]
theorem ns_NotHeld : NScope N_NotHeld ["self", "program"] ["__class__"] (defScope s_NotHeld) := nscope_by (by decide +kernel)
abbrev g_NotHeld : List V → List (Str × V) := fun xs => (["program"] : List Str).zip xs
theorem ok_NotHeld {f C cda cc : Addr} {fd : FuncData} {qual : Str} {kV doc pm ct : Value} {an : Option Addr} (S : SupF K P C f fd cda cc "self") (T : SupC K C) (n0 : PySem.W.findIn K (.ref C) "program" = some none) (hm : mg "super" = none)
    (hfd : fd = PySem.W.fnX "__init__" qual (defArgs s_NotHeld) (defBody s_NotHeld) (defScope s_NotHeld) [("__class__", cc)] .none kV doc pm an (.ref cda) ct) (hcd : PySem.W.codeIn K (.ref cda) qual = true) :
    FnOk P w K mg base CX0 1 f fd ["self", "program"] (spErr C (cD K) g_NotHeld) := by
  refine fn_super (k := 0) (N := N_NotHeld) (ps := ["self", "program"]) (me := "self") S T hfd hcd ns_NotHeld hm rfl (by decide) (by decide +kernel) (by decide +kernel) (fun vs H Q E h => ?_) (fun A outer s H vs Q E hr h => ?_) (fun env => ⟨_, rfl⟩) (fun env => rfl) (fun env => rfl)
  · obtain ⟨a, xs, rfl, ⟨x, rfl, _⟩, _⟩ := h
    rfl
  · obtain ⟨a, xs, rfl, ⟨x, rfl, d, hd, od, zd, pd⟩, ea, q⟩ := h
    refine ⟨a, _, _, rfl, ea, pe_joined (.cons pe_str (.cons (pe_fmtD hr (pv 1)) .nil)), pss_one (ps_ost (pv 0) (pv 1)), fun R hR => ?_⟩
    refine ⟨_, rfl, len1 (by decide +kernel), _, rfl, d, hd, od, by omega, by omega, fun m hm => ⟨_, rfl, len2 (by decide +kernel) (by omega), ?_⟩⟩
    refine hR H ea ⟨_, rfl, _, rfl, a, C, rfl, T.oex, n0, .inl ⟨ea, fun dx nd ne => ?_⟩⟩
    obtain ⟨k1, k2, k3⟩ := err_new ea nd ne
    exact q _ k1 (.inr ⟨dx, _, k2, k3, fun f v l => l⟩)
abbrev s_Ring : Stmt := inClass (topS 11) 0
abbrev N_Ring : List Str := ["self", "programs", "__class__"]
theorem ns_Ring : NScope N_Ring ["self", "programs"] ["__class__"] (defScope s_Ring) := nscope_by (by decide +kernel)
abbrev g_Ring : List V → List (Str × V) := fun xs => (["programs"] : List Str).zip xs
theorem ok_Ring {f C cda cc : Addr} {fd : FuncData} {qual : Str} {kV doc pm ct : Value} {an : Option Addr} (S : SupF K P C f fd cda cc "self") (T : SupC K C) (n0 : PySem.W.findIn K (.ref C) "programs" = some none) (hm : mg "super" = none)
    (hfd : fd = PySem.W.fnX "__init__" qual (defArgs s_Ring) (defBody s_Ring) (defScope s_Ring) [("__class__", cc)] .none kV doc pm an (.ref cda) ct) (hcd : PySem.W.codeIn K (.ref cda) qual = true) :
    FnOk P w K mg base CX0 1 f fd ["self", "programs"] (spErr C (cD K) g_Ring) := by
  refine fn_super (k := 0) (N := N_Ring) (ps := ["self", "programs"]) (me := "self") S T hfd hcd ns_Ring hm rfl (by decide) (by decide +kernel) (by decide +kernel) (fun vs H Q E h => ?_) (fun A outer s H vs Q E hr h => ?_) (fun env => ⟨_, rfl⟩) (fun env => rfl) (fun env => rfl)
  · obtain ⟨a, xs, rfl, ⟨x, rfl, _⟩, _⟩ := h
    rfl
  · obtain ⟨a, xs, rfl, ⟨x, rfl, d, hd, od, zd, pd⟩, ea, q⟩ := h
    refine ⟨a, _, _, rfl, ea, pe_joined (.cons pe_str (.cons (pe_fmtD hr (pv 1)) .nil)), pss_one (ps_ost (pv 0) (pv 1)), fun R hR => ?_⟩
    refine ⟨_, rfl, len1 (by decide +kernel), _, rfl, d, hd, od, by omega, by omega, fun m hm => ⟨_, rfl, len2 (by decide +kernel) (by omega), ?_⟩⟩
    refine hR H ea ⟨_, rfl, _, rfl, a, C, rfl, T.oex, n0, .inl ⟨ea, fun dx nd ne => ?_⟩⟩
    obtain ⟨k1, k2, k3⟩ := err_new ea nd ne
    exact q _ k1 (.inr ⟨dx, _, k2, k3, fun f v l => l⟩)
abbrev s_Refused : Stmt := inClass (topS 12) 0
abbrev N_Refused : List Str := ["self", "step", "ring", "__class__"]
theorem ns_Refused : NScope N_Refused ["self", "step", "ring"] ["__class__"] (defScope s_Refused) := nscope_by (by decide +kernel)
abbrev g_Refused : List V → List (Str × V) := fun xs => (["step", "ring"] : List Str).zip xs
theorem ok_Refused {f C cda cc : Addr} {fd : FuncData} {qual : Str} {kV doc pm ct : Value} {an : Option Addr} (S : SupF K P C f fd cda cc "self") (T : SupC K C) (n0 : PySem.W.findIn K (.ref C) "step" = some none) (n1 : PySem.W.findIn K (.ref C) "ring" = some none) (hm : mg "super" = none)
    (hfd : fd = PySem.W.fnX "__init__" qual (defArgs s_Refused) (defBody s_Refused) (defScope s_Refused) [("__class__", cc)] .none kV doc pm an (.ref cda) ct) (hcd : PySem.W.codeIn K (.ref cda) qual = true) :
    FnOk P w K mg base CX0 1 f fd ["self", "step", "ring"] (spErr C (cDD K) g_Refused) := by
  refine fn_super (k := 0) (N := N_Refused) (ps := ["self", "step", "ring"]) (me := "self") S T hfd hcd ns_Refused hm rfl (by decide) (by decide +kernel) (by decide +kernel) (fun vs H Q E h => ?_) (fun A outer s H vs Q E hr h => ?_) (fun env => ⟨_, rfl⟩) (fun env => rfl) (fun env => rfl)
  · obtain ⟨a, xs, rfl, ⟨x, y, rfl, _⟩, _⟩ := h
    rfl
  · obtain ⟨a, xs, rfl, ⟨x, y, rfl, ⟨d, hd, od, zd, pd⟩, ⟨e, he, oe, ze, pe⟩⟩, ea, q⟩ := h
    refine ⟨a, _, _, rfl, ea, pe_joined (.cons pe_str (.cons (pe_fmtD hr (pv 1)) (.cons pe_str (.cons (pe_fmtD hr (pv 2)) .nil)))), pss_cons (ps_ost (pv 0) (pv 1)) (pss_one (ps_ost (pv 0) (pv 2))), fun R hR => ?_⟩
    refine ⟨_, rfl, len1 (by decide +kernel), _, rfl, d, hd, od, by omega, by omega, fun m hm => ⟨_, rfl, len2 (by decide +kernel) (by omega), _, rfl, len3 (by decide +kernel) (by omega) (by decide +kernel), ?_⟩⟩
    refine ⟨_, rfl, e, he, oe, by omega, by omega, fun m2 hm2 => ⟨_, rfl, len4 (by decide +kernel) (by omega) (by decide +kernel) (by omega), ?_⟩⟩
    refine hR H ea ⟨_, rfl, _, rfl, a, C, rfl, T.oex, n0, .inl ⟨ea, fun dx nd ne => ?_⟩⟩
    obtain ⟨k1, k2, k3⟩ := err_new (fs := [("step", _)]) ea nd ne
    refine ⟨_, rfl, _, rfl, a, C, rfl, T.oex, n1, .inr ⟨dx, _, k2, k3, by show 1 ≤ 900; decide, ?_⟩⟩
    obtain ⟨j1, j2, j3⟩ := err_more (fs := [("ring", _), ("step", _)]) k1 nd k2 ne
    exact q _ j1 (.inr ⟨dx, _, j2, j3, swap2 (by decide +kernel)⟩)
abbrev s_Full : Stmt := inClass (topS 13) 0
abbrev N_Full : List Str := ["self", "needed", "__class__"]
theorem ns_Full : NScope N_Full ["self", "needed"] ["__class__"] (defScope s_Full) := nscope_by (by decide +kernel)
abbrev g_Full : List V → List (Str × V) := fun xs => (["needed"] : List Str).zip xs
theorem ok_Full {f C cda cc : Addr} {fd : FuncData} {qual : Str} {kV doc pm ct : Value} {an : Option Addr} (S : SupF K P C f fd cda cc "self") (T : SupC K C) (n0 : PySem.W.findIn K (.ref C) "needed" = some none) (hm : mg "super" = none)
    (hfd : fd = PySem.W.fnX "__init__" qual (defArgs s_Full) (defBody s_Full) (defScope s_Full) [("__class__", cc)] .none kV doc pm an (.ref cda) ct) (hcd : PySem.W.codeIn K (.ref cda) qual = true) :
    FnOk P w K mg base CX0 1 f fd ["self", "needed"] (spErr C cI g_Full) := by
  refine fn_super (k := 0) (N := N_Full) (ps := ["self", "needed"]) (me := "self") S T hfd hcd ns_Full hm rfl (by decide) (by decide +kernel) (by decide +kernel) (fun vs H Q E h => ?_) (fun A outer s H vs Q E hr h => ?_) (fun env => ⟨_, rfl⟩) (fun env => rfl) (fun env => rfl)
  · obtain ⟨a, xs, rfl, ⟨n, _, rfl⟩, _⟩ := h
    rfl
  · obtain ⟨a, xs, rfl, ⟨n, hn, rfl⟩, ea, q⟩ := h
    refine ⟨a, _, _, rfl, ea, pe_joined (.cons pe_str (.cons (pe_fmtR (pv 1)) .nil)), pss_one (ps_ost (pv 0) (pv 1)), fun R hR => ?_⟩
    obtain ⟨hl, hg⟩ := int100 n hn
    refine ⟨_, rfl, len1 (by decide +kernel), _, rfl, .inr ⟨_, rfl, hg, _, rfl, len2 (by decide +kernel) hl, ?_⟩⟩
    refine hR H ea ⟨_, rfl, _, rfl, a, C, rfl, T.oex, n0, .inl ⟨ea, fun dx nd ne => ?_⟩⟩
    obtain ⟨k1, k2, k3⟩ := err_new ea nd ne
    exact q _ k1 (.inr ⟨dx, _, k2, k3, fun f v l => l⟩)
abbrev s_Needed : Stmt := inClass (topS 14) 0
abbrev N_Needed : List Str := ["self", "lot", "future", "__class__"]
theorem ns_Needed : NScope N_Needed ["self", "lot", "future"] ["__class__"] (defScope s_Needed) := nscope_by (by decide +kernel)
abbrev g_Needed : List V → List (Str × V) := fun xs => (["lot", "future"] : List Str).zip xs
theorem ok_Needed {f C cda cc : Addr} {fd : FuncData} {qual : Str} {kV doc pm ct : Value} {an : Option Addr} (S : SupF K P C f fd cda cc "self") (T : SupC K C) (n0 : PySem.W.findIn K (.ref C) "lot" = some none) (n1 : PySem.W.findIn K (.ref C) "future" = some none) (hm : mg "super" = none)
    (hfd : fd = PySem.W.fnX "__init__" qual (defArgs s_Needed) (defBody s_Needed) (defScope s_Needed) [("__class__", cc)] .none kV doc pm an (.ref cda) ct) (hcd : PySem.W.codeIn K (.ref cda) qual = true) :
    FnOk P w K mg base CX0 1 f fd ["self", "lot", "future"] (spErr C (cDD K) g_Needed) := by
  refine fn_super (k := 0) (N := N_Needed) (ps := ["self", "lot", "future"]) (me := "self") S T hfd hcd ns_Needed hm rfl (by decide) (by decide +kernel) (by decide +kernel) (fun vs H Q E h => ?_) (fun A outer s H vs Q E hr h => ?_) (fun env => ⟨_, rfl⟩) (fun env => rfl) (fun env => rfl)
  · obtain ⟨a, xs, rfl, ⟨x, y, rfl, _⟩, _⟩ := h
    rfl
  · obtain ⟨a, xs, rfl, ⟨x, y, rfl, ⟨d, hd, od, zd, pd⟩, ⟨e, he, oe, ze, pe⟩⟩, ea, q⟩ := h
    refine ⟨a, _, _, rfl, ea, pe_joined (.cons pe_str (.cons (pe_fmtD hr (pv 1)) (.cons pe_str (.cons (pe_fmtD hr (pv 2)) .nil)))), pss_cons (ps_ost (pv 0) (pv 1)) (pss_one (ps_ost (pv 0) (pv 2))), fun R hR => ?_⟩
    refine ⟨_, rfl, len1 (by decide +kernel), _, rfl, d, hd, od, by omega, by omega, fun m hm => ⟨_, rfl, len2 (by decide +kernel) (by omega), _, rfl, len3 (by decide +kernel) (by omega) (by decide +kernel), ?_⟩⟩
    refine ⟨_, rfl, e, he, oe, by omega, by omega, fun m2 hm2 => ⟨_, rfl, len4 (by decide +kernel) (by omega) (by decide +kernel) (by omega), ?_⟩⟩
    refine hR H ea ⟨_, rfl, _, rfl, a, C, rfl, T.oex, n0, .inl ⟨ea, fun dx nd ne => ?_⟩⟩
    obtain ⟨k1, k2, k3⟩ := err_new (fs := [("lot", _)]) ea nd ne
    refine ⟨_, rfl, _, rfl, a, C, rfl, T.oex, n1, .inr ⟨dx, _, k2, k3, by show 1 ≤ 900; decide, ?_⟩⟩
    obtain ⟨j1, j2, j3⟩ := err_more (fs := [("future", _), ("lot", _)]) k1 nd k2 ne
    exact q _ j1 (.inr ⟨dx, _, j2, j3, swap2 (by decide +kernel)⟩)
abbrev s_Unlike : Stmt := inClass (topS 15) 0
abbrev N_Unlike : List Str := ["self", "__class__"]
theorem ns_Unlike : NScope N_Unlike ["self"] ["__class__"] (defScope s_Unlike) := nscope_by (by decide +kernel)
abbrev g_Unlike : List V → List (Str × V) := fun xs => ([] : List Str).zip xs
theorem ok_Unlike {f C cda cc : Addr} {fd : FuncData} {qual : Str} {kV doc pm ct : Value} {an : Option Addr} (S : SupF K P C f fd cda cc "self") (T : SupC K C) (hm : mg "super" = none)
    (hfd : fd = PySem.W.fnX "__init__" qual (defArgs s_Unlike) (defBody s_Unlike) (defScope s_Unlike) [("__class__", cc)] .none kV doc pm an (.ref cda) ct) (hcd : PySem.W.codeIn K (.ref cda) qual = true) :
    FnOk P w K mg base CX0 1 f fd ["self"] (spErr C c0 g_Unlike) := by
  refine fn_super (k := 0) (N := N_Unlike) (ps := ["self"]) (me := "self") S T hfd hcd ns_Unlike hm rfl (by decide) (by decide +kernel) (by decide +kernel) (fun vs H Q E h => ?_) (fun A outer s H vs Q E hr h => ?_) (fun env => ⟨_, rfl⟩) (fun env => rfl) (fun env => rfl)
  · obtain ⟨a, xs, rfl, rfl, _⟩ := h
    rfl
  · obtain ⟨a, xs, rfl, rfl, ea, q⟩ := h
    exact ⟨a, _, _, rfl, ea, pe_str, pss_nil, fun R hR => hR H ea (q H (fun b o e _ => e) (.inl ⟨rfl, ea⟩))⟩
end
end Kx

namespace Kx
open PySem PySem.Spec PyProof.Rows L2 NdefX Kr Ke
structure TxN (mg : Str → Option Value) : Prop extends TB mg where
  m_str : mg "str" = none
abbrev s_named : Stmt := topS 18
abbrev N_named : List Str := ["_law_k", "_law_style", "_law_one", "_law_kind", "_law_words", "_law_base"]
theorem sc_named : FnScope N_named ["_law_k", "_law_style"] (defScope s_named) := ⟨rfl, rfl, rfl, by decide +kernel, rfl, by decide +kernel, by decide +kernel⟩
def spNamed : Sp := fun vs H Q _ => ∃ k st : Int, vs = [.int k, .int st] ∧ 0 ≤ k ∧ k ≤ 30 ∧ 0 ≤ st ∧ st < 70000 ∧ ∀ z H', Same H H' → Sht z 200 → Q (.str z) H'
def A26 : Str := "abcdefghijklmnopqrstuvwxyz"
theorem a26_len : A26.cps.toList.length = 26 := by decide +kernel
theorem a26_len2 : A26.length ≤ 100000 := by decide +kernel
theorem a26_lt : ∀ c ∈ A26.cps.toList, c < 1114112 := by decide +kernel
theorem at_26 (k : Int) : ∃ c, atI A26.cps.toList (k % 26) = some c ∧ c < 1114112 := by
  obtain ⟨j, hj⟩ : ∃ j : Nat, k % 26 = (j : Int) := ⟨(k % 26).toNat, by omega⟩
  have hl : j < A26.cps.toList.length := by rw [a26_len]; omega
  exact ⟨A26.cps.toList[j], by rw [hj]; exact atI_nat (List.getElem?_eq_getElem hl), a26_lt _ (List.getElem_mem hl)⟩
theorem sht1 {c : Nat} (h : c < 1114112) : Sht ⟨#[c]⟩ 1 := ⟨Nat.le_refl _, fun d hd => by
  have e : d = c := by simpa using hd
  rw [e]
  exact h⟩
def WL : List Str := ["write", "none", "read", "own", "close", "leads", "program", "to", "begin", "quit"]
theorem wl_sht : ∀ z ∈ WL, Sht z 10 := by
  have h : ∀ z ∈ WL, z.length ≤ 10 ∧ ∀ c ∈ z.cps.toList, c < 1114112 := by decide +kernel
  exact h
theorem at_wl (k : Int) : ∃ z, atI (WL.map V.str) (k % 10) = some (.str z) ∧ Sht z 10 := by
  obtain ⟨j, hj⟩ : ∃ j : Nat, k % 10 = (j : Int) := ⟨(k % 10).toNat, by omega⟩
  have hl : j < WL.length := by
    show j < 10
    omega
  refine ⟨WL[j], ?_, wl_sht _ (List.getElem_mem hl)⟩
  rw [hj]
  refine atI_nat ?_
  rw [List.getElem?_map, List.getElem?_eq_getElem hl]
  rfl
theorem num_sht {n : Nat} (h : n < 10 ^ 10) : Sht (((toString (n : Int) : String) : Str)) 10 := by
  have e : (((toString (n : Int) : String) : Str)) = ⟨((Nat.toDigits 10 n).map Char.toNat).toArray⟩ := text_ofNat n
  rw [e]
  refine ⟨?_, fun c hc => ?_⟩
  · show ((Nat.toDigits 10 n).map Char.toNat).toArray.size ≤ 10
    rw [List.size_toArray, List.length_map]
    exact digits10_le (by decide) h
  · have hc' : c ∈ (Nat.toDigits 10 n).map Char.toNat := by simpa using hc
    obtain ⟨d, _, rfl⟩ := List.mem_map.mp hc'
    have h2 : d.val.toNat < 0xd800 ∨ (0xdfff < d.val.toNat ∧ d.val.toNat < 0x110000) := d.valid
    show d.val.toNat < 1114112
    omega
theorem num_sht2 : ∀ k : Nat, k < 31 → (((toString (100 - 7 * (k : Int)) : String) : Str)).length ≤ 10 ∧ ∀ c ∈ (((toString (100 - 7 * (k : Int)) : String) : Str)).cps.toList, c < 1114112 := by decide +kernel
end Kx

namespace Kx
open PySem PySem.Spec PyProof.Rows L2 NdefX Kr Ke
theorem small_log {i : Int} (h : i.natAbs < 20000) : i.natAbs.log2 < 1920 := by
  by_cases h0 : i.natAbs = 0
  · rw [h0]
    decide
  · exact (Nat.log2_lt h0).mpr (Nat.lt_of_lt_of_le h (by decide +kernel))
section
variable {P : Program} {w : World} {K : PySem.W.Frag} {mg : Str → Option Value} {base : Heap}
theorem ok_named {f : Addr} {fd : FuncData} (F : Fun K "_law_named" "_law_named" s_named f fd) (T : TxN mg) : FnOk P w K mg base CX0 1 f fd ["_law_k", "_law_style"] spNamed := by
  refine F.ok sc_named (fun vs H Q E h => ?_) (fun cdv A outer s H vs Q E hr h => ?_)
  · obtain ⟨k, st, rfl, _⟩ := h
    rfl
  · obtain ⟨k, st, rfl, k0, k1, s0, s1, q⟩ := h
    refine ⟨_, (pss_cons (ps_set (i := 2) sc_named.nd rfl (Or.inl rfl) (pe_ix ix_str pe_str (pe_op op_mod (pe_callTy call_int1 (by rfl) T.m_int (by decide +kernel) (pa_cons (pe_op op_add (pe_op op_mul (pv 0) pe_int) (pe_op op_fdiv (pv 1) pe_int)) pa_nil)) pe_int) (fun _ _ => rfl)))
      (pss_cons (ps_set (i := 3) sc_named.nd rfl (Or.inl rfl) (pe_op op_mod (pe_callTy call_int1 (by rfl) T.m_int (by decide +kernel) (pa_cons (pv 1) pa_nil)) pe_int))
      (C8.pss_cut (ps_if (PW.pt (pw_and (pt_cmpR op_eq (pv 3) pe_int (nomark _)) (pw_and1 (pt_cmpR op_eq (pe_op op_mod (pe_op op_fdiv (pe_callTy call_int1 (by rfl) T.m_int (by decide +kernel) (pa_cons (pv 1) pa_nil)) pe_int) pe_int) pe_int (nomark _)))))
        (pss_cons (ps_set (i := 4) sc_named.nd rfl (Or.inl rfl) (pe_lst (pa_cons pe_str (pa_cons pe_str (pa_cons pe_str (pa_cons pe_str (pa_cons pe_str (pa_cons pe_str (pa_cons pe_str (pa_cons pe_str (pa_cons pe_str (pa_cons pe_str pa_nil))))))))))))
        (pss_one (ps_ret (pe_op op_add_str (pe_ix ix_list (pv 4) (pe_op op_mod (pe_callTy call_int1 (by rfl) T.m_int (by decide +kernel) (pa_cons (pv 0) pa_nil)) pe_int) (fun _ _ => rfl)) (pe_op op_repS pe_str (pe_op op_fdiv (pe_callTy call_int1 (by rfl) T.m_int (by decide +kernel) (pa_cons (pv 0) pa_nil)) pe_int))))))
        pss_nil)
      (C8.pss_cut (ps_if (PW.pt (pw_and (pt_cmpR op_eq (pv 3) pe_int (nomark _)) (pw_and1 (pt_cmpR op_eq (pe_op op_mod (pe_op op_fdiv (pe_callTy call_int1 (by rfl) T.m_int (by decide +kernel) (pa_cons (pv 1) pa_nil)) pe_int) pe_int) pe_int (nomark _)))))
        (pss_one (ps_ret (pe_op op_add_str (pe_op op_repS pe_str (pe_op op_fdiv (pe_callTy call_int1 (by rfl) T.m_int (by decide +kernel) (pa_cons (pv 0) pa_nil)) pe_int)) (pe_op op_repS pe_str (pe_op op_add (pe_op op_mod (pe_callTy call_int1 (by rfl) T.m_int (by decide +kernel) (pa_cons (pv 0) pa_nil)) pe_int) pe_int)))))
        pss_nil)
      (pss_cons (ps_if (pt_cmpR op_eq (pv 3) pe_int (nomark _))
        (pss_one (ps_ret (pe_op op_add_str (pe_op op_repS pe_str (pe_op op_mod (pe_callTy call_int1 (by rfl) T.m_int (by decide +kernel) (pa_cons (pv 0) pa_nil)) pe_int)) (pv 2))))
        pss_nil)
      (pss_cons (ps_if (pt_cmpR op_eq (pv 3) pe_int (nomark _))
        (pss_cons (ps_set (i := 5) sc_named.nd rfl (Or.inl rfl) (pe_op op_add_str (pv 2) (pe_callTy call_str_int (by rfl) T.m_str (by decide +kernel) (pa_cons (pe_op op_mod (pe_callTy call_int1 (by rfl) T.m_int (by decide +kernel) (pa_cons (pe_op op_fdiv (pv 1) pe_int) pa_nil)) pe_int) pa_nil))))
        (pss_cons (ps_if (pt_cmpR op_eq (pe_op op_mod (pe_callTy call_int1 (by rfl) T.m_int (by decide +kernel) (pa_cons (pv 0) pa_nil)) pe_int) pe_int (nomark _))
          (pss_one (ps_ret (pe_op op_add_str (pv 5) (pe_op op_repS pe_str (pe_op op_sub pe_int (pe_callB call_len_str (by rfl) T.m_len (by decide +kernel) (pa_cons (pv 5) pa_nil)))))))
          pss_nil)
        (pss_one (ps_ret (pe_op op_add_str (pv 5) (pe_op op_repS pe_str (pe_op op_mod (pe_callTy call_int1 (by rfl) T.m_int (by decide +kernel) (pa_cons (pv 0) pa_nil)) pe_int)))))))
        pss_nil)
      (pss_cons (ps_if (pt_cmpR op_eq (pv 3) pe_int (nomark _))
        (pss_one (ps_ret (pe_op op_add_str pe_str (pe_callTy call_str_int (by rfl) T.m_str (by decide +kernel) (pa_cons (pe_op op_sub pe_int (pe_op op_mul pe_int (pv 0))) pa_nil)))))
        pss_nil)
      (pss_one (ps_ret (pv 2)))))))))), ?_⟩
    obtain ⟨c, hc, hc8⟩ := at_26 (k * 7 + st / 4)
    have one := sht1 hc8
    refine ⟨_, rfl, _, _, rfl, rfl, .inr ⟨by decide, by decide⟩, _, rfl, _, _, rfl, rfl, ⟨by decide, by decide⟩, _, _, rfl, rfl, .inl ⟨_, rfl, _, _, rfl, rfl, (by show (0 : Int) < 26; decide), A26, _, c, rfl, rfl, sz9 a26_len2, hc, ?_⟩⟩
    refine ⟨_, rfl, .inl ⟨_, rfl, _, _, rfl, rfl, (by show (0 : Int) < 4; decide), ?_⟩⟩
    -- two ifs of two tests
    let S0 : L2.St := [some (.int k), some (.int st), some (.str ⟨#[c]⟩), some (.int (st % 4)), none, none]
    refine ⟨fun σ' H' => σ' = S0 ∧ H = H', ?_, ?_⟩
    · refine ⟨_, rfl, rfl, _, rfl, iteB (fun h1 => ?_) (fun h1 => ⟨rfl, rfl⟩)⟩
      refine ⟨_, rfl, .inl ⟨_, rfl, _, _, rfl, rfl, ⟨by decide, by decide⟩, _, _, rfl, rfl, (by show (0 : Int) < 2; decide), rfl, _, rfl, iteB (fun h2 => ?_) (fun h2 => ⟨rfl, rfl⟩)⟩⟩
      refine ⟨by show 10 ≤ sizeLine; decide, fun l nl => ?_⟩
      obtain ⟨z, hz, hs⟩ := at_wl k
      refine ⟨_, rfl, _, rfl, .inl ⟨_, rfl, _, _, rfl, rfl, (by show (0 : Int) < 10; decide), l, _, _, _, rfl, rfl, .inl (.inl upd_same), hz, ?_⟩⟩
      refine ⟨_, rfl, .inl ⟨_, rfl, _, _, rfl, rfl, ⟨by decide, by decide⟩, "2", k / 10, rfl, rfl, rfl, by decide +kernel, by omega, by omega, fun t ht => ?_⟩⟩
      refine ⟨z, t, rfl, rfl, ?_, ?_⟩
      · have h3 := hs.1
        have h4 := ht.1
        exact sz9 (by omega)
      · exact q _ _ (same_upd nl) ((hs.app ht).le (by omega))
    rintro _ _ ⟨rfl, rfl⟩
    refine ⟨fun σ' H' => σ' = S0 ∧ H = H', ?_, ?_⟩
    · refine ⟨_, rfl, rfl, _, rfl, iteB (fun h1 => ?_) (fun h1 => ⟨rfl, rfl⟩)⟩
      refine ⟨_, rfl, .inl ⟨_, rfl, _, _, rfl, rfl, ⟨by decide, by decide⟩, _, _, rfl, rfl, (by show (0 : Int) < 2; decide), rfl, _, rfl, iteB (fun h2 => ?_) (fun h2 => ⟨rfl, rfl⟩)⟩⟩
      refine ⟨_, rfl, .inl ⟨_, rfl, _, _, rfl, rfl, ⟨by decide, by decide⟩, "b", k / 7, rfl, rfl, rfl, by decide +kernel, by omega, by omega, fun t ht => ?_⟩⟩
      refine ⟨_, rfl, .inl ⟨_, rfl, _, _, rfl, rfl, (by show (0 : Int) < 7; decide), _, _, rfl, rfl, "a", k % 7 + 1, rfl, rfl, rfl, by decide +kernel, by omega, by omega, fun u hu => ?_⟩⟩
      refine ⟨t, u, rfl, rfl, ?_, ?_⟩
      · have h3 := ht.1
        have h4 := hu.1
        exact sz9 (by omega)
      · exact q _ _ (Same.refl _) ((ht.app hu).le (by omega))
    rintro _ _ ⟨rfl, rfl⟩
    refine ⟨_, rfl, rfl, _, rfl, iteB (fun h1 => ?_) (fun h1 => ?_)⟩
    · refine ⟨_, rfl, .inl ⟨_, rfl, _, _, rfl, rfl, (by show (0 : Int) < 3; decide), "q", k % 3, rfl, rfl, rfl, by decide +kernel, by omega, by omega, fun t ht => ?_⟩⟩
      refine ⟨_, rfl, t, _, rfl, rfl, ?_, ?_⟩
      · have h3 := ht.1
        have h4 := one.1
        exact sz9 (by omega)
      · exact q _ _ (Same.refl _) ((ht.app one).le (by omega))
    refine ⟨_, rfl, rfl, _, rfl, iteB (fun h1 => ?_) (fun h1 => ?_)⟩
    · obtain ⟨m, hm⟩ : ∃ m : Nat, st / 4 % 10000 = (m : Int) := ⟨(st / 4 % 10000).toNat, by omega⟩
      have hm1 : m < 10 ^ 10 := by omega
      have hsm := num_sht hm1
      refine ⟨_, rfl, _, rfl, _, _, rfl, rfl, ⟨by decide, by decide⟩, .inl ⟨_, rfl, _, _, rfl, rfl, (by show (0 : Int) < 10000; decide), _, rfl, ?_, ?_⟩⟩
      · exact small_log (by omega)
      refine ⟨_, _, rfl, rfl, ?_, ?_⟩
      · rw [hm]
        have h3 := one.1
        have h4 := hsm.1
        exact sz9 (by omega)
      have base : Sht (⟨#[c]⟩ ++ ((toString (st / 4 % 10000) : String) : Str)) 11 := by
        rw [hm]
        exact one.app hsm
      have hb := base.1
      refine ⟨_, rfl, .inl ⟨_, rfl, _, _, rfl, rfl, (by show (0 : Int) < 4; decide), rfl, _, rfl, iteB (fun h2 => ?_) (fun h2 => ?_)⟩⟩
      · refine ⟨_, rfl, _, rfl, _, rfl, base.sz (by omega), _, _, rfl, rfl, "x", _, rfl, rfl, rfl, by decide +kernel, by omega, by omega, fun t ht => ?_⟩
        refine ⟨_, t, rfl, rfl, ?_, ?_⟩
        · have h4 := ht.1
          exact sz9 (by omega)
        · exact q _ _ (Same.refl _) ((base.app ht).le (by omega))
      · refine ⟨_, rfl, _, rfl, .inl ⟨_, rfl, _, _, rfl, rfl, (by show (0 : Int) < 4; decide), "x", k % 4, rfl, rfl, rfl, by decide +kernel, by omega, by omega, fun t ht => ?_⟩⟩
        refine ⟨_, t, rfl, rfl, ?_, ?_⟩
        · have h4 := ht.1
          exact sz9 (by omega)
        · exact q _ _ (Same.refl _) ((base.app ht).le (by omega))
    refine ⟨_, rfl, rfl, _, rfl, iteB (fun h1 => ?_) (fun h1 => ?_)⟩
    · obtain ⟨m, hm⟩ : ∃ m : Nat, k = (m : Int) := ⟨k.toNat, by omega⟩
      have hs := num_sht2 m (by omega)
      rw [← hm] at hs
      have hs' : Sht ((toString (100 - 7 * k) : String) : Str) 10 := hs
      have mm : Sht ("m" : Str) 1 := ⟨by decide +kernel, by decide +kernel⟩
      refine ⟨_, rfl, _, _, rfl, rfl, .inl ⟨by decide, by decide⟩, _, _, rfl, rfl, _, rfl, small_log (by omega), _, _, rfl, rfl, ?_, ?_⟩
      · have h4 := hs.1
        have h5 := mm.1
        exact sz9 (by omega)
      · exact q _ _ (Same.refl _) ((mm.app hs').le (by omega))
    · exact ⟨_, rfl, q _ _ (Same.refl _) (one.le (by omega))⟩
end
end Kx

namespace Kx
open PySem PySem.Spec PyProof.Rows L2 NdefX Kr Ke
def NMS : List Str := ["InvalidStep", "InvalidLine", "InvalidMark", "InvalidMemory", "InvalidLot", "InvalidLimit", "Taken", "NotRunning", "NotHeld", "Ring", "Refused", "Full", "Needed", "Unlike"]
/-- what the walk asks of the text -/
structure Txt (K : PySem.W.Frag) (mg : Str → Option Value) (C : Nat → Addr) (CK : Addr) : Prop extends TxN mg where
  m_isinstance : mg "isinstance" = none
  m_list : mg "list" = none
  m_tuple : mg "tuple" = none
  m_VE : mg "ValueError" = none
  gK : mg "KeeperError" = some (.ref CK)
  g : ∀ i x, NMS[i]? = some x → mg x = some (.ref (C i))
  ex : ∀ j, j < 14 → ExcC K (C j)
  xf : ∀ j, j < 14 → XfC K (C j)
  kit : ∀ j i, j < 14 → i < 14 → PySem.W.kitOne K (.ref (C j)) (.ref (C i)) = some (j == i)
  kitK : ∀ j, j < 14 → PySem.W.kitOne K (.ref (C j)) (.ref CK) = some true
  kitV : ∀ j, j < 14 → PySem.W.kitOne K (.ref (C j)) (.type "ValueError") = some true
/-- isinstance(e, c), e an own error -/
def rIsX (K : PySem.W.Frag) : List V → Hp → VK → Prop := fun xs H Q => ∃ C, ExcC K C ∧ rIsO K C xs H Q
theorem call_isX {X : Cx} : CallR X (.builtin "isinstance") (rIsX X.K) := by
  intro pins s σ H xs us Q I r h
  obtain ⟨C, D, h⟩ := h
  exact call_isO D pins s σ H xs us Q I r h
abbrev s_kinds : Stmt := topS 19
abbrev N_kinds : List Str := ["_law_made", "_law_told", "_law_k"]
theorem sc_kinds : FnScope N_kinds ["_law_made"] (defScope s_kinds) := ⟨rfl, rfl, rfl, by decide +kernel, rfl, by decide +kernel, by decide +kernel⟩
def spKinds (C : Nat → Addr) : Sp := fun vs H Q _ => ∃ (a : Addr) (g : List (Str × V)) (j : Nat), j < 14 ∧ vs = [.ref a] ∧ ErrAt (C j) H a g ∧ ∀ D H', Same H H' → H' D = some (.lst [.int (j : Int)]) → Q (.ref D) H'
def tell (j n : Nat) : List V := (List.range n).map fun i => .bl (j == i)
abbrev s_is : Stmt := topS 20
abbrev N_is : List Str := ["_law_made", "_law_place"]
theorem sc_is : FnScope N_is ["_law_made", "_law_place"] (defScope s_is) := ⟨rfl, rfl, rfl, by decide +kernel, rfl, by decide +kernel, by decide +kernel⟩
def spIs (C : Nat → Addr) : Sp := fun vs H Q _ => ∃ (a : Addr) (g : List (Str × V)) (j : Nat), j < 14 ∧ vs = [.ref a, .int (j : Int)] ∧ ErrAt (C j) H a g ∧ ∀ H', Same H H' → Q (.bl true) H'
section
variable {P : Program} {w : World} {K : PySem.W.Frag} {mg : Str → Option Value} {base : Heap} {C : Nat → Addr} {CK : Addr}
theorem ok_kinds {f : Addr} {fd : FuncData} (F : Fun K "_law_kinds" "_law_kinds" s_kinds f fd) (T : Txt K mg C CK) : FnOk P w K mg base CX0 1 f fd ["_law_made"] (spKinds C) := by
  refine F.ok sc_kinds (fun vs H Q E h => ?_) (fun cdv A outer s H vs Q E hr h => ?_)
  · obtain ⟨a, g, j, _, rfl, _⟩ := h
    rfl
  · obtain ⟨a, g, j, hj, rfl, hE, q⟩ := h
    refine ⟨_, (pss_cons (ps_set (i := 1) sc_kinds.nd rfl (Or.inr rfl) (pe_lst (pa_cons (pe_callB call_isX (by rfl) T.m_isinstance (by decide +kernel) (pa_cons (pv 0) (pa_cons (pe_glob (v := .ref (C 0)) (by rfl) (T.g 0 "InvalidStep" rfl) rfl) pa_nil))) (pa_cons (pe_callB call_isX (by rfl) T.m_isinstance (by decide +kernel) (pa_cons (pv 0) (pa_cons (pe_glob (v := .ref (C 1)) (by rfl) (T.g 1 "InvalidLine" rfl) rfl) pa_nil))) pa_nil))))
      (pss_cons (ps_set (i := 1) sc_kinds.nd rfl (Or.inr rfl) (pe_op op_cat (pv 1) (pe_lst (pa_cons (pe_callB call_isX (by rfl) T.m_isinstance (by decide +kernel) (pa_cons (pv 0) (pa_cons (pe_glob (v := .ref (C 2)) (by rfl) (T.g 2 "InvalidMark" rfl) rfl) pa_nil))) (pa_cons (pe_callB call_isX (by rfl) T.m_isinstance (by decide +kernel) (pa_cons (pv 0) (pa_cons (pe_glob (v := .ref (C 3)) (by rfl) (T.g 3 "InvalidMemory" rfl) rfl) pa_nil))) pa_nil)))))
      (pss_cons (ps_set (i := 1) sc_kinds.nd rfl (Or.inr rfl) (pe_op op_cat (pv 1) (pe_lst (pa_cons (pe_callB call_isX (by rfl) T.m_isinstance (by decide +kernel) (pa_cons (pv 0) (pa_cons (pe_glob (v := .ref (C 4)) (by rfl) (T.g 4 "InvalidLot" rfl) rfl) pa_nil))) (pa_cons (pe_callB call_isX (by rfl) T.m_isinstance (by decide +kernel) (pa_cons (pv 0) (pa_cons (pe_glob (v := .ref (C 5)) (by rfl) (T.g 5 "InvalidLimit" rfl) rfl) pa_nil))) pa_nil)))))
      (pss_cons (ps_set (i := 1) sc_kinds.nd rfl (Or.inr rfl) (pe_op op_cat (pv 1) (pe_lst (pa_cons (pe_callB call_isX (by rfl) T.m_isinstance (by decide +kernel) (pa_cons (pv 0) (pa_cons (pe_glob (v := .ref (C 6)) (by rfl) (T.g 6 "Taken" rfl) rfl) pa_nil))) (pa_cons (pe_callB call_isX (by rfl) T.m_isinstance (by decide +kernel) (pa_cons (pv 0) (pa_cons (pe_glob (v := .ref (C 7)) (by rfl) (T.g 7 "NotRunning" rfl) rfl) pa_nil))) pa_nil)))))
      (pss_cons (ps_set (i := 1) sc_kinds.nd rfl (Or.inr rfl) (pe_op op_cat (pv 1) (pe_lst (pa_cons (pe_callB call_isX (by rfl) T.m_isinstance (by decide +kernel) (pa_cons (pv 0) (pa_cons (pe_glob (v := .ref (C 8)) (by rfl) (T.g 8 "NotHeld" rfl) rfl) pa_nil))) (pa_cons (pe_callB call_isX (by rfl) T.m_isinstance (by decide +kernel) (pa_cons (pv 0) (pa_cons (pe_glob (v := .ref (C 9)) (by rfl) (T.g 9 "Ring" rfl) rfl) pa_nil))) pa_nil)))))
      (pss_cons (ps_set (i := 1) sc_kinds.nd rfl (Or.inr rfl) (pe_op op_cat (pv 1) (pe_lst (pa_cons (pe_callB call_isX (by rfl) T.m_isinstance (by decide +kernel) (pa_cons (pv 0) (pa_cons (pe_glob (v := .ref (C 10)) (by rfl) (T.g 10 "Refused" rfl) rfl) pa_nil))) (pa_cons (pe_callB call_isX (by rfl) T.m_isinstance (by decide +kernel) (pa_cons (pv 0) (pa_cons (pe_glob (v := .ref (C 11)) (by rfl) (T.g 11 "Full" rfl) rfl) pa_nil))) pa_nil)))))
      (pss_cons (ps_set (i := 1) sc_kinds.nd rfl (Or.inr rfl) (pe_op op_cat (pv 1) (pe_lst (pa_cons (pe_callB call_isX (by rfl) T.m_isinstance (by decide +kernel) (pa_cons (pv 0) (pa_cons (pe_glob (v := .ref (C 12)) (by rfl) (T.g 12 "Needed" rfl) rfl) pa_nil))) (pa_cons (pe_callB call_isX (by rfl) T.m_isinstance (by decide +kernel) (pa_cons (pv 0) (pa_cons (pe_glob (v := .ref (C 13)) (by rfl) (T.g 13 "Unlike" rfl) rfl) pa_nil))) pa_nil)))))
      (pss_one (ps_ret (pe_lc (own := [("_law_k", 2)]) (g := gName 2) rfl sc_kinds.nd (pi_range1 (by rfl) T.m_range (pa_cons pe_int pa_nil)) (blkOk_by (own := [("_law_k", 2)]) (N := N_kinds) (sc := defScope s_kinds) (by decide +kernel)) (fun _ _ _ _ _ => pg_name (i := 2) sc_kinds.nd rfl (Or.inl rfl)) (fun _ _ _ _ _ => (pts_one (pt_val (pe_ix (show IxR _ (rIxL K) from ix_list) (pv 1) (pv 2) (fun _ _ => rfl))))) (fun _ _ _ _ _ => (pv 2)))))))))))), ?_⟩
    refine ⟨_, rfl, C j, T.ex j hj, a, g, _, _, _, rfl, hE, fun u e => e, T.kit j 0 hj (by decide), _, rfl, C j, T.ex j hj, a, g, _, _, _, rfl, hE, fun u e => e, T.kit j 1 hj (by decide), by show 2 ≤ sizeLine; decide, fun l0 n0 => ?_⟩
    have s0 : Same H (upd H l0 (.lst (tell j 2))) := same_upd n0
    have e0 : (upd H l0 (.lst (tell j 2))) l0 = some (.lst (tell j 2)) := upd_same
    refine ⟨_, rfl, _, rfl, C j, T.ex j hj, a, g, _, _, _, rfl, hE.same s0, fun u e => e, T.kit j 2 hj (by decide), _, rfl, C j, T.ex j hj, a, g, _, _, _, rfl, hE.same s0, fun u e => e, T.kit j 3 hj (by decide), by show 2 ≤ sizeLine; decide, fun m1 x1 => ⟨l0, m1, tell j 2, [V.bl (j == 2), V.bl (j == 3)], rfl, rfl, (same_upd x1) _ _ e0, upd_same, by show 4 ≤ sizeLine; decide, fun l1 n1 => ?_⟩⟩
    have s1 : Same H (upd (upd (upd H l0 (.lst (tell j 2))) m1 (.lst [V.bl (j == 2), V.bl (j == 3)])) l1 (.lst (tell j 4))) := (s0.trans (same_upd x1)).trans (same_upd n1)
    have e1 : (upd (upd (upd H l0 (.lst (tell j 2))) m1 (.lst [V.bl (j == 2), V.bl (j == 3)])) l1 (.lst (tell j 4))) l1 = some (.lst (tell j 4)) := upd_same
    refine ⟨_, rfl, _, rfl, C j, T.ex j hj, a, g, _, _, _, rfl, hE.same s1, fun u e => e, T.kit j 4 hj (by decide), _, rfl, C j, T.ex j hj, a, g, _, _, _, rfl, hE.same s1, fun u e => e, T.kit j 5 hj (by decide), by show 2 ≤ sizeLine; decide, fun m2 x2 => ⟨l1, m2, tell j 4, [V.bl (j == 4), V.bl (j == 5)], rfl, rfl, (same_upd x2) _ _ e1, upd_same, by show 6 ≤ sizeLine; decide, fun l2 n2 => ?_⟩⟩
    have s2 : Same H (upd (upd (upd (upd (upd H l0 (.lst (tell j 2))) m1 (.lst [V.bl (j == 2), V.bl (j == 3)])) l1 (.lst (tell j 4))) m2 (.lst [V.bl (j == 4), V.bl (j == 5)])) l2 (.lst (tell j 6))) := (s1.trans (same_upd x2)).trans (same_upd n2)
    have e2 : (upd (upd (upd (upd (upd H l0 (.lst (tell j 2))) m1 (.lst [V.bl (j == 2), V.bl (j == 3)])) l1 (.lst (tell j 4))) m2 (.lst [V.bl (j == 4), V.bl (j == 5)])) l2 (.lst (tell j 6))) l2 = some (.lst (tell j 6)) := upd_same
    refine ⟨_, rfl, _, rfl, C j, T.ex j hj, a, g, _, _, _, rfl, hE.same s2, fun u e => e, T.kit j 6 hj (by decide), _, rfl, C j, T.ex j hj, a, g, _, _, _, rfl, hE.same s2, fun u e => e, T.kit j 7 hj (by decide), by show 2 ≤ sizeLine; decide, fun m3 x3 => ⟨l2, m3, tell j 6, [V.bl (j == 6), V.bl (j == 7)], rfl, rfl, (same_upd x3) _ _ e2, upd_same, by show 8 ≤ sizeLine; decide, fun l3 n3 => ?_⟩⟩
    have s3 : Same H (upd (upd (upd (upd (upd (upd (upd H l0 (.lst (tell j 2))) m1 (.lst [V.bl (j == 2), V.bl (j == 3)])) l1 (.lst (tell j 4))) m2 (.lst [V.bl (j == 4), V.bl (j == 5)])) l2 (.lst (tell j 6))) m3 (.lst [V.bl (j == 6), V.bl (j == 7)])) l3 (.lst (tell j 8))) := (s2.trans (same_upd x3)).trans (same_upd n3)
    have e3 : (upd (upd (upd (upd (upd (upd (upd H l0 (.lst (tell j 2))) m1 (.lst [V.bl (j == 2), V.bl (j == 3)])) l1 (.lst (tell j 4))) m2 (.lst [V.bl (j == 4), V.bl (j == 5)])) l2 (.lst (tell j 6))) m3 (.lst [V.bl (j == 6), V.bl (j == 7)])) l3 (.lst (tell j 8))) l3 = some (.lst (tell j 8)) := upd_same
    refine ⟨_, rfl, _, rfl, C j, T.ex j hj, a, g, _, _, _, rfl, hE.same s3, fun u e => e, T.kit j 8 hj (by decide), _, rfl, C j, T.ex j hj, a, g, _, _, _, rfl, hE.same s3, fun u e => e, T.kit j 9 hj (by decide), by show 2 ≤ sizeLine; decide, fun m4 x4 => ⟨l3, m4, tell j 8, [V.bl (j == 8), V.bl (j == 9)], rfl, rfl, (same_upd x4) _ _ e3, upd_same, by show 10 ≤ sizeLine; decide, fun l4 n4 => ?_⟩⟩
    have s4 : Same H (upd (upd (upd (upd (upd (upd (upd (upd (upd H l0 (.lst (tell j 2))) m1 (.lst [V.bl (j == 2), V.bl (j == 3)])) l1 (.lst (tell j 4))) m2 (.lst [V.bl (j == 4), V.bl (j == 5)])) l2 (.lst (tell j 6))) m3 (.lst [V.bl (j == 6), V.bl (j == 7)])) l3 (.lst (tell j 8))) m4 (.lst [V.bl (j == 8), V.bl (j == 9)])) l4 (.lst (tell j 10))) := (s3.trans (same_upd x4)).trans (same_upd n4)
    have e4 : (upd (upd (upd (upd (upd (upd (upd (upd (upd H l0 (.lst (tell j 2))) m1 (.lst [V.bl (j == 2), V.bl (j == 3)])) l1 (.lst (tell j 4))) m2 (.lst [V.bl (j == 4), V.bl (j == 5)])) l2 (.lst (tell j 6))) m3 (.lst [V.bl (j == 6), V.bl (j == 7)])) l3 (.lst (tell j 8))) m4 (.lst [V.bl (j == 8), V.bl (j == 9)])) l4 (.lst (tell j 10))) l4 = some (.lst (tell j 10)) := upd_same
    refine ⟨_, rfl, _, rfl, C j, T.ex j hj, a, g, _, _, _, rfl, hE.same s4, fun u e => e, T.kit j 10 hj (by decide), _, rfl, C j, T.ex j hj, a, g, _, _, _, rfl, hE.same s4, fun u e => e, T.kit j 11 hj (by decide), by show 2 ≤ sizeLine; decide, fun m5 x5 => ⟨l4, m5, tell j 10, [V.bl (j == 10), V.bl (j == 11)], rfl, rfl, (same_upd x5) _ _ e4, upd_same, by show 12 ≤ sizeLine; decide, fun l5 n5 => ?_⟩⟩
    have s5 : Same H (upd (upd (upd (upd (upd (upd (upd (upd (upd (upd (upd H l0 (.lst (tell j 2))) m1 (.lst [V.bl (j == 2), V.bl (j == 3)])) l1 (.lst (tell j 4))) m2 (.lst [V.bl (j == 4), V.bl (j == 5)])) l2 (.lst (tell j 6))) m3 (.lst [V.bl (j == 6), V.bl (j == 7)])) l3 (.lst (tell j 8))) m4 (.lst [V.bl (j == 8), V.bl (j == 9)])) l4 (.lst (tell j 10))) m5 (.lst [V.bl (j == 10), V.bl (j == 11)])) l5 (.lst (tell j 12))) := (s4.trans (same_upd x5)).trans (same_upd n5)
    have e5 : (upd (upd (upd (upd (upd (upd (upd (upd (upd (upd (upd H l0 (.lst (tell j 2))) m1 (.lst [V.bl (j == 2), V.bl (j == 3)])) l1 (.lst (tell j 4))) m2 (.lst [V.bl (j == 4), V.bl (j == 5)])) l2 (.lst (tell j 6))) m3 (.lst [V.bl (j == 6), V.bl (j == 7)])) l3 (.lst (tell j 8))) m4 (.lst [V.bl (j == 8), V.bl (j == 9)])) l4 (.lst (tell j 10))) m5 (.lst [V.bl (j == 10), V.bl (j == 11)])) l5 (.lst (tell j 12))) l5 = some (.lst (tell j 12)) := upd_same
    refine ⟨_, rfl, _, rfl, C j, T.ex j hj, a, g, _, _, _, rfl, hE.same s5, fun u e => e, T.kit j 12 hj (by decide), _, rfl, C j, T.ex j hj, a, g, _, _, _, rfl, hE.same s5, fun u e => e, T.kit j 13 hj (by decide), by show 2 ≤ sizeLine; decide, fun m6 x6 => ⟨l5, m6, tell j 12, [V.bl (j == 12), V.bl (j == 13)], rfl, rfl, (same_upd x6) _ _ e5, upd_same, by show 14 ≤ sizeLine; decide, fun l6 n6 => ?_⟩⟩
    have s6 : Same H (upd (upd (upd (upd (upd (upd (upd (upd (upd (upd (upd (upd (upd H l0 (.lst (tell j 2))) m1 (.lst [V.bl (j == 2), V.bl (j == 3)])) l1 (.lst (tell j 4))) m2 (.lst [V.bl (j == 4), V.bl (j == 5)])) l2 (.lst (tell j 6))) m3 (.lst [V.bl (j == 6), V.bl (j == 7)])) l3 (.lst (tell j 8))) m4 (.lst [V.bl (j == 8), V.bl (j == 9)])) l4 (.lst (tell j 10))) m5 (.lst [V.bl (j == 10), V.bl (j == 11)])) l5 (.lst (tell j 12))) m6 (.lst [V.bl (j == 12), V.bl (j == 13)])) l6 (.lst (tell j 14))) := (s5.trans (same_upd x6)).trans (same_upd n6)
    have e6 : (upd (upd (upd (upd (upd (upd (upd (upd (upd (upd (upd (upd (upd H l0 (.lst (tell j 2))) m1 (.lst [V.bl (j == 2), V.bl (j == 3)])) l1 (.lst (tell j 4))) m2 (.lst [V.bl (j == 4), V.bl (j == 5)])) l2 (.lst (tell j 6))) m3 (.lst [V.bl (j == 6), V.bl (j == 7)])) l3 (.lst (tell j 8))) m4 (.lst [V.bl (j == 8), V.bl (j == 9)])) l4 (.lst (tell j 10))) m5 (.lst [V.bl (j == 10), V.bl (j == 11)])) l5 (.lst (tell j 12))) m6 (.lst [V.bl (j == 12), V.bl (j == 13)])) l6 (.lst (tell j 14))) l6 = some (.lst (tell j 14)) := upd_same
    refine ⟨_, rfl, by decide, by decide, fun D hD => ?_⟩
    refine lc_range (lo := 0) (n := 14) (fun i H' => Same H H' ∧ H' l6 = some (.lst (tell j 14)) ∧ H' D = some (.lst (if j < i then [V.int (j : Int)] else []))) ⟨s6.trans (same_upd hD), (same_upd hD) _ _ e6, upd_same⟩ ?_ ?_
    · rintro i H' hi ⟨s', e', d'⟩
      rw [Int.zero_add]
      refine ⟨rfl, _, rfl, _, rfl, l6, _, _, _, rfl, rfl, .inl (.inl e'), atI_nat (v := V.bl (j == i)) ?_, _, rfl, ?_⟩
      · show ((List.range 14).map fun i => V.bl (j == i))[i]? = some (V.bl (j == i))
        rw [List.getElem?_map, List.getElem?_range hi]
        rfl
      · have nD : H D = none := s6.free hD
        have ne := ne_of_none e6 hD
        refine iteB (fun h1 => ?_) (fun h1 => ?_)
        · have h1' : j = i := beq_iff_eq.mp h1
          subst h1'
          refine ⟨_, rfl, _, d', ?_, same_mut s' nD, (upd_ne ne).trans e', ?_⟩
          · rw [if_neg (Nat.lt_irrefl _)]
            exact by decide
          · rw [upd_same, if_neg (Nat.lt_irrefl _), if_pos (Nat.lt_succ_self _)]
            rfl
        · have h1' : ¬ j = i := fun z => by
            rw [z] at h1
            simp at h1
          refine ⟨s', e', ?_⟩
          rw [d']
          by_cases h2 : j < i
          · rw [if_pos h2, if_pos (by omega)]
          · rw [if_neg h2, if_neg (by omega)]
    · rintro H' ⟨s', e', d'⟩
      rw [if_pos hj] at d'
      exact q D H' s' d'
theorem ok_is {f : Addr} {fd : FuncData} (F : Fun K "_law_is" "_law_is" s_is f fd) (T : Txt K mg C CK) (C_kinds : Cal P w K mg base "_law_kinds" 1 (spKinds C)) : FnOk P w K mg base CX0 2 f fd ["_law_made", "_law_place"] (spIs C) := by
  refine F.ok sc_is (fun vs H Q E h => ?_) (fun cdv A outer s H vs Q E hr h => ?_)
  · obtain ⟨a, g, j, _, rfl, _⟩ := h
    rfl
  · obtain ⟨a, g, j, hj, rfl, hE, q⟩ := h
    refine ⟨_, (pss_cons (ps_if (PW.pt (pw_or (pt_not (pt_val (pe_callB call_isX (by rfl) T.m_isinstance (by decide +kernel) (pa_cons (pv 0) (pa_cons (pe_glob (v := .ref CK) (by rfl) T.gK rfl) pa_nil))))) (pw_or1 (pt_not (pt_val (pe_callB call_isX (by rfl) T.m_isinstance (by decide +kernel) (pa_cons (pv 0) (pa_cons (pe_bltn (v := .ty "ValueError") (by rfl) T.m_VE (by decide +kernel) rfl) pa_nil))))))))
        (pss_one (ps_ret pe_bl))
        pss_nil)
      (pss_one (ps_ret (pe_cmpR (op_eqD hr.units) (pe_cal C_kinds (hr.mono (by decide)) (by rfl) (pa_cons (pv 0) pa_nil)) (pe_lst (pa_cons (pv 1) pa_nil)) (nomark _))))), ?_⟩
    refine ⟨_, rfl, C j, T.ex j hj, a, g, _, _, _, rfl, hE, fun u e => e, T.kitK j hj, _, rfl, iteF ?_⟩
    refine ⟨_, rfl, C j, T.ex j hj, a, g, _, _, _, rfl, hE, fun u e => e, T.kitV j hj, _, rfl, iteF ?_⟩
    refine ⟨_, rfl, a, g, j, hj, rfl, hE, fun D H1 s1 d1 => ?_⟩
    refine ⟨_, rfl, by show 1 ≤ sizeLine; decide, fun l nl => ?_⟩
    have s2 : Same H1 (upd H1 l (.lst [V.int (j : Int)])) := same_upd nl
    refine ⟨.list [.int (j : Int)], .list [.int (j : Int)], .lst (.inl (.inl (s2 _ _ d1))) (.cons (.int _) .nil), .lst (.inl (.inl upd_same)) (.cons (.int _) .nil), rfl, rfl, ?_⟩
    have e : PyData.eqv (.list [.int (j : Int)]) (.list [.int (j : Int)]) = true := by simp [PyData.eqv, PyData.eqvAll]
    rw [e]
    exact q _ (s1.trans s2)
end
end Kx

namespace Kx
open PySem PySem.Spec PyProof.Rows L2 NdefX Kr Ke
mutual
theorem can_of : ∀ d : PyData, okD d = true → d.canLay0 = true
  | .str x, h => by
    have h' : x.cps.toList.all (fun c => decide (c < 1114112)) = true := by simpa only [okD] using h
    have h2 : x.cps.all (fun c => decide (c < 0x110000)) = true := by
      rw [← Array.all_toList]
      exact h'
    simpa [PyData.canLay0, PyData.strOk] using h2
  | .list ds, h => by
    have h' : okAll ds = true := by simpa only [okD] using h
    simpa [PyData.canLay0] using canAll_of ds h'
  | .tuple ds, h => by
    have h' : okAll ds = true := by simpa only [okD] using h
    simpa [PyData.canLay0] using canAll_of ds h'
  | .none, h => by simp [okD] at h
  | .bool _, h => by simp [okD] at h
  | .int _, h => by simp [okD] at h
  | .dict _, h => by simp [okD] at h
theorem canAll_of : ∀ ds : List PyData, okAll ds = true → PyData.canLayAll0 ds = true
  | [], _ => by simp [PyData.canLayAll0]
  | d :: ds, h => by
    have h' : (okD d && okAll ds) = true := by simpa only [okAll] using h
    obtain ⟨h1, h2⟩ := Bool.and_eq_true_iff.mp h'
    simp [PyData.canLayAll0, can_of d h1, canAll_of ds h2]
end
theorem shaped_of {d : PyData} (h : okD d = true) (hd : d.depth ≤ 10) : SeqAt.shaped d = true := Bool.and_eq_true_iff.mpr ⟨can_of d h, decide_eq_true (by omega)⟩
def FL : List (Nat × Str) := [(0, "step"), (1, "number"), (1, "line"), (2, "word"), (4, "lot"), (5, "value"), (6, "program"), (7, "program"), (8, "program"), (9, "programs"), (10, "step"), (10, "ring"), (11, "needed"), (12, "lot"), (12, "future")]
/-- a list's members as data -/
structure Gd (ds : List PyData) : Prop where
  ok : okAll ds = true
  cost : costAll ds ≤ 30000
  dep : PyData.depthAll ds ≤ 8
def LsD (K : PySem.W.Frag) (H : Hp) (p : Addr) (ds : List PyData) : Prop := ∃ xs, SqL K H p xs ∧ DpAll K H xs ds
theorem LsD.same {K : PySem.W.Frag} {H H' : Hp} {p : Addr} {ds : List PyData} (h : LsD K H p ds) (s : Same H H') : LsD K H' p ds := let ⟨xs, a, b⟩ := h; ⟨xs, s.seq a, dpAll_same s ds _ b⟩
theorem LsD.dp {K : PySem.W.Frag} {H : Hp} {p : Addr} {ds : List PyData} (h : LsD K H p ds) : Dp K H (.ref p) (.list ds) := let ⟨_, a, b⟩ := h; .lst a b
theorem Gd.d {ds : List PyData} (g : Gd ds) : okD (.list ds) = true ∧ costD (.list ds) ≤ 40000 ∧ (PyData.list ds).depth ≤ 10 := by
  refine ⟨by simpa only [okD] using g.ok, ?_, ?_⟩
  · have := g.cost
    simp only [costD]
    omega
  · have := g.dep
    simp only [PyData.depth]
    omega
theorem LsD.sh {K : PySem.W.Frag} {H : Hp} {p : Addr} {ds : List PyData} (h : LsD K H p ds) (g : Gd ds) : ShD K H (.ref p) := ⟨_, h.dp, g.d⟩
/-- a copy -/
theorem LsD.copy {K : PySem.W.Frag} {H : Hp} {l : Addr} {xs : List V} {ds : List PyData} (h : DpAll K H xs ds) (n : H l = none) : LsD K (upd H l (.lst xs)) l ds := ⟨xs, .inl (.inl upd_same), dpAll_same (same_upd n) ds _ h⟩
theorem list_self {ds : List PyData} (g : Gd ds) : PyData.eqv (.list ds) (.list ds) = true := eqv_self _ g.d.1
theorem cD_of {K : PySem.W.Frag} {H : Hp} {x : V} (h : ShD K H x) : ∀ H', Same H H' → cD K [x] H' := fun H' s => ⟨x, rfl, h.same s⟩
theorem cI_of {n : Nat} {H : Hp} (h : n < 100) : ∀ H', Same H H' → cI [V.int (n : Int)] H' := fun H' _ => ⟨n, h, rfl⟩
theorem cID_of {K : PySem.W.Frag} {H : Hp} {n : Nat} {x : V} (hn : n < 100) (h : ShD K H x) : ∀ H', Same H H' → cID K [V.int (n : Int), x] H' := fun H' s => ⟨n, x, hn, rfl, h.same s⟩
theorem cDD_of {K : PySem.W.Frag} {H : Hp} {x y : V} (h : ShD K H x) (h' : ShD K H y) : ∀ H', Same H H' → cDD K [x, y] H' := fun H' s => ⟨x, y, rfl, h.same s, h'.same s⟩
abbrev s_of_steps : Stmt := topS 21
abbrev N_of_steps : List Str := ["_law_step", "_law_number", "_law_line", "_law_names", "_law_made"]
theorem sc_of_steps : FnScope N_of_steps ["_law_step", "_law_number", "_law_line", "_law_names"] (defScope s_of_steps) := ⟨rfl, rfl, rfl, by decide +kernel, rfl, by decide +kernel, by decide +kernel⟩
abbrev s_of_lots : Stmt := topS 22
abbrev N_of_lots : List Str := ["_law_steps", "_law_number", "_law_names", "_law_made"]
theorem sc_of_lots : FnScope N_of_lots ["_law_steps", "_law_number", "_law_names"] (defScope s_of_lots) := ⟨rfl, rfl, rfl, by decide +kernel, rfl, by decide +kernel, by decide +kernel⟩
abbrev s_of_names : Stmt := topS 23
abbrev N_of_names : List Str := ["_law_word", "_law_name", "_law_made"]
theorem sc_of_names : FnScope N_of_names ["_law_word", "_law_name"] (defScope s_of_names) := ⟨rfl, rfl, rfl, by decide +kernel, rfl, by decide +kernel, by decide +kernel⟩
def spSteps (K : PySem.W.Frag) : Sp := fun vs H Q _ => ∃ (x : V) (n : Nat) (z : Str) (p : Addr) (ds : List PyData), vs = [x, .int (n : Int), .str z, .ref p] ∧ ShD K H x ∧ n < 100 ∧ Sht z 500 ∧ LsD K H p ds ∧ Gd ds ∧ ∀ H', Same H H' → Q (.bl true) H'
def spLots (K : PySem.W.Frag) : Sp := fun vs H Q _ => ∃ (t : Addr) (n : Nat) (p : Addr) (es ds : List PyData), vs = [.ref t, .int (n : Int), .ref p] ∧ LsD K H t es ∧ Gd es ∧ n < 100 ∧ LsD K H p ds ∧ Gd ds ∧ ∀ H', Same H H' → Q (.bl true) H'
def spNames : Sp := fun vs H Q _ => ∃ y z : Str, vs = [.str y, .str z] ∧ Sht y 500 ∧ Sht z 500 ∧ ∀ H', Same H H' → Q (.bl true) H'
section
variable {P : Program} {w : World} {K : PySem.W.Frag} {mg : Str → Option Value} {base : Heap} {C : Nat → Addr} {CK : Addr}
theorem ok_of_steps {f : Addr} {fd : FuncData} (F : Fun K "_law_of_steps" "_law_of_steps" s_of_steps f fd) (T : Txt K mg C CK) (NF : ∀ j f, (j, f) ∈ FL → PySem.W.findIn K (.ref (C j)) f = some none) (M0 : MkE P w K mg base "InvalidStep" (C 0) 1 ["self", "step"] (cD K) g_InvalidStep) (M1 : MkE P w K mg base "InvalidLine" (C 1) 1 ["self", "number", "line"] (cID K) g_InvalidLine) (M9 : MkE P w K mg base "Ring" (C 9) 1 ["self", "programs"] (cD K) g_Ring) (M10 : MkE P w K mg base "Refused" (C 10) 1 ["self", "step", "ring"] (cDD K) g_Refused) (C_is : Cal P w K mg base "_law_is" 2 (spIs C)) :
    FnOk P w K mg base CX0 3 f fd ["_law_step", "_law_number", "_law_line", "_law_names"] (spSteps K) := by
  refine F.ok sc_of_steps (fun vs H Q E h => ?_) (fun cdv A outer s H vs Q E hr h => ?_)
  · obtain ⟨x, n, z, p, ds, rfl, _⟩ := h
    rfl
  · obtain ⟨x, n, z, p, ds, rfl, hx, hn, hz, hp, hg, q⟩ := h
    refine ⟨_, (pss_cons (ps_set (i := 4) sc_of_steps.nd rfl (Or.inl rfl) (pe_err M0 (hr.mono (by decide)) (by rfl) (pa_cons (pv 0) pa_nil)))
      (pss_cons (ps_if (PW.pt (pw_or (pt_not (pt_val (pe_cal C_is (hr.mono (by decide)) (by rfl) (pa_cons (pv 4) (pa_cons pe_int pa_nil))))) (pw_or1 (pt_cmpR (op_neD hr.units) (pe_ef (pv 4)) (pv 0) (nomark _))))) (pss_one (ps_ret pe_bl)) pss_nil)
      (pss_cons (ps_set (i := 4) sc_of_steps.nd rfl (Or.inl rfl) (pe_err M1 (hr.mono (by decide)) (by rfl) (pa_cons (pv 1) (pa_cons (pv 2) pa_nil))))
      (pss_cons (ps_if (PW.pt (pw_or (pt_not (pt_val (pe_cal C_is (hr.mono (by decide)) (by rfl) (pa_cons (pv 4) (pa_cons pe_int pa_nil))))) (pw_or (pt_cmpR op_ne (pe_ef (pv 4)) (pv 1) (nomark _)) (pw_or1 (pt_cmpR op_ne (pe_ef (pv 4)) (pv 2) (nomark _)))))) (pss_one (ps_ret pe_bl)) pss_nil)
      (pss_cons (ps_set (i := 4) sc_of_steps.nd rfl (Or.inl rfl) (pe_err M9 (hr.mono (by decide)) (by rfl) (pa_cons (pe_callTy call_list_of (by rfl) T.m_list (by decide +kernel) (pa_cons (pv 3) pa_nil)) pa_nil)))
      (pss_cons (ps_if (PW.pt (pw_or (pt_not (pt_val (pe_cal C_is (hr.mono (by decide)) (by rfl) (pa_cons (pv 4) (pa_cons pe_int pa_nil))))) (pw_or1 (pt_cmpR (op_neD hr.units) (pe_ef (pv 4)) (pv 3) (nomark _))))) (pss_one (ps_ret pe_bl)) pss_nil)
      (pss_cons (ps_set (i := 4) sc_of_steps.nd rfl (Or.inl rfl) (pe_err M10 (hr.mono (by decide)) (by rfl) (pa_cons (pv 0) (pa_cons (pe_callTy call_list_of (by rfl) T.m_list (by decide +kernel) (pa_cons (pv 3) pa_nil)) pa_nil))))
      (pss_one (ps_ret (pe_and (pe_cal C_is (hr.mono (by decide)) (by rfl) (pa_cons (pv 4) (pa_cons pe_int pa_nil))) (pe_and (pe_cmpR (op_eqD hr.units) (pe_ef (pv 4)) (pv 0) (nomark _)) (pe_one (pe_cmpR (op_eqD hr.units) (pe_ef (pv 4)) (pv 3) (nomark _)))))))))))))), ?_⟩
    have hzs : ShD K H (.str z) := shd_str hz (by decide)
    obtain ⟨d, hd, od, zd, pd⟩ := id hx
    have sd := shaped_of od pd
    have sl := shaped_of hg.d.1 hg.d.2.2
    refine ⟨_, rfl, by show 1 ≤ 1000; decide, cD_of hx, fun a1 H1 s1 e1 => ?_⟩
    refine ⟨_, rfl, a1, _, 0, by decide, rfl, e1, fun H2 s2 => ⟨_, rfl, iteF ?_⟩⟩
    have u2 := s1.trans s2
    refine ⟨_, rfl, a1, C 0, _, x, rfl, e1.same s2, T.xf 0 (by decide), NF 0 "step" (by decide +kernel), rfl, _, rfl, d, d, dp_same u2 d _ hd, dp_same u2 d _ hd, sd, sd, _, rfl, ?_⟩
    rw [eqv_self d od]
    refine iteF ?_
    -- a line
    refine ⟨_, rfl, _, rfl, by show 2 ≤ 1000; decide, cID_of hn (hzs.same u2), fun a3 H3 s3 e3 => ?_⟩
    have u3 := u2.trans s3
    refine ⟨_, rfl, a3, _, 1, by decide, rfl, e3, fun H4 s4 => ⟨_, rfl, iteF ?_⟩⟩
    have u4 := u3.trans s4
    refine ⟨_, rfl, a3, C 1, _, V.int (n : Int), rfl, e3.same s4, T.xf 1 (by decide), NF 1 "number" (by decide +kernel), rfl, _, rfl, rfl, _, rfl, iteNS rfl ?_⟩
    refine ⟨_, rfl, a3, C 1, _, V.str z, rfl, e3.same s4, T.xf 1 (by decide), NF 1 "line" (by decide +kernel), rfl, _, rfl, rfl, _, rfl, iteNS rfl ?_⟩
    obtain ⟨xs, hS, hA⟩ := id hp
    refine ⟨_, rfl, p, xs, rfl, .inl (u4.seq hS), fun l nl => ?_⟩
    have cl := LsD.copy (dpAll_same u4 ds _ hA) nl
    refine ⟨by show 1 ≤ 1000; decide, cD_of (cl.sh hg), fun a5 H5 s5 e5 => ?_⟩
    have u5 := (u4.trans (same_upd nl)).trans s5
    refine ⟨_, rfl, a5, _, 9, by decide, rfl, e5, fun H6 s6 => ⟨_, rfl, iteF ?_⟩⟩
    have u6 := u5.trans s6
    refine ⟨_, rfl, a5, C 9, _, V.ref l, rfl, e5.same s6, T.xf 9 (by decide), NF 9 "programs" (by decide +kernel), rfl, _, rfl, .list ds, .list ds, ((cl.same s5).same s6).dp, (hp.same u6).dp, sl, sl, _, rfl, ?_⟩
    rw [list_self hg]
    refine iteF ?_
    refine ⟨_, rfl, _, rfl, p, xs, rfl, .inl (u6.seq hS), fun l2 nl2 => ?_⟩
    have cl2 := LsD.copy (dpAll_same u6 ds _ hA) nl2
    have u6' := u6.trans (same_upd (o := .lst xs) nl2)
    refine ⟨by show 2 ≤ 1000; decide, cDD_of (hx.same u6') (cl2.sh hg), fun a7 H7 s7 e7 => ?_⟩
    have u7 := u6'.trans s7
    refine ⟨_, rfl, a7, _, 10, by decide, rfl, e7, fun H8 s8 => ⟨_, rfl, ?_⟩⟩
    have u8 := u7.trans s8
    rw [if_pos rfl]
    refine ⟨_, rfl, a7, C 10, _, x, rfl, e7.same s8, T.xf 10 (by decide), NF 10 "step" (by decide +kernel), rfl, _, rfl, d, d, dp_same u8 d _ hd, dp_same u8 d _ hd, sd, sd, _, rfl, ?_⟩
    rw [eqv_self d od, if_pos rfl]
    refine ⟨_, rfl, a7, C 10, _, V.ref l2, rfl, e7.same s8, T.xf 10 (by decide), NF 10 "ring" (by decide +kernel), rfl, _, rfl, .list ds, .list ds, ((cl2.same s7).same s8).dp, (hp.same u8).dp, sl, sl, ?_⟩
    rw [list_self hg]
    exact q _ u8
theorem ok_of_lots {f : Addr} {fd : FuncData} (F : Fun K "_law_of_lots" "_law_of_lots" s_of_lots f fd) (T : Txt K mg C CK) (NF : ∀ j f, (j, f) ∈ FL → PySem.W.findIn K (.ref (C j)) f = some none) (M4 : MkE P w K mg base "InvalidLot" (C 4) 1 ["self", "lot"] (cD K) g_InvalidLot) (M5 : MkE P w K mg base "InvalidLimit" (C 5) 1 ["self", "value"] cI g_InvalidLimit) (M11 : MkE P w K mg base "Full" (C 11) 1 ["self", "needed"] cI g_Full) (M12 : MkE P w K mg base "Needed" (C 12) 1 ["self", "lot", "future"] (cDD K) g_Needed) (C_is : Cal P w K mg base "_law_is" 2 (spIs C)) :
    FnOk P w K mg base CX0 3 f fd ["_law_steps", "_law_number", "_law_names"] (spLots K) := by
  refine F.ok sc_of_lots (fun vs H Q E h => ?_) (fun cdv A outer s H vs Q E hr h => ?_)
  · obtain ⟨t, n, p, es, ds, rfl, _⟩ := h
    rfl
  · obtain ⟨t, n, p, es, ds, rfl, ht, hge, hn, hp, hg, q⟩ := h
    refine ⟨_, (pss_cons (ps_set (i := 3) sc_of_lots.nd rfl (Or.inl rfl) (pe_err M4 (hr.mono (by decide)) (by rfl) (pa_cons (pe_callTy call_list_of (by rfl) T.m_list (by decide +kernel) (pa_cons (pv 2) pa_nil)) pa_nil)))
      (pss_cons (ps_if (PW.pt (pw_or (pt_not (pt_val (pe_cal C_is (hr.mono (by decide)) (by rfl) (pa_cons (pv 3) (pa_cons pe_int pa_nil))))) (pw_or1 (pt_cmpR (op_neD hr.units) (pe_ef (pv 3)) (pv 2) (nomark _))))) (pss_one (ps_ret pe_bl)) pss_nil)
      (pss_cons (ps_set (i := 3) sc_of_lots.nd rfl (Or.inl rfl) (pe_err M5 (hr.mono (by decide)) (by rfl) (pa_cons (pv 1) pa_nil)))
      (pss_cons (ps_if (PW.pt (pw_or (pt_not (pt_val (pe_cal C_is (hr.mono (by decide)) (by rfl) (pa_cons (pv 3) (pa_cons pe_int pa_nil))))) (pw_or1 (pt_cmpR op_ne (pe_ef (pv 3)) (pv 1) (nomark _))))) (pss_one (ps_ret pe_bl)) pss_nil)
      (pss_cons (ps_set (i := 3) sc_of_lots.nd rfl (Or.inl rfl) (pe_err M11 (hr.mono (by decide)) (by rfl) (pa_cons (pv 1) pa_nil)))
      (pss_cons (ps_if (PW.pt (pw_or (pt_not (pt_val (pe_cal C_is (hr.mono (by decide)) (by rfl) (pa_cons (pv 3) (pa_cons pe_int pa_nil))))) (pw_or1 (pt_cmpR op_ne (pe_ef (pv 3)) (pv 1) (nomark _))))) (pss_one (ps_ret pe_bl)) pss_nil)
      (pss_cons (ps_set (i := 3) sc_of_lots.nd rfl (Or.inl rfl) (pe_err M12 (hr.mono (by decide)) (by rfl) (pa_cons (pe_callTy call_list_of (by rfl) T.m_list (by decide +kernel) (pa_cons (pv 2) pa_nil)) (pa_cons (pe_callTy call_list_of (by rfl) T.m_list (by decide +kernel) (pa_cons (pv 0) pa_nil)) pa_nil))))
      (pss_one (ps_ret (pe_and (pe_cal C_is (hr.mono (by decide)) (by rfl) (pa_cons (pv 3) (pa_cons pe_int pa_nil))) (pe_and (pe_cmpR (op_eqD hr.units) (pe_ef (pv 3)) (pv 2) (nomark _)) (pe_one (pe_cmpR (op_eqD hr.units) (pe_ef (pv 3)) (pv 0) (nomark _)))))))))))))), ?_⟩
    have sl := shaped_of hg.d.1 hg.d.2.2
    have se := shaped_of hge.d.1 hge.d.2.2
    obtain ⟨xs, hS, hA⟩ := id hp
    obtain ⟨ys, hT, hB⟩ := id ht
    refine ⟨_, rfl, p, xs, rfl, .inl hS, fun l nl => ?_⟩
    have cl := LsD.copy hA nl
    refine ⟨by show 1 ≤ 1000; decide, cD_of (cl.sh hg), fun a1 H1 s1 e1 => ?_⟩
    have u1 := (same_upd (o := .lst xs) nl).trans s1
    refine ⟨_, rfl, a1, _, 4, by decide, rfl, e1, fun H2 s2 => ⟨_, rfl, iteF ?_⟩⟩
    have u2 := u1.trans s2
    refine ⟨_, rfl, a1, C 4, _, V.ref l, rfl, e1.same s2, T.xf 4 (by decide), NF 4 "lot" (by decide +kernel), rfl, _, rfl, .list ds, .list ds, ((cl.same s1).same s2).dp, (hp.same u2).dp, sl, sl, _, rfl, ?_⟩
    rw [list_self hg]
    refine iteF ?_
    refine ⟨_, rfl, by show 1 ≤ 1000; decide, cI_of hn, fun a3 H3 s3 e3 => ?_⟩
    refine ⟨_, rfl, a3, _, 5, by decide, rfl, e3, fun H4 s4 => ⟨_, rfl, iteF ?_⟩⟩
    refine ⟨_, rfl, a3, C 5, _, V.int (n : Int), rfl, e3.same s4, T.xf 5 (by decide), NF 5 "value" (by decide +kernel), rfl, _, rfl, rfl, _, rfl, iteNS rfl ?_⟩
    refine ⟨_, rfl, by show 1 ≤ 1000; decide, cI_of hn, fun a5 H5 s5 e5 => ?_⟩
    refine ⟨_, rfl, a5, _, 11, by decide, rfl, e5, fun H6 s6 => ⟨_, rfl, iteF ?_⟩⟩
    refine ⟨_, rfl, a5, C 11, _, V.int (n : Int), rfl, e5.same s6, T.xf 11 (by decide), NF 11 "needed" (by decide +kernel), rfl, _, rfl, rfl, _, rfl, iteNS rfl ?_⟩
    have u6 := (((u2.trans s3).trans s4).trans s5).trans s6
    refine ⟨_, rfl, p, xs, rfl, .inl (u6.seq hS), fun l2 nl2 => ?_⟩
    have cl2 := LsD.copy (dpAll_same u6 ds _ hA) nl2
    have u7 := u6.trans (same_upd (o := .lst xs) nl2)
    refine ⟨_, rfl, t, ys, rfl, .inl (u7.seq hT), fun l3 nl3 => ?_⟩
    have cl3 := LsD.copy (dpAll_same u7 es _ hB) nl3
    have s3' := same_upd (o := .lst ys) nl3
    have u8 := u7.trans s3'
    refine ⟨by show 2 ≤ 1000; decide, cDD_of ((cl2.same s3').sh hg) (cl3.sh hge), fun a9 H9 s9 e9 => ?_⟩
    have u9 := u8.trans s9
    refine ⟨_, rfl, a9, _, 12, by decide, rfl, e9, fun H10 s10 => ⟨_, rfl, ?_⟩⟩
    have u10 := u9.trans s10
    rw [if_pos rfl]
    refine ⟨_, rfl, a9, C 12, _, V.ref l2, rfl, e9.same s10, T.xf 12 (by decide), NF 12 "lot" (by decide +kernel), rfl, _, rfl, .list ds, .list ds, (((cl2.same s3').same s9).same s10).dp, (hp.same u10).dp, sl, sl, _, rfl, ?_⟩
    rw [list_self hg, if_pos rfl]
    refine ⟨_, rfl, a9, C 12, _, V.ref l3, rfl, e9.same s10, T.xf 12 (by decide), NF 12 "future" (by decide +kernel), rfl, _, rfl, .list es, .list es, ((cl3.same s9).same s10).dp, (ht.same u10).dp, se, se, ?_⟩
    rw [list_self hge]
    exact q _ u10
theorem ok_of_names {f : Addr} {fd : FuncData} (F : Fun K "_law_of_names" "_law_of_names" s_of_names f fd) (T : Txt K mg C CK) (NF : ∀ j f, (j, f) ∈ FL → PySem.W.findIn K (.ref (C j)) f = some none) (M2 : MkE P w K mg base "InvalidMark" (C 2) 1 ["self", "word"] (cD K) g_InvalidMark) (M6 : MkE P w K mg base "Taken" (C 6) 1 ["self", "program"] (cD K) g_Taken) (M7 : MkE P w K mg base "NotRunning" (C 7) 1 ["self", "program"] (cD K) g_NotRunning) (M8 : MkE P w K mg base "NotHeld" (C 8) 1 ["self", "program"] (cD K) g_NotHeld) (C_is : Cal P w K mg base "_law_is" 2 (spIs C)) :
    FnOk P w K mg base CX0 3 f fd ["_law_word", "_law_name"] spNames := by
  refine F.ok sc_of_names (fun vs H Q E h => ?_) (fun cdv A outer s H vs Q E hr h => ?_)
  · obtain ⟨y, z, rfl, _⟩ := h
    rfl
  · obtain ⟨y, z, rfl, hy, hz, q⟩ := h
    refine ⟨_, (pss_cons (ps_set (i := 2) sc_of_names.nd rfl (Or.inl rfl) (pe_err M2 (hr.mono (by decide)) (by rfl) (pa_cons (pv 0) pa_nil)))
      (pss_cons (ps_if (PW.pt (pw_or (pt_not (pt_val (pe_cal C_is (hr.mono (by decide)) (by rfl) (pa_cons (pv 2) (pa_cons pe_int pa_nil))))) (pw_or1 (pt_cmpR op_ne (pe_ef (pv 2)) (pv 0) (nomark _))))) (pss_one (ps_ret pe_bl)) pss_nil)
      (pss_cons (ps_set (i := 2) sc_of_names.nd rfl (Or.inl rfl) (pe_err M6 (hr.mono (by decide)) (by rfl) (pa_cons (pv 1) pa_nil)))
      (pss_cons (ps_if (PW.pt (pw_or (pt_not (pt_val (pe_cal C_is (hr.mono (by decide)) (by rfl) (pa_cons (pv 2) (pa_cons pe_int pa_nil))))) (pw_or1 (pt_cmpR op_ne (pe_ef (pv 2)) (pv 1) (nomark _))))) (pss_one (ps_ret pe_bl)) pss_nil)
      (pss_cons (ps_set (i := 2) sc_of_names.nd rfl (Or.inl rfl) (pe_err M7 (hr.mono (by decide)) (by rfl) (pa_cons (pv 1) pa_nil)))
      (pss_cons (ps_if (PW.pt (pw_or (pt_not (pt_val (pe_cal C_is (hr.mono (by decide)) (by rfl) (pa_cons (pv 2) (pa_cons pe_int pa_nil))))) (pw_or1 (pt_cmpR op_ne (pe_ef (pv 2)) (pv 1) (nomark _))))) (pss_one (ps_ret pe_bl)) pss_nil)
      (pss_cons (ps_set (i := 2) sc_of_names.nd rfl (Or.inl rfl) (pe_err M8 (hr.mono (by decide)) (by rfl) (pa_cons (pv 1) pa_nil)))
      (pss_one (ps_ret (pe_and (pe_cal C_is (hr.mono (by decide)) (by rfl) (pa_cons (pv 2) (pa_cons pe_int pa_nil))) (pe_one (pe_cmpR op_eq (pe_ef (pv 2)) (pv 1) (nomark _))))))))))))), ?_⟩
    have hys : ∀ H', ShD K H' (.str y) := fun H' => shd_str hy (by decide)
    have hzs : ∀ H', ShD K H' (.str z) := fun H' => shd_str hz (by decide)
    refine ⟨_, rfl, by show 1 ≤ 1000; decide, cD_of (hys _), fun a1 H1 s1 e1 => ?_⟩
    refine ⟨_, rfl, a1, _, 2, by decide, rfl, e1, fun H2 s2 => ⟨_, rfl, iteF ?_⟩⟩
    refine ⟨_, rfl, a1, C 2, _, V.str y, rfl, e1.same s2, T.xf 2 (by decide), NF 2 "word" (by decide +kernel), rfl, _, rfl, rfl, _, rfl, iteNS rfl ?_⟩
    refine ⟨_, rfl, by show 1 ≤ 1000; decide, cD_of (hzs _), fun a3 H3 s3 e3 => ?_⟩
    refine ⟨_, rfl, a3, _, 6, by decide, rfl, e3, fun H4 s4 => ⟨_, rfl, iteF ?_⟩⟩
    refine ⟨_, rfl, a3, C 6, _, V.str z, rfl, e3.same s4, T.xf 6 (by decide), NF 6 "program" (by decide +kernel), rfl, _, rfl, rfl, _, rfl, iteNS rfl ?_⟩
    refine ⟨_, rfl, by show 1 ≤ 1000; decide, cD_of (hzs _), fun a5 H5 s5 e5 => ?_⟩
    refine ⟨_, rfl, a5, _, 7, by decide, rfl, e5, fun H6 s6 => ⟨_, rfl, iteF ?_⟩⟩
    refine ⟨_, rfl, a5, C 7, _, V.str z, rfl, e5.same s6, T.xf 7 (by decide), NF 7 "program" (by decide +kernel), rfl, _, rfl, rfl, _, rfl, iteNS rfl ?_⟩
    refine ⟨_, rfl, by show 1 ≤ 1000; decide, cD_of (hzs _), fun a7 H7 s7 e7 => ?_⟩
    refine ⟨_, rfl, a7, _, 8, by decide, rfl, e7, fun H8 s8 => ⟨_, rfl, ?_⟩⟩
    rw [if_pos rfl]
    refine ⟨_, rfl, a7, C 8, _, V.str z, rfl, e7.same s8, T.xf 8 (by decide), NF 8 "program" (by decide +kernel), rfl, _, rfl, rfl, ?_⟩
    rw [decide_eq_true rfl]
    exact q _ (((((((s1.trans s2).trans s3).trans s4).trans s5).trans s6).trans s7).trans s8)
end
end Kx

namespace Kx
open PySem PySem.Spec PyProof.Rows L2 NdefX Kr Ke
abbrev s_law : Stmt := topS 24
abbrev N_law : List Str := ["_law_script", "_law_pool", "_law_style", "_law_names", "_law_name", "_law_step", "_law_line", "_law_number", "_law_k"]
theorem sc_law : FnScope N_law ["_law_script"] (defScope s_law) := ⟨rfl, rfl, rfl, by decide +kernel, rfl, by decide +kernel, by decide +kernel⟩
def spLaw (K : PySem.W.Frag) : Sp := fun vs H Q _ => ∃ (a : Addr) (ns : List Int), vs = [.ref a] ∧ SqL K H a (ns.map V.int) ∧ ns.length ≤ 63 ∧ ∀ H', Q (.bl true) H'
theorem strs_dp {K : PySem.W.Frag} {H : Hp} : ∀ zs : List Str, DpAll K H (zs.map V.str) (zs.map PyData.str)
  | [] => .nil
  | z :: zs => .cons (.str z) (strs_dp zs)
theorem strs_ok : ∀ zs : List Str, (∀ z ∈ zs, Sht z 200) → okAll (zs.map PyData.str) = true ∧ costAll (zs.map PyData.str) ≤ 2004 * zs.length ∧ PyData.depthAll (zs.map PyData.str) = 0
  | [], _ => ⟨by simp [okAll], by simp [costAll], by simp [PyData.depthAll]⟩
  | z :: zs, h => by
    obtain ⟨h1, h2, h3⟩ := strs_ok zs fun y hy => h y (List.mem_cons_of_mem _ hy)
    have hz := h z List.mem_cons_self
    have h4 := hz.1
    refine ⟨?_, ?_, ?_⟩
    · rw [List.map_cons]
      simp only [okAll, hz.ok, h1, Bool.and_self]
    · rw [List.map_cons, List.length_cons]
      simp only [costAll, costD]
      omega
    · rw [List.map_cons]
      simp only [PyData.depthAll, PyData.depth, h3]
      decide
theorem strs_gd {zs : List Str} (h : ∀ z ∈ zs, Sht z 200) (hl : zs.length ≤ 8) : Gd (zs.map PyData.str) := by
  obtain ⟨h1, h2, h3⟩ := strs_ok zs h
  exact ⟨h1, by omega, by omega⟩
def wClose : Str := "close"
def wQuit : Str := "quit"
def wOpen : Str := "open "
theorem sclose : Sht wClose 10 := ⟨by decide +kernel, by decide +kernel⟩
theorem squit : Sht wQuit 10 := ⟨by decide +kernel, by decide +kernel⟩
theorem sopen : Sht wOpen 10 := ⟨by decide +kernel, by decide +kernel⟩
/-- the step -/
def stD (z : Str) (zs : List Str) : PyData := .tuple [.str wClose, .str z, .tuple (zs.map PyData.str)]
theorem st_ok {z : Str} {zs : List Str} (hz : Sht z 200) (h : ∀ z ∈ zs, Sht z 200) (hl : zs.length ≤ 8) : okD (stD z zs) = true ∧ costD (stD z zs) ≤ 20000 ∧ (stD z zs).depth ≤ 2 := by
  obtain ⟨h1, h2, h3⟩ := strs_ok zs h
  have h4 := hz.1
  have h5 := sclose.1
  have o1 := hz.ok
  have o2 := sclose.ok
  refine ⟨?_, ?_, ?_⟩
  · simp only [okD] at o1 o2
    simp only [stD, okD, okAll, o1, o2, h1, Bool.and_self]
  · simp only [stD, costD, costAll]
    omega
  · simp only [stD, PyData.depth, PyData.depthAll, h3]
    decide
theorem es_gd {z : Str} {zs : List Str} (hz : Sht z 200) (h : ∀ z ∈ zs, Sht z 200) (hl : zs.length ≤ 8) : Gd [.tuple [.str wQuit, .str z], stD z zs] := by
  obtain ⟨h1, h2, h3⟩ := st_ok hz h hl
  have h4 := hz.1
  have h5 := squit.1
  have o1 := hz.ok
  have o2 := squit.ok
  refine ⟨?_, ?_, ?_⟩
  · simp only [okD] at o1 o2
    simp only [okAll, okD, o1, o2, h1, Bool.and_self]
  · simp only [costAll, costD]
    omega
  · simp only [PyData.depthAll, PyData.depth]
    omega
section
variable {P : Program} {w : World} {K : PySem.W.Frag} {mg : Str → Option Value} {base : Heap} {C : Nat → Addr} {CK : Addr}
theorem ok_law {f : Addr} {fd : FuncData} (F : Fun K "law" "law" s_law f fd) (T : Txt K mg C CK) (C_draws_of : Cal P w K mg base "_law_draws_of" 1 (spDraws K)) (C_named : Cal P w K mg base "_law_named" 1 spNamed)
    (C_of_steps : Cal P w K mg base "_law_of_steps" 3 (spSteps K)) (C_of_lots : Cal P w K mg base "_law_of_lots" 3 (spLots K)) (C_of_names : Cal P w K mg base "_law_of_names" 3 spNames) (C_is : Cal P w K mg base "_law_is" 2 (spIs C))
    (M3 : MkE P w K mg base "InvalidMemory" (C 3) 1 ["self"] c0 g_InvalidMemory) (M13 : MkE P w K mg base "Unlike" (C 13) 1 ["self"] c0 g_Unlike) : FnOk P w K mg base CX0 4 f fd ["_law_script"] (spLaw K) := by
  refine F.ok sc_law (fun vs H Q E h => ?_) (fun cdv A outer s H vs Q E hr h => ?_)
  · obtain ⟨a, ns, rfl, _⟩ := h
    rfl
  · obtain ⟨a, ns, rfl, hS, hlen, q⟩ := h
    refine ⟨_, (pss_cons (ps_set (i := 1) sc_law.nd rfl (Or.inl rfl) (pe_cal C_draws_of (hr.mono (by decide)) (by rfl) (pa_cons (pv 0) pa_nil)))
      (pss_cons (ps_set (i := 2) sc_law.nd rfl (Or.inr rfl) (pe_op op_fdiv (pe_callTy call_int1 (by rfl) T.m_int (by decide +kernel) (pa_cons (pe_ix ix_list (pv 1) pe_int (fun _ _ => rfl)) pa_nil)) pe_int))
      (pss_cons (ps_setLc (i := 3) (own := [("_law_k", 8)]) (g := gName 8) (tt := tYes) rfl sc_law.nd rfl rfl (sw_true rfl rfl rfl (by decide +kernel)) (pi_range1 (by rfl) T.m_range (pa_cons (pe_op op_mod (pe_callTy call_int1 (by rfl) T.m_int (by decide +kernel) (pa_cons (pe_ix ix_list (pv 1) pe_int (fun _ _ => rfl)) pa_nil)) pe_int) pa_nil)) (blkOk_by (own := [("_law_k", 8)]) (N := N_law) (sc := defScope s_law) (by decide +kernel)) (fun _ _ _ _ _ => pg_name (i := 8) sc_law.nd rfl (Or.inl rfl)) (fun _ _ _ _ _ => pts_nil) (fun _ _ _ _ _ => (pe_cal C_named (hr.mono (by decide)) (by rfl) (pa_cons (pv 8) (pa_cons (pv 2) pa_nil)))))
      (pss_cons (ps_set (i := 4) sc_law.nd rfl (Or.inl rfl) (pe_cal C_named (hr.mono (by decide)) (by rfl) (pa_cons pe_int (pa_cons (pv 2) pa_nil))))
      (pss_cons (ps_set (i := 5) sc_law.nd rfl (Or.inl rfl) (pe_tup (pa_cons pe_str (pa_cons (pv 4) (pa_cons (pe_callTy call_tuple_of (by rfl) T.m_tuple (by decide +kernel) (pa_cons (pv 3) pa_nil)) pa_nil)))))
      (pss_cons (ps_set (i := 6) sc_law.nd rfl (Or.inl rfl) (pe_op op_add_str pe_str (pv 4)))
      (pss_cons (ps_set (i := 7) sc_law.nd rfl (Or.inl rfl) (pe_op op_mod (pe_callTy call_int1 (by rfl) T.m_int (by decide +kernel) (pa_cons (pe_ix ix_list (pv 1) pe_int (fun _ _ => rfl)) pa_nil)) pe_int))
      (pss_cons (ps_if (pt_not (pt_val (pe_cal C_of_steps (hr.mono (by decide)) (by rfl) (pa_cons (pv 5) (pa_cons (pv 7) (pa_cons (pv 6) (pa_cons (pv 3) pa_nil)))))))
        (pss_one (ps_ret pe_bl))
        pss_nil)
      (pss_cons (ps_if (pt_not (pt_val (pe_cal C_of_lots (hr.mono (by decide)) (by rfl) (pa_cons (pe_lst (pa_cons (pe_tup (pa_cons pe_str (pa_cons (pv 4) pa_nil))) (pa_cons (pv 5) pa_nil))) (pa_cons (pv 7) (pa_cons (pv 3) pa_nil))))))
        (pss_one (ps_ret pe_bl))
        pss_nil)
      (pss_cons (ps_if (pt_not (pt_val (pe_cal C_of_names (hr.mono (by decide)) (by rfl) (pa_cons (pv 6) (pa_cons (pv 4) pa_nil)))))
        (pss_one (ps_ret pe_bl))
        pss_nil)
      (pss_one (ps_ret (pe_and (pe_cal C_is (hr.mono (by decide)) (by rfl) (pa_cons (pe_err0 M3 (hr.mono (by decide)) (by rfl)) (pa_cons pe_int pa_nil))) (pe_one (pe_cal C_is (hr.mono (by decide)) (by rfl) (pa_cons (pe_err0 M13 (hr.mono (by decide)) (by rfl)) (pa_cons pe_int pa_nil))))))))))))))))), ?_⟩
    refine ⟨_, rfl, a, ns, rfl, hS, hlen, fun H1 p ms sm np ep hP => ?_⟩
    have hp : ∀ {H2 : Hp}, H2 p = some (.lst (ms.map V.int)) → SqL K H2 p (ms.map V.int) := fun e => .inl (.inl e)
    have hlo := hP.lo
    have r0 := (getD_rg hP.rg (i := 0) (by omega)).2
    have r1 := (getD_rg hP.rg (i := 1) (by omega)).2
    have r2 := (getD_rg hP.rg (i := 2) (by omega)).2
    obtain ⟨r0a, r0b⟩ := r0
    refine ⟨_, rfl, p, _, 0, _, rfl, rfl, hp ep, at_pool (by decide) (by omega), .inl ⟨_, rfl, _, _, rfl, rfl, ⟨by decide, by decide⟩, ?_⟩⟩
    refine ⟨_, rfl, p, _, 1, _, rfl, rfl, hp ep, at_pool (by decide) (by omega), .inl ⟨_, rfl, _, _, rfl, rfl, (by show (0 : Int) < 9; decide), _, rfl, by omega, by omega, fun D hD => ?_⟩⟩
    have hst : 0 ≤ ms.getD (Int.toNat 0) 0 / 8 ∧ ms.getD (Int.toNat 0) 0 / 8 < 70000 := by
      have e : ms.getD (Int.toNat 0) 0 = ms.getD 0 0 := rfl
      rw [e]
      constructor <;> omega
    refine lc_range (lo := 0) (n := (ms.getD (Int.toNat 1) 0 % 9).toNat) (fun i H' => ∃ zs : List Str, Same H1 H' ∧ H' D = some (.lst (zs.map V.str)) ∧ zs.length = i ∧ ∀ z ∈ zs, Sht z 200)
      ⟨[], same_upd hD, upd_same, rfl, fun y hy => nomatch hy⟩ ?_ ?_
    · rintro i H' hi ⟨zs, sm', eD, hl, hz⟩
      refine ⟨rfl, _, rfl, _, rfl, _, _, rfl, by omega, by omega, hst.1, hst.2, fun z H2 s2 hz2 => ?_⟩
      refine ⟨_, s2 _ _ eD, sl9 (by rw [List.length_map]; omega), zs ++ [z], same_mut (sm'.trans s2) hD, ?_, by rw [List.length_append, hl]; rfl, ?_⟩
      · rw [upd_same, List.map_append]
        rfl
      · intro y hm
        rcases List.mem_append.mp hm with hm | hm
        · exact hz y hm
        · rw [List.mem_singleton.mp hm]
          exact hz2
    · rintro H2 ⟨zs, s2, eD, hl, hz⟩
      have hl8 : zs.length ≤ 8 := by omega
      have hg := strs_gd hz hl8
      have lsD : LsD K H2 D (zs.map PyData.str) := ⟨_, .inl (.inl eD), strs_dp zs⟩
      refine ⟨_, rfl, 9, _, rfl, by decide, by decide, hst.1, hst.2, fun z H3 s3 hz3 => ?_⟩
      have u3 := s2.trans s3
      have eD3 := s3 _ _ eD
      refine ⟨_, rfl, _, rfl, D, _, rfl, .inl ⟨.inl (.inl eD3), fun t nt => ⟨by show 3 ≤ sizeLine; decide, fun y ny => ?_⟩⟩⟩
      have st1 := same_upd (o := .tup (zs.map V.str)) nt
      have sy := same_upd (o := .tup [.str wClose, .str z, .ref t]) ny
      have dpS : Dp K (upd (upd H3 t (.tup (zs.map V.str))) y (.tup [.str wClose, .str z, .ref t])) (.ref y) (stD z zs) := .tup (.inl (.inl upd_same)) (.cons (.str _) (.cons (.str _) (.cons (.tup (.inl (.inl (sy _ _ upd_same))) (strs_dp zs)) .nil)))
      have u4 := (u3.trans st1).trans sy
      obtain ⟨g1, g2, g3⟩ := st_ok hz3 hz hl8
      have shS : ShD K (upd (upd H3 t (.tup (zs.map V.str))) y (.tup [.str wClose, .str z, .ref t])) (.ref y) := ⟨_, dpS, g1, by omega, by omega⟩
      have ep4 := u4 _ _ ep
      have lsD4 := ((lsD.same s3).same st1).same sy
      refine ⟨_, rfl, _, _, rfl, rfl, ?_, ?_⟩
      · have h3 := hz3.1
        have h4 := sopen.1
        exact sz9 (by show wOpen.length + z.length ≤ 100000; omega)
      have hline : Sht (wOpen ++ z) 500 := (sopen.app hz3).le (by omega)
      obtain ⟨n, hn⟩ : ∃ n : Nat, ms.getD (Int.toNat 2) 0 % 100 = (n : Int) := ⟨(ms.getD (Int.toNat 2) 0 % 100).toNat, by omega⟩
      have hn1 : n < 100 := by omega
      refine ⟨_, rfl, p, _, 2, _, rfl, rfl, hp ep4, at_pool (by decide) (by omega), .inl ⟨_, rfl, _, _, rfl, rfl, (by show (0 : Int) < 100; decide), ?_⟩⟩
      refine ⟨_, rfl, _, rfl, _, rfl, _, rfl, .ref y, n, wOpen ++ z, D, _, by rw [← hn]; rfl, shS, hn1, hline, lsD4, hg, fun H5 s5 => ⟨_, rfl, iteF ?_⟩⟩
      refine ⟨_, rfl, by show 2 ≤ sizeLine; decide, fun t1 nt1 => ⟨_, rfl, by show 2 ≤ sizeLine; decide, fun l nl => ?_⟩⟩
      have sa := same_upd (o := .tup [.str wQuit, .str z]) nt1
      have sb := same_upd (o := .lst [.ref t1, .ref y]) nl
      have lsE : LsD K (upd (upd H5 t1 (.tup [.str wQuit, .str z])) l (.lst [.ref t1, .ref y])) l [.tuple [.str wQuit, .str z], stD z zs] :=
        ⟨_, .inl (.inl upd_same), .cons (.tup (.inl (.inl (sb _ _ upd_same))) (.cons (.str _) (.cons (.str _) .nil))) (.cons (dp_same ((s5.trans sa).trans sb) _ _ dpS) .nil)⟩
      refine ⟨_, rfl, _, rfl, l, n, D, _, _, by rw [← hn]; rfl, lsE, es_gd hz3 hz hl8, hn1, ((lsD4.same s5).same sa).same sb, hg, fun H6 s6 => ⟨_, rfl, iteF ?_⟩⟩
      refine ⟨_, rfl, _, rfl, wOpen ++ z, z, rfl, hline, hz3.le (by omega), fun H7 s7 => ⟨_, rfl, iteF ?_⟩⟩
      refine ⟨by show 0 ≤ 1000; decide, fun _ _ => rfl, fun a1 H8 s8 e8 => ⟨a1, _, 3, by decide, rfl, e8, fun H9 s9 => ⟨_, rfl, ?_⟩⟩⟩
      rw [if_pos rfl]
      exact ⟨by show 0 ≤ 1000; decide, fun _ _ => rfl, fun a2 H10 s10 e10 => ⟨a2, _, 13, by decide, rfl, e10, fun H11 s11 => q H11⟩⟩
end
end Kx

namespace Kx
open PySem PySem.Spec PyProof.Rows L2 NdefX Kr Ke
/-- what is asked of an own error's class, as one test -/
def fxB (K : PySem.W.Frag) (C : Addr) (fs : List Str) : Bool :=
  decide (PySem.W.findIn K (.ref C) "__setattr__" = some (some (.builtin "object.__setattr__"))) && (decide (PySem.W.subIn K (.ref C) (.type "BaseException") = some true) && (decide (PySem.W.typeIn K (.ref C) = some (.type "type")) && (PySem.W.keepIn K (.ref C) &&
  (decide (PySem.W.ks_superIn K C C "__init__" = some (some (.builtin "ValueError.__init__"))) && (decide (PySem.W.subIn K (.ref C) (.type "ValueError") = some true) && (decide (PySem.W.mroIn K C (.ref C) = some true) &&
  (decide (PySem.W.findIn K (.ref C) "__getattribute__" = some (some (.builtin "BaseException.__getattribute__"))) && (decide (PySem.W.findIn K (.ref C) "__getattr__" = some none) && (PySem.W.hasDictIn K C && (decide (PySem.W.findIn K (.ref C) "__class__" = some (some (.builtin "object.__class__"))) &&
  (decide (PySem.W.mroIn K C (.type "object") = some true) && fs.all fun f => decide (PySem.W.findIn K (.ref C) f = some none))))))))))))
/-- the same, told -/
structure Fx (K : PySem.W.Frag) (C : Addr) (fs : List Str) : Prop where
  sa : PySem.W.findIn K (.ref C) "__setattr__" = some (some (.builtin "object.__setattr__"))
  exC : PySem.W.subIn K (.ref C) (.type "BaseException") = some true
  tyC : PySem.W.typeIn K (.ref C) = some (.type "type")
  kC : PySem.W.keepIn K (.ref C) = true
  sup : PySem.W.ks_superIn K C C "__init__" = some (some (.builtin "ValueError.__init__"))
  subV : PySem.W.subIn K (.ref C) (.type "ValueError") = some true
  mro : PySem.W.mroIn K C (.ref C) = some true
  ga : PySem.W.findIn K (.ref C) "__getattribute__" = some (some (.builtin "BaseException.__getattribute__"))
  gg : PySem.W.findIn K (.ref C) "__getattr__" = some none
  hd : PySem.W.hasDictIn K C = true
  ha : PySem.W.findIn K (.ref C) "__class__" = some (some (.builtin "object.__class__"))
  mo : PySem.W.mroIn K C (.type "object") = some true
  nf : ∀ f ∈ fs, PySem.W.findIn K (.ref C) f = some none
theorem fx_of {K : PySem.W.Frag} {C : Addr} {fs : List Str} (h : fxB K C fs = true) : Fx K C fs := by
  obtain ⟨h1, h⟩ := Bool.and_eq_true_iff.mp h
  obtain ⟨h2, h⟩ := Bool.and_eq_true_iff.mp h
  obtain ⟨h3, h⟩ := Bool.and_eq_true_iff.mp h
  obtain ⟨h4, h⟩ := Bool.and_eq_true_iff.mp h
  obtain ⟨h5, h⟩ := Bool.and_eq_true_iff.mp h
  obtain ⟨h6, h⟩ := Bool.and_eq_true_iff.mp h
  obtain ⟨h7, h⟩ := Bool.and_eq_true_iff.mp h
  obtain ⟨h8, h⟩ := Bool.and_eq_true_iff.mp h
  obtain ⟨h9, h⟩ := Bool.and_eq_true_iff.mp h
  obtain ⟨h10, h⟩ := Bool.and_eq_true_iff.mp h
  obtain ⟨h11, h⟩ := Bool.and_eq_true_iff.mp h
  obtain ⟨h12, h⟩ := Bool.and_eq_true_iff.mp h
  exact ⟨of_decide_eq_true h1, of_decide_eq_true h2, of_decide_eq_true h3, h4, of_decide_eq_true h5, of_decide_eq_true h6, of_decide_eq_true h7, of_decide_eq_true h8, of_decide_eq_true h9, h10, of_decide_eq_true h11, of_decide_eq_true h12, fun f hf => of_decide_eq_true (List.all_eq_true.mp h f hf)⟩
/-- the classes' own lines -/
def ClsAt (K : PySem.W.Frag) (C : Addr) : Prop := ∃ nm q N bs bm sn sub ab col dd k0 k1 k2 k3 k5, K.lookup C = some (excClassObj nm q C N bs bm true sn sub ab col dd k0 k1 k2 k3 k5 "ValueError.__new__") ∧ PySem.HandSPX.refsVE bm = true
theorem cls_at {K : PySem.W.Frag} {C : Addr} {nm q : Str} {N : Addr} {bs bm : List Value} {sn : List Str} {sub : List Value} {ab : Bool} {col : Option Bool} {dd : Option Addr} {k0 k1 k2 k3 k5 : Option Value} (l : K.lookup C = some (excClassObj nm q C N bs bm true sn sub ab col dd k0 k1 k2 k3 k5 "ValueError.__new__")) (hb : PySem.HandSPX.refsVE bm = true) : ClsAt K C :=
  ⟨nm, q, N, bs, bm, sn, sub, ab, col, dd, k0, k1, k2, k3, k5, l, hb⟩
theorem Fx.supC {K : PySem.W.Frag} {C : Addr} {fs : List Str} (h : Fx K C fs) (c : ClsAt K C) (opq : PySem.W.nsIn K cStatics "thirdparty.any" = some none) : SupC K C := ⟨⟨c, h.sa, h.exC, h.tyC, h.kC⟩, h.sup, h.subV, h.mro, opq⟩
/-- whose kind each is -/
def kitT (K : PySem.W.Frag) (cs : List Addr) (CK : Addr) : Bool := (List.range 14).all fun j => decide (PySem.W.kitOne K (.ref (cs.getD j 0)) (.ref CK) = some true) && (decide (PySem.W.kitOne K (.ref (cs.getD j 0)) (.type "ValueError") = some true) &&
  (List.range 14).all fun i => decide (PySem.W.kitOne K (.ref (cs.getD j 0)) (.ref (cs.getD i 0)) = some (j == i)))
/-- the __init__ of an own error, as k_is finds it -/
structure Ei (K : PySem.W.Frag) (P : Program) (C : Addr) (qual : Str) (st : Stmt) (f : Addr) (fd : FuncData) : Prop where
  a : PySem.W.findIn K (.ref C) "__init__" = some (some (.ref f))
  t : PySem.W.typeIn K (.ref f) = some (.type "function")
  ex : ∃ (cda cc : Addr) (kV doc pm ct : Value) (an : Option Addr), fd = PySem.W.fnX "__init__" qual (defArgs st) (defBody st) (defScope st) [("__class__", cc)] .none kV doc pm an (.ref cda) ct ∧ PySem.W.codeIn K (.ref cda) qual = true ∧ SupF K P C f fd cda cc "self"
theorem ei_mk {K : PySem.W.Frag} {P : Program} {C : Addr} {qual : Str} {st : Stmt} {f cda cc : Addr} {kV doc pm ct oc ccl cl : Value} {an od cdd cld : Option Addr} {osl ccs csl : Array (Option Value)} {vs : Array Value} {file : Str} {tf : Tok} {ar : Arg} (a : PySem.W.findIn K (.ref C) "__init__" = some (some (.ref f))) (t : PySem.W.typeIn K (.ref f) = some (.type "function"))
    (l : K.lookup f = some ⟨oc, od, .func (PySem.W.fnX "__init__" qual (defArgs st) (defBody st) (defScope st) [("__class__", cc)] .none kV doc pm an (.ref cda) ct), osl⟩) (c : PySem.W.codeIn K (.ref cda) qual = true)
    (lc : K.lookup cda = some ⟨ccl, cdd, .fields vs, ccs⟩) (vf : vs[2]? = some (.str file tf)) (ef : ((P.main.file : Str) == file) = true) (ll : K.lookup cc = some ⟨cl, cld, .cell (some (.ref C)), csl⟩) (top : (P.main.scope.names.lookup ("super" : Str)).isSome = false)
    (hd : ((defArgs st).posonlyargs ++ (defArgs st).args).head? = some ar) (hn : ar.arg = "self") : Ei K P C qual st f (PySem.W.fnX "__init__" qual (defArgs st) (defBody st) (defScope st) [("__class__", cc)] .none kV doc pm an (.ref cda) ct) :=
  ⟨a, t, cda, cc, kV, doc, pm, ct, an, rfl, c, ⟨⟨oc, od, osl, l⟩, ⟨ar, hd, hn⟩, ⟨ccl, cdd, vs, ccs, file, tf, lc, vf, ef⟩, ⟨cl, cld, csl, ll⟩, top⟩⟩
theorem mk_InvalidStep {P : Program} {w : World} {K : PySem.W.Frag} {mg : Str → Option Value} {base : Heap} {C g : Addr} {gd : FuncData} (m : mg "InvalidStep" = some (.ref C)) (e : Ei K P C "InvalidStep.__init__" s_InvalidStep g gd) (b : Binds K gd ["self", "step"] []) (fx : Fx K C ["step"]) (S : SupC K C) (ms : mg "super" = none) : MkE P w K mg base "InvalidStep" C 1 ["self", "step"] (cD K) g_InvalidStep := by
  obtain ⟨ia, it, cda, cc, kV, doc, pm, ct, an, hfd, hcd, SF⟩ := e
  exact ⟨⟨g, gd, ia, it, ok_InvalidStep SF S (fx.nf "step" (by decide +kernel)) ms hfd hcd, b⟩, S.oex, m⟩
theorem mk_InvalidLine {P : Program} {w : World} {K : PySem.W.Frag} {mg : Str → Option Value} {base : Heap} {C g : Addr} {gd : FuncData} (m : mg "InvalidLine" = some (.ref C)) (e : Ei K P C "InvalidLine.__init__" s_InvalidLine g gd) (b : Binds K gd ["self", "number", "line"] []) (fx : Fx K C ["number", "line"]) (S : SupC K C) (ms : mg "super" = none) : MkE P w K mg base "InvalidLine" C 1 ["self", "number", "line"] (cID K) g_InvalidLine := by
  obtain ⟨ia, it, cda, cc, kV, doc, pm, ct, an, hfd, hcd, SF⟩ := e
  exact ⟨⟨g, gd, ia, it, ok_InvalidLine SF S (fx.nf "number" (by decide +kernel)) (fx.nf "line" (by decide +kernel)) ms hfd hcd, b⟩, S.oex, m⟩
theorem mk_InvalidMark {P : Program} {w : World} {K : PySem.W.Frag} {mg : Str → Option Value} {base : Heap} {C g : Addr} {gd : FuncData} (m : mg "InvalidMark" = some (.ref C)) (e : Ei K P C "InvalidMark.__init__" s_InvalidMark g gd) (b : Binds K gd ["self", "word"] []) (fx : Fx K C ["word"]) (S : SupC K C) (ms : mg "super" = none) : MkE P w K mg base "InvalidMark" C 1 ["self", "word"] (cD K) g_InvalidMark := by
  obtain ⟨ia, it, cda, cc, kV, doc, pm, ct, an, hfd, hcd, SF⟩ := e
  exact ⟨⟨g, gd, ia, it, ok_InvalidMark SF S (fx.nf "word" (by decide +kernel)) ms hfd hcd, b⟩, S.oex, m⟩
theorem mk_InvalidMemory {P : Program} {w : World} {K : PySem.W.Frag} {mg : Str → Option Value} {base : Heap} {C g : Addr} {gd : FuncData} (m : mg "InvalidMemory" = some (.ref C)) (e : Ei K P C "InvalidMemory.__init__" s_InvalidMemory g gd) (b : Binds K gd ["self"] []) (fx : Fx K C []) (S : SupC K C) (ms : mg "super" = none) : MkE P w K mg base "InvalidMemory" C 1 ["self"] c0 g_InvalidMemory := by
  obtain ⟨ia, it, cda, cc, kV, doc, pm, ct, an, hfd, hcd, SF⟩ := e
  exact ⟨⟨g, gd, ia, it, ok_InvalidMemory SF S  ms hfd hcd, b⟩, S.oex, m⟩
theorem mk_InvalidLot {P : Program} {w : World} {K : PySem.W.Frag} {mg : Str → Option Value} {base : Heap} {C g : Addr} {gd : FuncData} (m : mg "InvalidLot" = some (.ref C)) (e : Ei K P C "InvalidLot.__init__" s_InvalidLot g gd) (b : Binds K gd ["self", "lot"] []) (fx : Fx K C ["lot"]) (S : SupC K C) (ms : mg "super" = none) : MkE P w K mg base "InvalidLot" C 1 ["self", "lot"] (cD K) g_InvalidLot := by
  obtain ⟨ia, it, cda, cc, kV, doc, pm, ct, an, hfd, hcd, SF⟩ := e
  exact ⟨⟨g, gd, ia, it, ok_InvalidLot SF S (fx.nf "lot" (by decide +kernel)) ms hfd hcd, b⟩, S.oex, m⟩
theorem mk_InvalidLimit {P : Program} {w : World} {K : PySem.W.Frag} {mg : Str → Option Value} {base : Heap} {C g : Addr} {gd : FuncData} (m : mg "InvalidLimit" = some (.ref C)) (e : Ei K P C "InvalidLimit.__init__" s_InvalidLimit g gd) (b : Binds K gd ["self", "value"] []) (fx : Fx K C ["value"]) (S : SupC K C) (ms : mg "super" = none) : MkE P w K mg base "InvalidLimit" C 1 ["self", "value"] cI g_InvalidLimit := by
  obtain ⟨ia, it, cda, cc, kV, doc, pm, ct, an, hfd, hcd, SF⟩ := e
  exact ⟨⟨g, gd, ia, it, ok_InvalidLimit SF S (fx.nf "value" (by decide +kernel)) ms hfd hcd, b⟩, S.oex, m⟩
theorem mk_Taken {P : Program} {w : World} {K : PySem.W.Frag} {mg : Str → Option Value} {base : Heap} {C g : Addr} {gd : FuncData} (m : mg "Taken" = some (.ref C)) (e : Ei K P C "Taken.__init__" s_Taken g gd) (b : Binds K gd ["self", "program"] []) (fx : Fx K C ["program"]) (S : SupC K C) (ms : mg "super" = none) : MkE P w K mg base "Taken" C 1 ["self", "program"] (cD K) g_Taken := by
  obtain ⟨ia, it, cda, cc, kV, doc, pm, ct, an, hfd, hcd, SF⟩ := e
  exact ⟨⟨g, gd, ia, it, ok_Taken SF S (fx.nf "program" (by decide +kernel)) ms hfd hcd, b⟩, S.oex, m⟩
theorem mk_NotRunning {P : Program} {w : World} {K : PySem.W.Frag} {mg : Str → Option Value} {base : Heap} {C g : Addr} {gd : FuncData} (m : mg "NotRunning" = some (.ref C)) (e : Ei K P C "NotRunning.__init__" s_NotRunning g gd) (b : Binds K gd ["self", "program"] []) (fx : Fx K C ["program"]) (S : SupC K C) (ms : mg "super" = none) : MkE P w K mg base "NotRunning" C 1 ["self", "program"] (cD K) g_NotRunning := by
  obtain ⟨ia, it, cda, cc, kV, doc, pm, ct, an, hfd, hcd, SF⟩ := e
  exact ⟨⟨g, gd, ia, it, ok_NotRunning SF S (fx.nf "program" (by decide +kernel)) ms hfd hcd, b⟩, S.oex, m⟩
theorem mk_NotHeld {P : Program} {w : World} {K : PySem.W.Frag} {mg : Str → Option Value} {base : Heap} {C g : Addr} {gd : FuncData} (m : mg "NotHeld" = some (.ref C)) (e : Ei K P C "NotHeld.__init__" s_NotHeld g gd) (b : Binds K gd ["self", "program"] []) (fx : Fx K C ["program"]) (S : SupC K C) (ms : mg "super" = none) : MkE P w K mg base "NotHeld" C 1 ["self", "program"] (cD K) g_NotHeld := by
  obtain ⟨ia, it, cda, cc, kV, doc, pm, ct, an, hfd, hcd, SF⟩ := e
  exact ⟨⟨g, gd, ia, it, ok_NotHeld SF S (fx.nf "program" (by decide +kernel)) ms hfd hcd, b⟩, S.oex, m⟩
theorem mk_Ring {P : Program} {w : World} {K : PySem.W.Frag} {mg : Str → Option Value} {base : Heap} {C g : Addr} {gd : FuncData} (m : mg "Ring" = some (.ref C)) (e : Ei K P C "Ring.__init__" s_Ring g gd) (b : Binds K gd ["self", "programs"] []) (fx : Fx K C ["programs"]) (S : SupC K C) (ms : mg "super" = none) : MkE P w K mg base "Ring" C 1 ["self", "programs"] (cD K) g_Ring := by
  obtain ⟨ia, it, cda, cc, kV, doc, pm, ct, an, hfd, hcd, SF⟩ := e
  exact ⟨⟨g, gd, ia, it, ok_Ring SF S (fx.nf "programs" (by decide +kernel)) ms hfd hcd, b⟩, S.oex, m⟩
theorem mk_Refused {P : Program} {w : World} {K : PySem.W.Frag} {mg : Str → Option Value} {base : Heap} {C g : Addr} {gd : FuncData} (m : mg "Refused" = some (.ref C)) (e : Ei K P C "Refused.__init__" s_Refused g gd) (b : Binds K gd ["self", "step", "ring"] []) (fx : Fx K C ["step", "ring"]) (S : SupC K C) (ms : mg "super" = none) : MkE P w K mg base "Refused" C 1 ["self", "step", "ring"] (cDD K) g_Refused := by
  obtain ⟨ia, it, cda, cc, kV, doc, pm, ct, an, hfd, hcd, SF⟩ := e
  exact ⟨⟨g, gd, ia, it, ok_Refused SF S (fx.nf "step" (by decide +kernel)) (fx.nf "ring" (by decide +kernel)) ms hfd hcd, b⟩, S.oex, m⟩
theorem mk_Full {P : Program} {w : World} {K : PySem.W.Frag} {mg : Str → Option Value} {base : Heap} {C g : Addr} {gd : FuncData} (m : mg "Full" = some (.ref C)) (e : Ei K P C "Full.__init__" s_Full g gd) (b : Binds K gd ["self", "needed"] []) (fx : Fx K C ["needed"]) (S : SupC K C) (ms : mg "super" = none) : MkE P w K mg base "Full" C 1 ["self", "needed"] cI g_Full := by
  obtain ⟨ia, it, cda, cc, kV, doc, pm, ct, an, hfd, hcd, SF⟩ := e
  exact ⟨⟨g, gd, ia, it, ok_Full SF S (fx.nf "needed" (by decide +kernel)) ms hfd hcd, b⟩, S.oex, m⟩
theorem mk_Needed {P : Program} {w : World} {K : PySem.W.Frag} {mg : Str → Option Value} {base : Heap} {C g : Addr} {gd : FuncData} (m : mg "Needed" = some (.ref C)) (e : Ei K P C "Needed.__init__" s_Needed g gd) (b : Binds K gd ["self", "lot", "future"] []) (fx : Fx K C ["lot", "future"]) (S : SupC K C) (ms : mg "super" = none) : MkE P w K mg base "Needed" C 1 ["self", "lot", "future"] (cDD K) g_Needed := by
  obtain ⟨ia, it, cda, cc, kV, doc, pm, ct, an, hfd, hcd, SF⟩ := e
  exact ⟨⟨g, gd, ia, it, ok_Needed SF S (fx.nf "lot" (by decide +kernel)) (fx.nf "future" (by decide +kernel)) ms hfd hcd, b⟩, S.oex, m⟩
theorem mk_Unlike {P : Program} {w : World} {K : PySem.W.Frag} {mg : Str → Option Value} {base : Heap} {C g : Addr} {gd : FuncData} (m : mg "Unlike" = some (.ref C)) (e : Ei K P C "Unlike.__init__" s_Unlike g gd) (b : Binds K gd ["self"] []) (fx : Fx K C []) (S : SupC K C) (ms : mg "super" = none) : MkE P w K mg base "Unlike" C 1 ["self"] c0 g_Unlike := by
  obtain ⟨ia, it, cda, cc, kV, doc, pm, ct, an, hfd, hcd, SF⟩ := e
  exact ⟨⟨g, gd, ia, it, ok_Unlike SF S  ms hfd hcd, b⟩, S.oex, m⟩
theorem all_mk {l : PySem.W.OpenLaw} {w : World} {K : PySem.W.Frag} {h : Heap} {mg : Str → Option Value} {fa CK c0 c1 c2 c3 c4 c5 c6 c7 c8 c9 c10 c11 c12 c13 g0 g1 g2 g3 g4 g5 g6 g7 g8 g9 g10 g11 g12 g13 f0 f1 f2 f3 f4 f5 f6 f7 : Addr} {gd0 gd1 gd2 gd3 gd4 gd5 gd6 gd7 gd8 gd9 gd10 gd11 gd12 gd13 fd0 fd1 fd2 fd3 fd4 fd5 fd6 fd7 : FuncData} (X : K.In h) (G : h.Ns mainGlobals mg) (hfa : mg "law" = some (.ref fa))
    (gK : PySem.W.nsIn K mainGlobals "KeeperError" = some (some (.ref CK)))
    (n0 : PySem.W.nsIn K mainGlobals "InvalidStep" = some (some (.ref c0)))
    (n1 : PySem.W.nsIn K mainGlobals "InvalidLine" = some (some (.ref c1)))
    (n2 : PySem.W.nsIn K mainGlobals "InvalidMark" = some (some (.ref c2)))
    (n3 : PySem.W.nsIn K mainGlobals "InvalidMemory" = some (some (.ref c3)))
    (n4 : PySem.W.nsIn K mainGlobals "InvalidLot" = some (some (.ref c4)))
    (n5 : PySem.W.nsIn K mainGlobals "InvalidLimit" = some (some (.ref c5)))
    (n6 : PySem.W.nsIn K mainGlobals "Taken" = some (some (.ref c6)))
    (n7 : PySem.W.nsIn K mainGlobals "NotRunning" = some (some (.ref c7)))
    (n8 : PySem.W.nsIn K mainGlobals "NotHeld" = some (some (.ref c8)))
    (n9 : PySem.W.nsIn K mainGlobals "Ring" = some (some (.ref c9)))
    (n10 : PySem.W.nsIn K mainGlobals "Refused" = some (some (.ref c10)))
    (n11 : PySem.W.nsIn K mainGlobals "Full" = some (some (.ref c11)))
    (n12 : PySem.W.nsIn K mainGlobals "Needed" = some (some (.ref c12)))
    (n13 : PySem.W.nsIn K mainGlobals "Unlike" = some (some (.ref c13)))
    (e0 : Ei K l.prog c0 "InvalidStep.__init__" s_InvalidStep g0 gd0) (cl0 : ClsAt K c0) (b0 : Binds K gd0 ["self", "step"] []) (x0 : fxB K c0 ["step"] = true)
    (e1 : Ei K l.prog c1 "InvalidLine.__init__" s_InvalidLine g1 gd1) (cl1 : ClsAt K c1) (b1 : Binds K gd1 ["self", "number", "line"] []) (x1 : fxB K c1 ["number", "line"] = true)
    (e2 : Ei K l.prog c2 "InvalidMark.__init__" s_InvalidMark g2 gd2) (cl2 : ClsAt K c2) (b2 : Binds K gd2 ["self", "word"] []) (x2 : fxB K c2 ["word"] = true)
    (e3 : Ei K l.prog c3 "InvalidMemory.__init__" s_InvalidMemory g3 gd3) (cl3 : ClsAt K c3) (b3 : Binds K gd3 ["self"] []) (x3 : fxB K c3 [] = true)
    (e4 : Ei K l.prog c4 "InvalidLot.__init__" s_InvalidLot g4 gd4) (cl4 : ClsAt K c4) (b4 : Binds K gd4 ["self", "lot"] []) (x4 : fxB K c4 ["lot"] = true)
    (e5 : Ei K l.prog c5 "InvalidLimit.__init__" s_InvalidLimit g5 gd5) (cl5 : ClsAt K c5) (b5 : Binds K gd5 ["self", "value"] []) (x5 : fxB K c5 ["value"] = true)
    (e6 : Ei K l.prog c6 "Taken.__init__" s_Taken g6 gd6) (cl6 : ClsAt K c6) (b6 : Binds K gd6 ["self", "program"] []) (x6 : fxB K c6 ["program"] = true)
    (e7 : Ei K l.prog c7 "NotRunning.__init__" s_NotRunning g7 gd7) (cl7 : ClsAt K c7) (b7 : Binds K gd7 ["self", "program"] []) (x7 : fxB K c7 ["program"] = true)
    (e8 : Ei K l.prog c8 "NotHeld.__init__" s_NotHeld g8 gd8) (cl8 : ClsAt K c8) (b8 : Binds K gd8 ["self", "program"] []) (x8 : fxB K c8 ["program"] = true)
    (e9 : Ei K l.prog c9 "Ring.__init__" s_Ring g9 gd9) (cl9 : ClsAt K c9) (b9 : Binds K gd9 ["self", "programs"] []) (x9 : fxB K c9 ["programs"] = true)
    (e10 : Ei K l.prog c10 "Refused.__init__" s_Refused g10 gd10) (cl10 : ClsAt K c10) (b10 : Binds K gd10 ["self", "step", "ring"] []) (x10 : fxB K c10 ["step", "ring"] = true)
    (e11 : Ei K l.prog c11 "Full.__init__" s_Full g11 gd11) (cl11 : ClsAt K c11) (b11 : Binds K gd11 ["self", "needed"] []) (x11 : fxB K c11 ["needed"] = true)
    (e12 : Ei K l.prog c12 "Needed.__init__" s_Needed g12 gd12) (cl12 : ClsAt K c12) (b12 : Binds K gd12 ["self", "lot", "future"] []) (x12 : fxB K c12 ["lot", "future"] = true)
    (e13 : Ei K l.prog c13 "Unlike.__init__" s_Unlike g13 gd13) (cl13 : ClsAt K c13) (b13 : Binds K gd13 ["self"] []) (x13 : fxB K c13 [] = true)
    (d0 : At K "law" s_law f0 fd0)
    (d1 : At K "_law_draws_of" s_draws_of f1 fd1)
    (d2 : At K "_law_named" s_named f2 fd2)
    (d3 : At K "_law_kinds" s_kinds f3 fd3)
    (d4 : At K "_law_is" s_is f4 fd4)
    (d5 : At K "_law_of_steps" s_of_steps f5 fd5)
    (d6 : At K "_law_of_lots" s_of_lots f6 fd6)
    (d7 : At K "_law_of_names" s_of_names f7 fd7)
    (y0 : ∀ (s : Shared) (v : Value), BindsTo s fd0 ⟨[v], []⟩ [("_law_script", v)])
    (y1 : Binds K fd1 ["_law_script"] [])
    (y2 : Binds K fd2 ["_law_k", "_law_style"] [])
    (y3 : Binds K fd3 ["_law_made"] [])
    (y4 : Binds K fd4 ["_law_made", "_law_place"] [])
    (y5 : Binds K fd5 ["_law_step", "_law_number", "_law_line", "_law_names"] [])
    (y6 : Binds K fd6 ["_law_steps", "_law_number", "_law_names"] [])
    (y7 : Binds K fd7 ["_law_word", "_law_name"] [])
    (z0 : PySem.W.nsIn K mainGlobals "len" = some none)
    (z1 : PySem.W.nsIn K mainGlobals "abs" = some none)
    (z2 : PySem.W.nsIn K mainGlobals "int" = some none)
    (z3 : PySem.W.nsIn K mainGlobals "range" = some none)
    (z4 : PySem.W.nsIn K mainGlobals "str" = some none)
    (z5 : PySem.W.nsIn K mainGlobals "isinstance" = some none)
    (z6 : PySem.W.nsIn K mainGlobals "list" = some none)
    (z7 : PySem.W.nsIn K mainGlobals "tuple" = some none)
    (z8 : PySem.W.nsIn K mainGlobals "ValueError" = some none)
    (z9 : PySem.W.nsIn K mainGlobals "super" = some none)
    (opq : PySem.W.nsIn K cStatics "thirdparty.any" = some none) (hn : PySem.W.specialIn K (.builtin "object.__class__") "__get__" = some (some (.builtin "getset_descriptor.__get__"))) (ht : PySem.W.takesIn K (.builtin "object.__class__") = some true) (kt : kitT K [c0, c1, c2, c3, c4, c5, c6, c7, c8, c9, c10, c11, c12, c13] CK = true) :
    ∃ fd : FuncData, (∀ (s : Shared) (v : Value), BindsTo s fd ⟨[v], []⟩ [("_law_script", v)]) ∧ ∀ base : Heap, K.In base → base.Ns mainGlobals mg → FnOk l.prog w K mg base CX0 4 fa fd ["_law_script"] (spLaw K) := by
  have e := hfa.symm.trans (PySem.W.mg_of X G d0.a)
  cases e
  have q0 := fx_of x0
  have S0 := q0.supC cl0 opq
  have q1 := fx_of x1
  have S1 := q1.supC cl1 opq
  have q2 := fx_of x2
  have S2 := q2.supC cl2 opq
  have q3 := fx_of x3
  have S3 := q3.supC cl3 opq
  have q4 := fx_of x4
  have S4 := q4.supC cl4 opq
  have q5 := fx_of x5
  have S5 := q5.supC cl5 opq
  have q6 := fx_of x6
  have S6 := q6.supC cl6 opq
  have q7 := fx_of x7
  have S7 := q7.supC cl7 opq
  have q8 := fx_of x8
  have S8 := q8.supC cl8 opq
  have q9 := fx_of x9
  have S9 := q9.supC cl9 opq
  have q10 := fx_of x10
  have S10 := q10.supC cl10 opq
  have q11 := fx_of x11
  have S11 := q11.supC cl11 opq
  have q12 := fx_of x12
  have S12 := q12.supC cl12 opq
  have q13 := fx_of x13
  have S13 := q13.supC cl13 opq
  have kj : ∀ j, j < 14 → PySem.W.kitOne K (.ref (([c0, c1, c2, c3, c4, c5, c6, c7, c8, c9, c10, c11, c12, c13] : List Addr).getD j 0)) (.ref CK) = some true ∧ PySem.W.kitOne K (.ref (([c0, c1, c2, c3, c4, c5, c6, c7, c8, c9, c10, c11, c12, c13] : List Addr).getD j 0)) (.type "ValueError") = some true ∧ ∀ i, i < 14 → PySem.W.kitOne K (.ref (([c0, c1, c2, c3, c4, c5, c6, c7, c8, c9, c10, c11, c12, c13] : List Addr).getD j 0)) (.ref (([c0, c1, c2, c3, c4, c5, c6, c7, c8, c9, c10, c11, c12, c13] : List Addr).getD i 0)) = some (j == i) := fun j hj => by
    obtain ⟨h1, h2⟩ := Bool.and_eq_true_iff.mp (List.all_eq_true.mp kt j (List.mem_range.mpr hj))
    obtain ⟨h2, h3⟩ := Bool.and_eq_true_iff.mp h2
    exact ⟨of_decide_eq_true h1, of_decide_eq_true h2, fun i hi => of_decide_eq_true (List.all_eq_true.mp h3 i (List.mem_range.mpr hi))⟩
  have hex : ∀ j, j < 14 → ExcC K (([c0, c1, c2, c3, c4, c5, c6, c7, c8, c9, c10, c11, c12, c13] : List Addr).getD j 0) := fun j hj => match j, hj with
      | 0, _ => ⟨q0.ga, q0.gg, q0.exC, q0.hd, q0.ha, hn, ht, q0.mo⟩
      | 1, _ => ⟨q1.ga, q1.gg, q1.exC, q1.hd, q1.ha, hn, ht, q1.mo⟩
      | 2, _ => ⟨q2.ga, q2.gg, q2.exC, q2.hd, q2.ha, hn, ht, q2.mo⟩
      | 3, _ => ⟨q3.ga, q3.gg, q3.exC, q3.hd, q3.ha, hn, ht, q3.mo⟩
      | 4, _ => ⟨q4.ga, q4.gg, q4.exC, q4.hd, q4.ha, hn, ht, q4.mo⟩
      | 5, _ => ⟨q5.ga, q5.gg, q5.exC, q5.hd, q5.ha, hn, ht, q5.mo⟩
      | 6, _ => ⟨q6.ga, q6.gg, q6.exC, q6.hd, q6.ha, hn, ht, q6.mo⟩
      | 7, _ => ⟨q7.ga, q7.gg, q7.exC, q7.hd, q7.ha, hn, ht, q7.mo⟩
      | 8, _ => ⟨q8.ga, q8.gg, q8.exC, q8.hd, q8.ha, hn, ht, q8.mo⟩
      | 9, _ => ⟨q9.ga, q9.gg, q9.exC, q9.hd, q9.ha, hn, ht, q9.mo⟩
      | 10, _ => ⟨q10.ga, q10.gg, q10.exC, q10.hd, q10.ha, hn, ht, q10.mo⟩
      | 11, _ => ⟨q11.ga, q11.gg, q11.exC, q11.hd, q11.ha, hn, ht, q11.mo⟩
      | 12, _ => ⟨q12.ga, q12.gg, q12.exC, q12.hd, q12.ha, hn, ht, q12.mo⟩
      | 13, _ => ⟨q13.ga, q13.gg, q13.exC, q13.hd, q13.ha, hn, ht, q13.mo⟩
  have hxf : ∀ j, j < 14 → XfC K (([c0, c1, c2, c3, c4, c5, c6, c7, c8, c9, c10, c11, c12, c13] : List Addr).getD j 0) := fun j hj => match j, hj with
      | 0, _ => ⟨q0.ga, q0.gg, q0.exC, q0.hd⟩
      | 1, _ => ⟨q1.ga, q1.gg, q1.exC, q1.hd⟩
      | 2, _ => ⟨q2.ga, q2.gg, q2.exC, q2.hd⟩
      | 3, _ => ⟨q3.ga, q3.gg, q3.exC, q3.hd⟩
      | 4, _ => ⟨q4.ga, q4.gg, q4.exC, q4.hd⟩
      | 5, _ => ⟨q5.ga, q5.gg, q5.exC, q5.hd⟩
      | 6, _ => ⟨q6.ga, q6.gg, q6.exC, q6.hd⟩
      | 7, _ => ⟨q7.ga, q7.gg, q7.exC, q7.hd⟩
      | 8, _ => ⟨q8.ga, q8.gg, q8.exC, q8.hd⟩
      | 9, _ => ⟨q9.ga, q9.gg, q9.exC, q9.hd⟩
      | 10, _ => ⟨q10.ga, q10.gg, q10.exC, q10.hd⟩
      | 11, _ => ⟨q11.ga, q11.gg, q11.exC, q11.hd⟩
      | 12, _ => ⟨q12.ga, q12.gg, q12.exC, q12.hd⟩
      | 13, _ => ⟨q13.ga, q13.gg, q13.exC, q13.hd⟩
  have hg : ∀ i x, NMS[i]? = some x → mg x = some (.ref (([c0, c1, c2, c3, c4, c5, c6, c7, c8, c9, c10, c11, c12, c13] : List Addr).getD i 0)) := fun i x hx => match i, hx with
      | 0, hx => Option.some.inj hx ▸ PySem.W.mg_of X G n0
      | 1, hx => Option.some.inj hx ▸ PySem.W.mg_of X G n1
      | 2, hx => Option.some.inj hx ▸ PySem.W.mg_of X G n2
      | 3, hx => Option.some.inj hx ▸ PySem.W.mg_of X G n3
      | 4, hx => Option.some.inj hx ▸ PySem.W.mg_of X G n4
      | 5, hx => Option.some.inj hx ▸ PySem.W.mg_of X G n5
      | 6, hx => Option.some.inj hx ▸ PySem.W.mg_of X G n6
      | 7, hx => Option.some.inj hx ▸ PySem.W.mg_of X G n7
      | 8, hx => Option.some.inj hx ▸ PySem.W.mg_of X G n8
      | 9, hx => Option.some.inj hx ▸ PySem.W.mg_of X G n9
      | 10, hx => Option.some.inj hx ▸ PySem.W.mg_of X G n10
      | 11, hx => Option.some.inj hx ▸ PySem.W.mg_of X G n11
      | 12, hx => Option.some.inj hx ▸ PySem.W.mg_of X G n12
      | 13, hx => Option.some.inj hx ▸ PySem.W.mg_of X G n13
      | _ + 14, hx => by cases hx
  have T : Txt K mg (fun j => ([c0, c1, c2, c3, c4, c5, c6, c7, c8, c9, c10, c11, c12, c13] : List Addr).getD j 0) CK := { m_len := PySem.W.mg_none_of X G z0, m_abs := PySem.W.mg_none_of X G z1, m_int := PySem.W.mg_none_of X G z2, m_range := PySem.W.mg_none_of X G z3, m_str := PySem.W.mg_none_of X G z4, m_isinstance := PySem.W.mg_none_of X G z5, m_list := PySem.W.mg_none_of X G z6, m_tuple := PySem.W.mg_none_of X G z7, m_VE := PySem.W.mg_none_of X G z8, gK := PySem.W.mg_of X G gK, g := hg, ex := hex, xf := hxf, kit := fun j i hj hi => (kj j hj).2.2 i hi, kitK := fun j hj => (kj j hj).1, kitV := fun j hj => (kj j hj).2.1 }
  have NF : ∀ j f, (j, f) ∈ FL → PySem.W.findIn K (.ref ((fun j => ([c0, c1, c2, c3, c4, c5, c6, c7, c8, c9, c10, c11, c12, c13] : List Addr).getD j 0) j)) f = some none := by
    intro j f hm
    simp only [FL, List.mem_cons, List.not_mem_nil, or_false, Prod.mk.injEq] at hm
    rcases hm with ⟨rfl, rfl⟩ | ⟨rfl, rfl⟩ | ⟨rfl, rfl⟩ | ⟨rfl, rfl⟩ | ⟨rfl, rfl⟩ | ⟨rfl, rfl⟩ | ⟨rfl, rfl⟩ | ⟨rfl, rfl⟩ | ⟨rfl, rfl⟩ | ⟨rfl, rfl⟩ | ⟨rfl, rfl⟩ | ⟨rfl, rfl⟩ | ⟨rfl, rfl⟩ | ⟨rfl, rfl⟩ | ⟨rfl, rfl⟩
    · exact q0.nf _ (by decide +kernel)
    · exact q1.nf _ (by decide +kernel)
    · exact q1.nf _ (by decide +kernel)
    · exact q2.nf _ (by decide +kernel)
    · exact q4.nf _ (by decide +kernel)
    · exact q5.nf _ (by decide +kernel)
    · exact q6.nf _ (by decide +kernel)
    · exact q7.nf _ (by decide +kernel)
    · exact q8.nf _ (by decide +kernel)
    · exact q9.nf _ (by decide +kernel)
    · exact q10.nf _ (by decide +kernel)
    · exact q10.nf _ (by decide +kernel)
    · exact q11.nf _ (by decide +kernel)
    · exact q12.nf _ (by decide +kernel)
    · exact q12.nf _ (by decide +kernel)
  have ms := PySem.W.mg_none_of X G z9
  refine ⟨fd0, y0, fun base _ _ => ?_⟩
  have M0 := mk_InvalidStep (P := l.prog) (w := w) (base := base) (PySem.W.mg_of X G n0) e0 b0 q0 S0 ms
  have M1 := mk_InvalidLine (P := l.prog) (w := w) (base := base) (PySem.W.mg_of X G n1) e1 b1 q1 S1 ms
  have M2 := mk_InvalidMark (P := l.prog) (w := w) (base := base) (PySem.W.mg_of X G n2) e2 b2 q2 S2 ms
  have M3 := mk_InvalidMemory (P := l.prog) (w := w) (base := base) (PySem.W.mg_of X G n3) e3 b3 q3 S3 ms
  have M4 := mk_InvalidLot (P := l.prog) (w := w) (base := base) (PySem.W.mg_of X G n4) e4 b4 q4 S4 ms
  have M5 := mk_InvalidLimit (P := l.prog) (w := w) (base := base) (PySem.W.mg_of X G n5) e5 b5 q5 S5 ms
  have M6 := mk_Taken (P := l.prog) (w := w) (base := base) (PySem.W.mg_of X G n6) e6 b6 q6 S6 ms
  have M7 := mk_NotRunning (P := l.prog) (w := w) (base := base) (PySem.W.mg_of X G n7) e7 b7 q7 S7 ms
  have M8 := mk_NotHeld (P := l.prog) (w := w) (base := base) (PySem.W.mg_of X G n8) e8 b8 q8 S8 ms
  have M9 := mk_Ring (P := l.prog) (w := w) (base := base) (PySem.W.mg_of X G n9) e9 b9 q9 S9 ms
  have M10 := mk_Refused (P := l.prog) (w := w) (base := base) (PySem.W.mg_of X G n10) e10 b10 q10 S10 ms
  have M11 := mk_Full (P := l.prog) (w := w) (base := base) (PySem.W.mg_of X G n11) e11 b11 q11 S11 ms
  have M12 := mk_Needed (P := l.prog) (w := w) (base := base) (PySem.W.mg_of X G n12) e12 b12 q12 S12 ms
  have M13 := mk_Unlike (P := l.prog) (w := w) (base := base) (PySem.W.mg_of X G n13) e13 b13 q13 S13 ms
  have C1 : Cal l.prog w K mg base "_law_draws_of" 1 (spDraws K) := ⟨f1, fd1, _, ok_draws_of d1.F T.toTB, y1, PySem.W.mg_of X G d1.a, d1.F.kp⟩
  have C2 : Cal l.prog w K mg base "_law_named" 1 spNamed := ⟨f2, fd2, _, ok_named d2.F T.toTxN, y2, PySem.W.mg_of X G d2.a, d2.F.kp⟩
  have C3 : Cal l.prog w K mg base "_law_kinds" 1 (spKinds (fun j => ([c0, c1, c2, c3, c4, c5, c6, c7, c8, c9, c10, c11, c12, c13] : List Addr).getD j 0)) := ⟨f3, fd3, _, ok_kinds d3.F T, y3, PySem.W.mg_of X G d3.a, d3.F.kp⟩
  have C4 : Cal l.prog w K mg base "_law_is" 2 (spIs (fun j => ([c0, c1, c2, c3, c4, c5, c6, c7, c8, c9, c10, c11, c12, c13] : List Addr).getD j 0)) := ⟨f4, fd4, _, ok_is d4.F T C3, y4, PySem.W.mg_of X G d4.a, d4.F.kp⟩
  have C5 : Cal l.prog w K mg base "_law_of_steps" 3 (spSteps K) := ⟨f5, fd5, _, ok_of_steps d5.F T NF M0 M1 M9 M10 C4, y5, PySem.W.mg_of X G d5.a, d5.F.kp⟩
  have C6 : Cal l.prog w K mg base "_law_of_lots" 3 (spLots K) := ⟨f6, fd6, _, ok_of_lots d6.F T NF M4 M5 M11 M12 C4, y6, PySem.W.mg_of X G d6.a, d6.F.kp⟩
  have C7 : Cal l.prog w K mg base "_law_of_names" 3 spNames := ⟨f7, fd7, _, ok_of_names d7.F T NF M2 M6 M7 M8 C4, y7, PySem.W.mg_of X G d7.a, d7.F.kp⟩
  exact ok_law d0.F T C1 C2 C5 C6 C7 C4 M3 M13
end Kx

open PySem PySem.W PyProof.Rows
set_option maxHeartbeats 0 in
theorem PySem.Challenge.cw_letforget_k41_errors_by_position_holds : PySem.Challenge.rw_letforget_k41_errors_by_position.Holds := by
  w_on; o_law; k_head; (case hw => w_witness2)
  k_fill
  refine L2.walk_of (l := PySem.Challenge.rw_letforget_k41_errors_by_position) (n := 63) (k := 4) (x := "_law_script") (CX := fun _ => L2.CX0) (sp := fun w => Kx.spLaw _) rfl (by decide) rfl ⟨rfl, by decide, by decide⟩ (fun w h Y => PySem.W.kIn_of Y) ?F (fun _ _ a ns hl _ hS => ⟨a, ns, rfl, hS, hl, fun _ => rfl⟩) (fun _ _ _ _ _ h => h)
  case F =>
    intro w mg fa h KX G hmg
    refine' Kx.all_mk (l := PySem.Challenge.rw_letforget_k41_errors_by_position) KX G hmg ?gK
      ?n0
      ?n1
      ?n2
      ?n3
      ?n4
      ?n5
      ?n6
      ?n7
      ?n8
      ?n9
      ?n10
      ?n11
      ?n12
      ?n13
      (Kx.ei_mk ?ea0 ?et0 ?el0 ?ec0 ?elc0 ?evf0 ?eef0 ?ell0 rfl rfl rfl)
      (Kx.cls_at ?cl0 ?cb0)
      (.all fun us hl => match us, hl with | [_, _], _ => rfl)
      ?x0
      (Kx.ei_mk ?ea1 ?et1 ?el1 ?ec1 ?elc1 ?evf1 ?eef1 ?ell1 rfl rfl rfl)
      (Kx.cls_at ?cl1 ?cb1)
      (.all fun us hl => match us, hl with | [_, _, _], _ => rfl)
      ?x1
      (Kx.ei_mk ?ea2 ?et2 ?el2 ?ec2 ?elc2 ?evf2 ?eef2 ?ell2 rfl rfl rfl)
      (Kx.cls_at ?cl2 ?cb2)
      (.all fun us hl => match us, hl with | [_, _], _ => rfl)
      ?x2
      (Kx.ei_mk ?ea3 ?et3 ?el3 ?ec3 ?elc3 ?evf3 ?eef3 ?ell3 rfl rfl rfl)
      (Kx.cls_at ?cl3 ?cb3)
      (.all fun us hl => match us, hl with | [_], _ => rfl)
      ?x3
      (Kx.ei_mk ?ea4 ?et4 ?el4 ?ec4 ?elc4 ?evf4 ?eef4 ?ell4 rfl rfl rfl)
      (Kx.cls_at ?cl4 ?cb4)
      (.all fun us hl => match us, hl with | [_, _], _ => rfl)
      ?x4
      (Kx.ei_mk ?ea5 ?et5 ?el5 ?ec5 ?elc5 ?evf5 ?eef5 ?ell5 rfl rfl rfl)
      (Kx.cls_at ?cl5 ?cb5)
      (.all fun us hl => match us, hl with | [_, _], _ => rfl)
      ?x5
      (Kx.ei_mk ?ea6 ?et6 ?el6 ?ec6 ?elc6 ?evf6 ?eef6 ?ell6 rfl rfl rfl)
      (Kx.cls_at ?cl6 ?cb6)
      (.all fun us hl => match us, hl with | [_, _], _ => rfl)
      ?x6
      (Kx.ei_mk ?ea7 ?et7 ?el7 ?ec7 ?elc7 ?evf7 ?eef7 ?ell7 rfl rfl rfl)
      (Kx.cls_at ?cl7 ?cb7)
      (.all fun us hl => match us, hl with | [_, _], _ => rfl)
      ?x7
      (Kx.ei_mk ?ea8 ?et8 ?el8 ?ec8 ?elc8 ?evf8 ?eef8 ?ell8 rfl rfl rfl)
      (Kx.cls_at ?cl8 ?cb8)
      (.all fun us hl => match us, hl with | [_, _], _ => rfl)
      ?x8
      (Kx.ei_mk ?ea9 ?et9 ?el9 ?ec9 ?elc9 ?evf9 ?eef9 ?ell9 rfl rfl rfl)
      (Kx.cls_at ?cl9 ?cb9)
      (.all fun us hl => match us, hl with | [_, _], _ => rfl)
      ?x9
      (Kx.ei_mk ?ea10 ?et10 ?el10 ?ec10 ?elc10 ?evf10 ?eef10 ?ell10 rfl rfl rfl)
      (Kx.cls_at ?cl10 ?cb10)
      (.all fun us hl => match us, hl with | [_, _, _], _ => rfl)
      ?x10
      (Kx.ei_mk ?ea11 ?et11 ?el11 ?ec11 ?elc11 ?evf11 ?eef11 ?ell11 rfl rfl rfl)
      (Kx.cls_at ?cl11 ?cb11)
      (.all fun us hl => match us, hl with | [_, _], _ => rfl)
      ?x11
      (Kx.ei_mk ?ea12 ?et12 ?el12 ?ec12 ?elc12 ?evf12 ?eef12 ?ell12 rfl rfl rfl)
      (Kx.cls_at ?cl12 ?cb12)
      (.all fun us hl => match us, hl with | [_, _, _], _ => rfl)
      ?x12
      (Kx.ei_mk ?ea13 ?et13 ?el13 ?ec13 ?elc13 ?evf13 ?eef13 ?ell13 rfl rfl rfl)
      (Kx.cls_at ?cl13 ?cb13)
      (.all fun us hl => match us, hl with | [_], _ => rfl)
      ?x13
      (Kx.at_mk ?a0 ?l0 ?e0 ?k0)
      (Kx.at_mk ?a1 ?l1 ?e1 ?k1)
      (Kx.at_mk ?a2 ?l2 ?e2 ?k2)
      (Kx.at_mk ?a3 ?l3 ?e3 ?k3)
      (Kx.at_mk ?a4 ?l4 ?e4 ?k4)
      (Kx.at_mk ?a5 ?l5 ?e5 ?k5)
      (Kx.at_mk ?a6 ?l6 ?e6 ?k6)
      (Kx.at_mk ?a7 ?l7 ?e7 ?k7)
      (fun s v => .of_eq rfl)
      (.all fun us hl => match us, hl with | [_], _ => rfl)
      (.all fun us hl => match us, hl with | [_, _], _ => rfl)
      (.all fun us hl => match us, hl with | [_], _ => rfl)
      (.all fun us hl => match us, hl with | [_, _], _ => rfl)
      (.all fun us hl => match us, hl with | [_, _, _, _], _ => rfl)
      (.all fun us hl => match us, hl with | [_, _, _], _ => rfl)
      (.all fun us hl => match us, hl with | [_, _], _ => rfl)
      ?z0
      ?z1
      ?z2
      ?z3
      ?z4
      ?z5
      ?z6
      ?z7
      ?z8
      ?z9
      ?opq
      ?hn
      ?ht
      ?kt
    (case gK => k_is)
    (case n0 => k_is)
    (case n1 => k_is)
    (case n2 => k_is)
    (case n3 => k_is)
    (case n4 => k_is)
    (case n5 => k_is)
    (case n6 => k_is)
    (case n7 => k_is)
    (case n8 => k_is)
    (case n9 => k_is)
    (case n10 => k_is)
    (case n11 => k_is)
    (case n12 => k_is)
    (case n13 => k_is)
    (case ea0 => k_is)
    (case et0 => k_is)
    (case el0 => k_is)
    (case ec0 => k_is)
    (case elc0 => k_is)
    (case evf0 => rfl)
    (case eef0 => first | rfl | decide +kernel)
    (case ell0 => k_is)
    (case cl0 => k_is)
    (case cb0 => first | rfl | decide +kernel)
    (case x0 => first | kernel_rfl | rfl)
    (case ea1 => k_is)
    (case et1 => k_is)
    (case el1 => k_is)
    (case ec1 => k_is)
    (case elc1 => k_is)
    (case evf1 => rfl)
    (case eef1 => first | rfl | decide +kernel)
    (case ell1 => k_is)
    (case cl1 => k_is)
    (case cb1 => first | rfl | decide +kernel)
    (case x1 => first | kernel_rfl | rfl)
    (case ea2 => k_is)
    (case et2 => k_is)
    (case el2 => k_is)
    (case ec2 => k_is)
    (case elc2 => k_is)
    (case evf2 => rfl)
    (case eef2 => first | rfl | decide +kernel)
    (case ell2 => k_is)
    (case cl2 => k_is)
    (case cb2 => first | rfl | decide +kernel)
    (case x2 => first | kernel_rfl | rfl)
    (case ea3 => k_is)
    (case et3 => k_is)
    (case el3 => k_is)
    (case ec3 => k_is)
    (case elc3 => k_is)
    (case evf3 => rfl)
    (case eef3 => first | rfl | decide +kernel)
    (case ell3 => k_is)
    (case cl3 => k_is)
    (case cb3 => first | rfl | decide +kernel)
    (case x3 => first | kernel_rfl | rfl)
    (case ea4 => k_is)
    (case et4 => k_is)
    (case el4 => k_is)
    (case ec4 => k_is)
    (case elc4 => k_is)
    (case evf4 => rfl)
    (case eef4 => first | rfl | decide +kernel)
    (case ell4 => k_is)
    (case cl4 => k_is)
    (case cb4 => first | rfl | decide +kernel)
    (case x4 => first | kernel_rfl | rfl)
    (case ea5 => k_is)
    (case et5 => k_is)
    (case el5 => k_is)
    (case ec5 => k_is)
    (case elc5 => k_is)
    (case evf5 => rfl)
    (case eef5 => first | rfl | decide +kernel)
    (case ell5 => k_is)
    (case cl5 => k_is)
    (case cb5 => first | rfl | decide +kernel)
    (case x5 => first | kernel_rfl | rfl)
    (case ea6 => k_is)
    (case et6 => k_is)
    (case el6 => k_is)
    (case ec6 => k_is)
    (case elc6 => k_is)
    (case evf6 => rfl)
    (case eef6 => first | rfl | decide +kernel)
    (case ell6 => k_is)
    (case cl6 => k_is)
    (case cb6 => first | rfl | decide +kernel)
    (case x6 => first | kernel_rfl | rfl)
    (case ea7 => k_is)
    (case et7 => k_is)
    (case el7 => k_is)
    (case ec7 => k_is)
    (case elc7 => k_is)
    (case evf7 => rfl)
    (case eef7 => first | rfl | decide +kernel)
    (case ell7 => k_is)
    (case cl7 => k_is)
    (case cb7 => first | rfl | decide +kernel)
    (case x7 => first | kernel_rfl | rfl)
    (case ea8 => k_is)
    (case et8 => k_is)
    (case el8 => k_is)
    (case ec8 => k_is)
    (case elc8 => k_is)
    (case evf8 => rfl)
    (case eef8 => first | rfl | decide +kernel)
    (case ell8 => k_is)
    (case cl8 => k_is)
    (case cb8 => first | rfl | decide +kernel)
    (case x8 => first | kernel_rfl | rfl)
    (case ea9 => k_is)
    (case et9 => k_is)
    (case el9 => k_is)
    (case ec9 => k_is)
    (case elc9 => k_is)
    (case evf9 => rfl)
    (case eef9 => first | rfl | decide +kernel)
    (case ell9 => k_is)
    (case cl9 => k_is)
    (case cb9 => first | rfl | decide +kernel)
    (case x9 => first | kernel_rfl | rfl)
    (case ea10 => k_is)
    (case et10 => k_is)
    (case el10 => k_is)
    (case ec10 => k_is)
    (case elc10 => k_is)
    (case evf10 => rfl)
    (case eef10 => first | rfl | decide +kernel)
    (case ell10 => k_is)
    (case cl10 => k_is)
    (case cb10 => first | rfl | decide +kernel)
    (case x10 => first | kernel_rfl | rfl)
    (case ea11 => k_is)
    (case et11 => k_is)
    (case el11 => k_is)
    (case ec11 => k_is)
    (case elc11 => k_is)
    (case evf11 => rfl)
    (case eef11 => first | rfl | decide +kernel)
    (case ell11 => k_is)
    (case cl11 => k_is)
    (case cb11 => first | rfl | decide +kernel)
    (case x11 => first | kernel_rfl | rfl)
    (case ea12 => k_is)
    (case et12 => k_is)
    (case el12 => k_is)
    (case ec12 => k_is)
    (case elc12 => k_is)
    (case evf12 => rfl)
    (case eef12 => first | rfl | decide +kernel)
    (case ell12 => k_is)
    (case cl12 => k_is)
    (case cb12 => first | rfl | decide +kernel)
    (case x12 => first | kernel_rfl | rfl)
    (case ea13 => k_is)
    (case et13 => k_is)
    (case el13 => k_is)
    (case ec13 => k_is)
    (case elc13 => k_is)
    (case evf13 => rfl)
    (case eef13 => first | rfl | decide +kernel)
    (case ell13 => k_is)
    (case cl13 => k_is)
    (case cb13 => first | rfl | decide +kernel)
    (case x13 => first | kernel_rfl | rfl)
    (case a0 => k_is)
    (case l0 => k_is)
    (case e0 => k_is)
    (case k0 => k_is)
    (case a1 => k_is)
    (case l1 => k_is)
    (case e1 => k_is)
    (case k1 => k_is)
    (case a2 => k_is)
    (case l2 => k_is)
    (case e2 => k_is)
    (case k2 => k_is)
    (case a3 => k_is)
    (case l3 => k_is)
    (case e3 => k_is)
    (case k3 => k_is)
    (case a4 => k_is)
    (case l4 => k_is)
    (case e4 => k_is)
    (case k4 => k_is)
    (case a5 => k_is)
    (case l5 => k_is)
    (case e5 => k_is)
    (case k5 => k_is)
    (case a6 => k_is)
    (case l6 => k_is)
    (case e6 => k_is)
    (case k6 => k_is)
    (case a7 => k_is)
    (case l7 => k_is)
    (case e7 => k_is)
    (case k7 => k_is)
    (case z0 => k_is)
    (case z1 => k_is)
    (case z2 => k_is)
    (case z3 => k_is)
    (case z4 => k_is)
    (case z5 => k_is)
    (case z6 => k_is)
    (case z7 => k_is)
    (case z8 => k_is)
    (case z9 => k_is)
    (case opq => k_is)
    (case hn => k_is)
    (case ht => k_is)
    (case kt => first | kernel_rfl | rfl)
