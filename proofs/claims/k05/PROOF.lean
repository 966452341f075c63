import PyProof.Rows.All
import Wide.All
import OpenK.AllK
import Wide.FinOn
import HandS.ForExc
import HandS.ExcInit
import HandS.ExcSuper
import HandS.Nested
import HandS.FStr
import KE.KExcSuper
import HandS.ClsMeth
import HandS.Star
import HandS.Strs
import HandS.IsInst
import HandS.ExcIs
import HandS.ExcField
import HandS.TupLe
import HandS.Codes
import HandS.ForMost
import KE.KExcIs
import PySem.Challenge.RW_letforget_k05_marks_in_order
set_option Elab.async false
set_option linter.all false
set_option maxRecDepth 100000
set_option maxHeartbeats 4000000
/-! An own error class over ValueError whose __init__ begins with super().__init__(..): its __init__ as a def, its making. -/
namespace Kx
open PySem PySem.Spec PyProof.Rows L2 NdefX
/-- what the written part says of such a class -/
structure SupC (K : PySem.W.Frag) (C : Addr) : Prop where
  oex : OexC K C
  sup : PySem.W.ks_superIn K C C "__init__" = some (some (.builtin "ValueError.__init__"))
  subV : PySem.W.subIn K (.ref C) (.type "ValueError") = some true
  mro : PySem.W.mroIn K C (.ref C) = some true
  opq : PySem.W.nsIn K cStatics "thirdparty.any" = some none
/-- what it says of the __init__: its code's file, the cell of __class__ -/
structure SupF (K : PySem.W.Frag) (P : Program) (C f : Addr) (fd : FuncData) (cda cc : Addr) (me : Str) : Prop where
  fn : ∃ oc od osl, K.lookup f = some ⟨oc, od, .func fd, osl⟩
  head : ∃ ar : Arg, (fd.params.posonlyargs ++ fd.params.args).head? = some ar ∧ ar.arg = me
  code : ∃ (ccl : Value) (cdd : Option Addr) (vs : Array Value) (ccs : Array (Option Value)) (file : Str) (tf : Tok), K.lookup cda = some ⟨ccl, cdd, .fields vs, ccs⟩ ∧ vs[2]? = some (.str file tf) ∧ ((P.main.file : Str) == file) = true
  cell : ∃ (cl : Value) (cld : Option Addr) (csl : Array (Option Value)), K.lookup cc = some ⟨cl, cld, .cell (some (.ref C)), csl⟩
  top : (P.main.scope.names.lookup ("super" : Str)).isSome = false
theorem boot_super : bootBuiltins "super" = some (.type "super") := by decide +kernel
section
variable {X : Cx} {pins : List (Addr × Obj)} {σ : L2.St} {H : Hp} {s : Shared} {a C f cda cc : Addr} {fd : FuncData} {me : Str} {i : Nat} {e : Expr} {es : List Expr} {ta : TA} {p0 p1 p2 p3 p4 : Pos} {body : List Stmt}
/-- ValueError.__init__ bound to such an object, called -/
theorem bw_ok {u : Addr} {us : List Value} {Q : Value → Shared → Prop} {A : Around} {E : Value → Shared → Prop} (T : OexC X.K C) (I : Inv X pins σ H s) (ea : H a = some (exo a C none)) (hu : s.heap.get? u = some (PySem.W.kxs_mw "ValueError.__init__" a)) (hl : us.length ≤ sizeLine) (h : ∀ s', Inv X pins σ H s' → Q .none s') :
    wpAny (model X.prog X.w) A (call (.ref u) us) Q E s := by
  obtain ⟨nm, q, N, bs, bm, sn, sub, ab, col, dd, k0, k1, k2, k3, k5, hC, hbm⟩ := T.cls
  obtain ⟨t1, ho⟩ := exo_at I.hok ea
  have hC' := I.kIn _ _ hC
  obtain ⟨hp, g, d, t, os⟩ := s
  have fin : ∀ h' t2, (∀ b o, b ≠ a → hp.get? b = some o → h'.get? b = some o) → h'.get? a = some (PySem.HandSPX.excO C t2) → Q .none ⟨h', g, d, t, os⟩ := fun h' t2 k hx => by
    have J := I.write (t' := t) (x := a) (e := a) (o := exo a C none) (by rw [ea]; exact True.intro) (.inl rfl) k ⟨_, hx⟩ (exo_ok hx)
    have eu : upd H a (exo a C none) = H := by
      funext b
      by_cases hb : b = a
      · rw [hb, upd_same, ea]
      · rw [upd_ne hb]
    rw [eu] at J
    exact h _ J
  refine wpAny_call (codeAny_of_tree ?_)
  show wpAny _ A.in1 (callAny (.ref u) ⟨us, []⟩) _ _ _
  simp only [callAny]
  refine wpAny_bind (wpAny_load hu ?_)
  simp only [PySem.W.kxs_mw, show (Value.type "method-wrapper" == Value.type "method" || Value.type "method-wrapper" == Value.type "builtin_function_or_method" || Value.type "method-wrapper" == Value.type "method-wrapper") = true by decide, if_true]
  refine PySem.W.KFB.if_so (by decide) ?_
  refine wpAny_bind (PySem.W.check_bound_init F.excBase_ValueError.toExcCallFacts hC' ho rfl ?_)
  refine wpAny_bind (wpAny_pure (wpAny_pure ?_))
  refine ⟨plainId_quiet F.excBase_ValueError.init.plain _, codeAny_builtin F.excBase_ValueError.initEntry ?_⟩
  rw [Around.under_plainId F.excBase_ValueError.init.plain _]
  refine PySem.W.exc_init_tree (cls := .ref C) (t0 := t1) (dv := none) (c2 := .none) (c3 := .none) (b4 := .bool false) ho hl fun h' k e' t' => ?_
  exact fin h' _ k e'
/-- super().__init__(e, ..) as a statement of such an __init__ -/
theorem at_super {pl : Sem Bool} {D : PySem.Flow → Shared → Prop} (T : SupC X.K C) (S : SupF X.K X.prog C f fd cda cc me) (hfu : X.env.func = some f) (hco : X.env.code = .ref cda) (hce : X.env.cells.lookup ("__class__" : Str) = some cc)
    (hks : X.env.kindOf "super" = some .globalImplicit) (hkc : X.env.kindOf "__class__" = some .free) (hka : X.env.kindOf me = some .local) (hm : X.mg "super" = none) (I : Inv X pins σ H s)
    (hN : X.N[i]? = some me) (hσ : σ[i]? = some (some (.ref a))) (ea : H a = some (exo a C none)) (ha : PA X (e :: es) ta)
    (h : ta σ H fun vs H1 => vs.length ≤ 1000 ∧ H1 a = some (exo a C none) ∧ ∀ s', Inv X pins σ H1 s' → D .next s')
    (hi : interactive X.env = false := by rfl) (hs : swapsWith (.Call (.Attribute (.Call (.Name "super" p0) [] [] p1) "__init__" p2) (e :: es) [] p3) none p4.line X.env = pure false := by rfl)
    (he : starEach (e :: es) X.env = (false, eval e X.env) :: starEach es X.env := by rfl) (hpl : (backTo p3 (starEach es X.env)).any (·.1) = false := by rfl)
    (hev : eval (.Call (.Attribute (.Call (.Name "super" p0) [] [] p1) "__init__" p2) (e :: es) [] p3) X.env = (do
      let ov ← attributeBase (.Call (.Name "super" p0) [] [] p1) "__init__" X.env (eval (.Call (.Name "super" p0) [] [] p1) X.env)
      standAt p2.atName
      let (f, first) ← holding [ov] (getMethod ov "__init__" pl)
      callWith p3 f first (backTo p3 (starEach (e :: es) X.env)) []) := by rfl) :
    _root_.PySem.wpAt (model X.prog X.w) X.A (.func body X.env) (exec (.Expr (.Call (.Attribute (.Call (.Name "super" p0) [] [] p1) "__init__" p2) (e :: es) [] p3) p4) X.env) D X.xe s := by
  obtain ⟨oc, od, osl, lkf⟩ := S.fn
  obtain ⟨ar, hhead, hme⟩ := S.head
  obtain ⟨ccl, cdd, vs, ccs, file, tf, lkc, hvs, hfile⟩ := S.code
  obtain ⟨cl, cld, csl, lkcell⟩ := S.cell
  obtain ⟨nm, q, N, bs, bm, sn, sub, ab, col, dd, k0, k1, k2, k3, k5, hC, hbm⟩ := T.oex.cls
  have hcl : PySem.W.clsIn X.K C = some { name := nm, bases := bs, mro := .ref C :: bm, ns := N, qualname := q, hasDict := true, slotNames := sn, subclasses := sub, abstract := ab, collection := col, hasDel := false } := by unfold PySem.W.clsIn; rw [hC] <;> rfl
  have KX := I.kIn
  have hkf : X.env.scope.kind = .function := I.ok.kind
  obtain ⟨t1, ho⟩ := exo_at I.hok ea
  obtain ⟨m, hn, hl⟩ := I.loc
  obtain ⟨u0, r0, lk0⟩ := hl i me (.ref a) hN hσ (.inl hka)
  cases (show u0 = Value.ref a from r0)
  have hm0 : m me = some (.ref a) := by
    rcases lk0 with ⟨_, z⟩ | ⟨z, _⟩
    · exact z
    · rw [hka] at z
      rcases z with z | z <;> cases z
  obtain ⟨mb, hmb1, hmb2⟩ := I.mod.blt
  refine PySem.ks_wpAt_Expr_any ?_ hi hs
  refine PySem.ks_wpAt_MethodCall ?_ hev
  refine PySem.ks_wpAt_super_base hks hkc (by decide) hfu (KX _ _ lkf) rfl hhead hco (KX _ _ lkc) rfl hvs hfile S.top ?_
  refine PySem.W.ks_loadName_global hkf hks (PySem.Calls.loadGlobal_builtin (mb := mb) (by rw [I.ok.glob]; exact I.mod.glob.keeps I.bk) hm (by rw [I.ok.blt]; exact hmb1.keeps I.bk) ((hmb2 _ (by decide +kernel)).trans boot_super) ⟨rfl, ?_⟩)
  refine wpAny_loadName_free hkf hkc hce (v := .ref C) ⟨_, KX _ _ lkcell, rfl⟩ ?_
  rw [hme]
  refine wpAny_loadName_local hkf hka hn hm0 ?_
  obtain ⟨hh, g, d, t, os⟩ := s
  refine ks_wpAny_isType_cls (KX _ _ hC) rfl ⟨rfl, ?_⟩
  have hsub : PySem.W.Looks (model X.prog X.w) hh (isSubtype (.ref C) (.ref C)) true := PySem.W.looks_mroIn KX T.mro
  refine PySem.ks_wpAny_call_super (KX _ _ hC) rfl ho rfl (fun c e => by cases e) hsub (fun h1 e1 k1' => ?_)
  have I1 : Inv X pins σ H ⟨h1, g, d, t, os⟩ := I.kept (h' := h1) (t' := t) k1'
  have hI : PySem.W.Looks (model X.prog X.w) h1 (isInstance (.ref a) (.type "ValueError")) true := (show PySem.W.InstAt h1 a _ C none from ⟨k1' _ _ ho, rfl, rfl, trivial⟩).type.andThen (PySem.W.looks_subIn I1.kIn T.subV)
  have hsup := T.sup
  unfold PySem.W.ks_superIn at hsup
  rw [hcl] at hsup
  refine PySem.W.kxs_getMethod PySem.W.kxs_ValueError e1 (PySem.W.looks_opaque I1.kIn T.opq) (l₀ := .ref C :: bm) ?_ rfl I1.kIn hsup hI ?_ (by decide) ?_
  · exact fun A Q E s k q => wpAny_bind ((PySem.W.looks_clsIn I1.kIn hcl) A _ E s k (wpAny_pure q))
  · exact PySem.W.ks_ne (odx := none) I1.kIn (⟨k1' _ _ ho, rfl, rfl, trivial⟩ : PySem.W.InstAt h1 a _ C none) hcl
  have hsz : h1.objs.size ≤ h1.objs.size := Nat.le_refl _
  have I2 : Inv X pins σ H ⟨h1.push (PySem.W.kxs_mw "ValueError.__init__" a), g, d, t + 1, os⟩ := I1.kept (t' := t + 1) fun b o e => Heap.get?_push_of_some _ e
  have hu : (h1.push (PySem.W.kxs_mw "ValueError.__init__" a)).get? h1.objs.size = some (PySem.W.kxs_mw "ValueError.__init__" a) := Heap.get?_push_size _ rfl
  have fp : FpOk X pins H h1.objs.size := I1.fpOk hsz (I1.hok.fresh hsz)
  have I3 := I2.pinned (fp := [h1.objs.size]) (fun b hb => by rw [List.mem_singleton.mp hb]; exact fp) (fun b hb => by
    rw [List.mem_singleton.mp hb]
    exact ⟨_, hu, fun v z => by cases z⟩)
  refine PySem.W.kxs_callWith (i := "ValueError.__init__") (x := a) (by rw [he]; show (false || (backTo p3 (starEach es X.env)).any (·.1)) = false; rw [hpl]; rfl) ?_
  rw [he]
  refine PySem.Calls.evalArgs_plain ?_
  have har := ha.run p3 _ _ σ H _ I3 h
  rw [he] at har
  refine thn har fun us s4 ⟨vs, H4, I4, r4, hlen, ea4, fin⟩ => ?_
  have pin4 := (I4.pin (h1.objs.size, PySem.W.kxs_mw "ValueError.__init__" a) (List.mem_append_right _ (List.mem_append_right _ (mem_pinsAt (List.mem_singleton.mpr rfl) hu)))).1
  refine ⟨pin4, ?_⟩
  rw [List.nil_append]
  refine bw_ok T.oex I4.unpinned ea4 pin4 ?_ fun s5 I5 => fin s5 I5
  rw [← r4.length, sizeLine_eq]
  omega
end
section
variable {P : Program} {w : World} {K : PySem.W.Frag} {mg : Str → Option Value} {base : Heap} {CX : CXT}
abbrev supSt (p0 p1 p2 p3 p4 : Pos) (e : Expr) : Stmt := .Expr (.Call (.Attribute (.Call (.Name "super" p0) [] [] p1) "__init__" p2) [e] [] p3) p4
/-- THE RULE: such an __init__ keeps its promise, by its one argument's reading and the rest of its body -/
theorem fn_super {k : Nat} {f C cda cc : Addr} {fd : FuncData} {name qual me : Str} {params : Arguments} {p0 p1 p2 p3 p4 : Pos} {e : Expr} {rest : List Stmt} {scope : Scope} {kV doc pm ct : Value} {an : Option Addr} {N ps : List Str} {sp : Sp}
    (S : SupF K P C f fd cda cc me) (T : SupC K C) (hfd : fd = PySem.W.fnX name qual params (supSt p0 p1 p2 p3 p4 e :: rest) scope [("__class__", cc)] .none kV doc pm an (.ref cda) ct) (hcd : PySem.W.codeIn K (.ref cda) qual = true) (NS : NScope N ps ["__class__"] scope) (hm : mg "super" = none)
    (hN : N[0]? = some me) (hps : 0 < ps.length) (hks : scope.names.lookup ("super" : Str) = some .globalImplicit) (hka : scope.names.lookup me = some .local) (len : ∀ vs H Q E, sp vs H Q E → vs.length = ps.length)
    (hbody : ∀ (A : Around) (outer : List Env) (s : Shared) (H : Hp) (vs : List V) (Q : VK) (E : XK), Room k (A.deeper (envF ⟨name, qual, params, supSt p0 p1 p2 p3 p4 e :: rest, scope, [("__class__", cc)], cda⟩ f s.heap.objs.size)) → sp vs H Q E →
      ∃ (a : Addr) (te : TE) (t : TS), vs[0]? = some (.ref a) ∧ H a = some (exo a C none) ∧ PE (ncx CX P w K mg base N ⟨name, qual, params, supSt p0 p1 p2 p3 p4 e :: rest, scope, [("__class__", cc)], cda⟩ f A outer s H E) e te ∧
        PSs (ncx CX P w K mg base N ⟨name, qual, params, supSt p0 p1 p2 p3 p4 e :: rest, scope, [("__class__", cc)], cda⟩ f A outer s H E) rest t ∧
        ∀ R : Hp → Prop, (∀ H1, H1 a = some (exo a C none) → t { nx := fun _ H' => Q .non H', rt := Q } (startF N vs [some (.ref C)]) H1 → R H1) → te (startF N vs [some (.ref C)]) H fun _ H1 => R H1)
    (hev : ∀ env : Env, ∃ pl : Sem Bool, eval (.Call (.Attribute (.Call (.Name "super" p0) [] [] p1) "__init__" p2) [e] [] p3) env = (do
      let ov ← attributeBase (.Call (.Name "super" p0) [] [] p1) "__init__" env (eval (.Call (.Name "super" p0) [] [] p1) env)
      standAt p2.atName
      let (f, first) ← holding [ov] (getMethod ov "__init__" pl)
      callWith p3 f first (backTo p3 (starEach [e] env)) []))
    (hse : ∀ env : Env, starEach [e] env = [(false, eval e env)])
    (hsw : ∀ env : Env, swapsWith (.Call (.Attribute (.Call (.Name "super" p0) [] [] p1) "__init__" p2) [e] [] p3) none p4.line env = pure false) :
    FnOk P w K mg base CX (k + 1) f fd ps sp := by
  refine ⟨len, fun A outer s H args us vs Q E hr e0 hb r hsp => ?_⟩
  subst hfd
  have hl := len _ _ _ _ hsp
  have KX : K.In s.heap := e0.mod.kin.keeps fun b o e => (e0.bs b o e).1
  have lim : s.heap.NoLimit := e0.mod.nolimit.keeps fun b o e => (e0.bs b o e).1
  obtain ⟨oc, od, osl, lk⟩ := S.fn
  obtain ⟨cl, cld, csl, lkcell⟩ := S.cell
  have hcl : s.heap.get? cc = some ⟨cl, cld, .cell (some (.ref C)), csl⟩ := KX _ _ lkcell
  have hHc : H cc = none := (e0.bs _ _ (e0.mod.kin _ _ lkcell)).2
  have one : ∀ (y : Str) (c : Addr), ([(("__class__" : Str), cc)] : List (Str × Addr)).lookup y = some c → y = "__class__" ∧ c = cc := fun y c h => by
    have hm := PySem.mem_of_lookup h
    rw [List.mem_singleton] at hm
    exact ⟨congrArg Prod.fst hm, congrArg Prod.snd hm⟩
  have look1 : ([(("__class__" : Str), cc)] : List (Str × Addr)).lookup ("__class__" : Str) = some cc := by simp [List.lookup]
  have CA : CellsAt [(("__class__" : Str), cc)] ["__class__"] [some (V.ref C)] s.heap H := by
    refine ⟨rfl, fun y c h => ?_, fun x y c h1 h2 => (one x c h1).1.trans (one y c h2).1.symm, fun i y h => ?_⟩
    · rw [(one y c h).2]
      exact ⟨hHc, _, _, hcl, rfl⟩
    · match i, h with
      | 0, h =>
        have e : ("__class__" : Str) = y := Option.some.inj h
        subst e
        refine ⟨cc, look1, fun v hv => ?_⟩
        have ev : V.ref C = v := Option.some.inj (Option.some.inj hv)
        subst ev
        exact ⟨_, rfl, _, hcl, rfl⟩
      | i + 1, h => exact absurd h (by simp)
  refine ks_codeAny_call_defAt hr.depth (KX _ _ lk) rfl lim (PySem.W.codeRec_of KX hcd) rfl hb (fun x hx => NS.nocell x hx) (fun y hy => NS.par _ (List.of_mem_zip hy).1) (fun h₀ hns hk => ?_) NS.co NS.gen NS.kind
  obtain ⟨a, te, t, h0, ea, he, ht, hq⟩ := hbody A outer s H vs Q E (hr.deeper _) hsp
  have I := inv_startN (CX := CX) (mg := mg) (base := base) (f := f) (E := E) (h₁ := h₀) (tk := s.toks + (ps.zip us).length) (F := ⟨name, qual, params, supSt p0 p1 p2 p3 p4 e :: rest, scope, [("__class__", cc)], cda⟩) NS hr.hd e0 hl r CA hns hk
  have hσ : (startF N vs [some (V.ref C)])[0]? = some (some (.ref a)) := by
    unfold startF
    rw [List.getElem?_append_left (by rw [List.length_map]; omega), List.getElem?_map, h0]
    rfl
  have fin : ∀ {σ' : L2.St} {H' : Hp} {s' : Shared} {v : V} {u : Value}, Inv (ncx CX P w K mg base N ⟨name, qual, params, supSt p0 p1 p2 p3 p4 e :: rest, scope, [("__class__", cc)], cda⟩ f A outer s H E) [] σ' H' s' → L2.RelV v u → Q v H' → CE outer P w H s Q u s' :=
    fun {σ' H' s' v u} J rv q => ⟨v, H', J.os, J.bare, J.base, J.hok, rv, q⟩
  obtain ⟨pl, hev⟩ := hev (envF ⟨name, qual, params, supSt p0 p1 p2 p3 p4 e :: rest, scope, [("__class__", cc)], cda⟩ f s.heap.objs.size)
  refine ks_wpAt_execs_cons ?_
  refine at_super (X := ncx CX P w K mg base N ⟨name, qual, params, supSt p0 p1 p2 p3 p4 e :: rest, scope, [("__class__", cc)], cda⟩ f A outer s H E) (pl := pl) (i := 0) (ta := tCons te tNil) T S rfl rfl look1 hks (NS.frk _ (List.mem_singleton.mpr rfl)) hka hm I hN hσ ea (pa_cons he pa_nil (hse _)) ?_ ?_ (hsw _) (hse _) rfl hev
  · refine hq (fun H1 => ([()].length ≤ 1000 ∧ H1 a = some (exo a C none) ∧ ∀ s', _)) fun H1 e1 ht1 => ⟨by decide, e1, fun s' I1 => ?_⟩
    refine wpAt_of_wpAny (wpAny_mono (ht.run [] s' _ H1 _ I1 ht1) (fun fl s' hs => ?_) fun e s' hs => hs)
    cases fl with
    | ret u =>
      obtain ⟨v, σ', H', J, rv, q⟩ := hs
      exact fin J rv q
    | next =>
      obtain ⟨σ', H', J, q⟩ := hs
      exact fin (v := V.non) (u := Value.none) J rfl q
    | brk =>
      obtain ⟨_, _, _, q⟩ := hs
      exact False.elim q
    | cont =>
      obtain ⟨_, _, _, q⟩ := hs
      exact False.elim q
  · show (scope.kind == .module && _) = false
    rw [NS.kind]
    rfl
end
end Kx

namespace Kx
open PySem PySem.Spec PyProof.Rows L2 NdefX
section
variable {X : Cx} {CX : CXT} {n : Nat} {C f : Addr} {fd : FuncData} {ps : List Str} {sp : Sp} {E : XK}
/-- an operator between two instances of the class at C, by its own method -/
def rOwn (C : Addr) (sp : Sp) (E : XK) : R2 := fun x y H Q => ∃ a b dx dy fs gs, x = .ref a ∧ y = .ref b ∧ H a = some (.ins C dx fs) ∧ H b = some (.ins C dy gs) ∧ sp [.ref a, .ref b] H Q E
theorem ep_back {pins : List (Addr × Obj)} {σ : L2.St} {Q : VK} {v : Value} {s' : Shared} (h : EP X pins σ Q v s') : PySem.W.CmpBack (EP X pins σ Q) v s' := by
  obtain ⟨x, H', I, r, q⟩ := id h
  cases v with
  | notImplemented =>
    cases x with
    | non => cases (show Value.notImplemented = Value.none from r)
    | bl b => cases (show Value.notImplemented = Value.bool b from r)
    | int i => obtain ⟨t, z⟩ := r; cases z
    | str z => obtain ⟨t, z⟩ := r; cases z
    | byt z => obtain ⟨t, z⟩ := r; cases z
    | flt z => obtain ⟨t, z⟩ := r; cases z
    | ref a => cases (show Value.notImplemented = Value.ref a from r)
    | ty n => cases (show Value.notImplemented = Value.type n from r)
  | _ => exact h
theorem op_ownC {op : CmpOp} (F : FnOk X.prog X.w X.K X.mg X.base CX n f fd ps sp) (hs : PySem.W.findIn X.K (.ref C) (cmpInfo op).2.1 = some (some (.ref f))) (hf : PySem.W.isFn X.K (.ref f) = true) (hb : Binds X.K fd ps []) (hx : Passes CX X E) (hr : Room n X.A)
    (hc : ∀ v u, compareOp op v u = richCompare op v u := by intro _ _; rfl) : OpR X (compareOp op) (rOwn C sp E) := by
  intro pins s σ H x y v u Q I rx ry h
  obtain ⟨a, b, dx, dy, fs, gs, rfl, rfl, ha, hb', q⟩ := h
  cases (show v = Value.ref a from rx)
  cases (show u = Value.ref b from ry)
  obtain ⟨mA, J, _⟩ := ins_get I.hok ha
  obtain ⟨mB, J', _⟩ := ins_get I.hok hb'
  obtain ⟨od, J, _⟩ := J.look
  obtain ⟨od', J', _⟩ := J'.look
  obtain ⟨m, hF⟩ := I.fr
  rw [hc]
  refine PySem.W.cmp_K (op := op) (tb := .ref C) (by have := hr.units; omega) hF I.ok.mod.kin J J'.type (by simp [PySem.W.notFirst]) hs hf ?_
  exact thn (run_fn (us := [.ref a, .ref b]) (vs := [.ref a, .ref b]) (dvs := []) (ds := []) F hr hb .nil hx I (.cons rfl (.cons rfl .nil)) q) fun v s' z => ep_back z
theorem op_ownB {op : Operator} (F : FnOk X.prog X.w X.K X.mg X.base CX n f fd ps sp) (hs : PySem.W.findIn X.K (.ref C) (PySem.dunder op.info.2) = some (some (.ref f))) (hf : PySem.W.isFn X.K (.ref f) = true) (hsf : PySem.W.selfFirst X.K C = true) (hb : Binds X.K fd ps []) (hx : Passes CX X E) (hr : Room n X.A) :
    OpR X (binaryOp op) (rOwn C sp E) := by
  intro pins s σ H x y v u Q I rx ry h
  obtain ⟨a, b, dx, dy, fs, gs, rfl, rfl, ha, hb', q⟩ := h
  cases (show v = Value.ref a from rx)
  cases (show u = Value.ref b from ry)
  obtain ⟨mA, J, _⟩ := ins_get I.hok ha
  obtain ⟨mB, J', _⟩ := ins_get I.hok hb'
  obtain ⟨od, J, _⟩ := J.look
  obtain ⟨od', J', _⟩ := J'.look
  obtain ⟨m, hF⟩ := I.fr
  refine PySem.W.binop_K hF I.ok.mod.kin J J'.type hsf hs hf ?_
  exact thn (run_fn (us := [.ref a, .ref b]) (vs := [.ref a, .ref b]) (dvs := []) (ds := []) F hr hb .nil hx I (.cons rfl (.cons rfl .nil)) q) fun v s' z => ep_back z
end
/-! ### isinstance of a caught error that has its own dict -/
section
variable {X : Cx}
/-- isinstance(e, c), e the caught exception at a of the class at D, its dict at d -/
def rIsD (K : PySem.W.Frag) (D a d : Addr) : List V → Hp → VK → Prop := fun xs H Q => ∃ (c : V) (cv : Value) (fs : List (Str × V)) (b : Bool), xs = [.ref a, c] ∧ H d = some (.xd fs) ∧ (∀ u, RelV c u → u = cv) ∧ PySem.W.kitOne K (.ref D) cv = some b ∧ Q (.bl b) H
theorem call_isD {a D d : Addr} {oe : Obj} {pn : List (Addr × Obj)} (C : ExcC X.K D) (hz : Zc (.ref D) (some d) oe) (hf : ∃ vs, oe.data = .fields vs) : CallR (X.suite a ((a, oe) :: pn)) (.builtin "isinstance") (rIsD X.K D a d) := by
  intro pins s σ H xs us Q I r h
  obtain ⟨c, cv, fs, b, rfl, ed, hcv, e, q⟩ := h
  cases r with
  | cons rx rr =>
    cases rr with
    | cons rt rr =>
      cases rr
      cases rx
      have ec := hcv _ rt
      subst ec
      obtain ⟨hget, _⟩ := I.pin (a, oe) (List.mem_append.mpr (.inl List.mem_cons_self))
      obtain ⟨vs, hv⟩ := hf
      have hx : ObjOk X.prog X.w H s.heap d (.xd fs) := I.hok d _ ed
      obtain ⟨mA, hns, hr⟩ := hx
      obtain ⟨od, ho, hl⟩ := lookIn_ns hns
      have J : PySem.W.InstAt s.heap a oe D (some od) := ⟨hget, hz.1, by unfold PySem.W.notCls; rw [hv] <;> rfl, by rw [hz.2]; exact ho⟩
      have hcl : (PySem.W.clsIn X.K D).isSome = true := by
        obtain ⟨cd, hc, _⟩ := PySem.W.any_some C.hd
        rw [hc]; rfl
      exact PySem.W.kia_one (PySem.W.kitx_exc hcl C.hg C.hk C.hs C.ha C.hn C.ht C.hm) I.kIn J e (fun z => nomatch z) fun tk => ⟨.bl b, H, I.kept (t' := tk) fun _ _ z => z, rfl, q⟩
end
end Kx

namespace Kx
open PySem PySem.Spec PyProof.Rows L2
/-! ### a def as its callers see it; a constant of the module -/
def Cal (P : Program) (w : World) (K : PySem.W.Frag) (mg : Str → Option Value) (base : Heap) (x : Str) (k : Nat) (sp : Sp) : Prop :=
  ∃ (f : Addr) (fd : FuncData) (ps : List Str), FnOk P w K mg base CX0 k f fd ps sp ∧ Binds K fd ps [] ∧ mg x = some (.ref f) ∧ PySem.W.keepIn K (.ref f) = true
theorem pe_cal {X : Cx} {x : Str} {k : Nat} {sp : Sp} {e : Expr} {es : List Expr} {t : TA} {p pos : Pos} (C : Cal X.prog X.w X.K X.mg X.base x k sp) (hr : Room k X.A) (hg : Gl X x) (ha : PA X (e :: es) t)
    (hdb : (x == ("__debug__" : Str)) = false := by decide) (he : starEach (e :: es) X.env = (false, eval e X.env) :: starEach es X.env := by rfl) (hpl : (backTo pos (starEach es X.env)).any (·.1) = false := by rfl) :
    PE X (.Call (.Name x p) (e :: es) [] pos) (tCall sp [] E0 t) := by
  obtain ⟨f, fd, ps, F, b, g, kp⟩ := C
  exact pe_call F hr hg g kp b .nil pass0 ha hdb he hpl
theorem pe_cal0 {X : Cx} {x : Str} {k : Nat} {sp : Sp} {p pos : Pos} (C : Cal X.prog X.w X.K X.mg X.base x k sp) (hr : Room k X.A) (hg : Gl X x)
    (hdb : (x == ("__debug__" : Str)) = false := by decide) : PE X (.Call (.Name x p) [] [] pos) (tCall sp [] E0 tNil) := by
  obtain ⟨f, fd, ps, F, b, g, kp⟩ := C
  exact pe_call0 F hr hg g kp b .nil pass0 hdb
def GC (mg : Str → Option Value) (x : Str) (v : V) : Prop := ∃ u, mg x = some u ∧ RelV v u
theorem pe_gc {X : Cx} {x : Str} {v : V} {pos : Pos} (h : GC X.mg x v) (hg : Gl X x) (hd : (x == ("__debug__" : Str)) = false := by decide) : PE X (.Name x pos) (tC v) := by
  obtain ⟨u, hm, r⟩ := h
  exact pe_glob hg hm r hd
theorem same_upd {H : Hp} {p : Addr} {o : HO} (h : H p = none) : Same H (upd H p o) := fun b x e => by
  rw [upd_ne (ne_of_none e h)]
  exact e
/-- what lies at an address that H did not know may change -/
theorem same_mut {H H1 : Hp} {p : Addr} {o : HO} (s : Same H H1) (h : H p = none) : Same H (upd H1 p o) := fun b x e => by
  rw [upd_ne (ne_of_none e h)]
  exact s b x e
theorem iteB {b : Bool} {A B : Prop} (h1 : b = true → A) (h2 : b = false → B) : if b = true then A else B := by
  cases b with
  | true => exact h1 rfl
  | false => exact h2 rfl
theorem sz9 {n : Nat} (h : n ≤ 100000) : n ≤ sizeLine := Nat.le_trans h (by decide)
theorem sz8 {n : Nat} (h : n < 100000) : n < sizeLine := Nat.lt_of_lt_of_le h (by decide)
/-- what a pool of draws is -/
def inR (v : Int) : Prop := 0 ≤ v ∧ v < 65536
structure Pool (ms : List Int) : Prop where
  lo : 3 ≤ ms.length
  hi : ms.length ≤ 200
  rg : ∀ v ∈ ms, inR v
def spDraws (K : PySem.W.Frag) : Sp := fun vs H Q _ => ∃ (a : Addr) (ns : List Int), vs = [.ref a] ∧ SqL K H a (ns.map V.int) ∧ ns.length ≤ 63 ∧
  ∀ H' p ms, Same H H' → H p = none → H' p = some (.lst (ms.map V.int)) → Pool ms → Q (.ref p) H'
theorem map_app (ms : List Int) (v : Int) : (ms.map V.int) ++ [V.int v] = (ms ++ [v]).map V.int := by rw [List.map_append]; rfl
theorem rg_app {ms : List Int} {v : Int} (h : ∀ x ∈ ms, inR x) (hv : inR v) : ∀ x ∈ ms ++ [v], inR x := fun x hx => by
  rcases List.mem_append.mp hx with hx | hx
  · exact h x hx
  · rw [List.mem_singleton.mp hx]; exact hv
theorem sl9 {n : Nat} (h : n < 100000) : n < sizeLine := Nat.lt_of_lt_of_le h (by decide)
variable {K : PySem.W.Frag}
theorem pe10 : ((10 : Int) ^ (18 : Int).toNat) = 1000000000000000000 := by decide
theorem eqv_nil : ∀ ms : List Int, PyData.eqv (.list (ms.map PyData.int)) (.list []) = decide (ms = [])
  | [] => by simp [PyData.eqv, PyData.eqvAll]
  | x :: r => by simp [PyData.eqv, PyData.eqvAll]
theorem dp_ints {H : Hp} : ∀ ms : List Int, DpAll K H (ms.map V.int) (ms.map PyData.int)
  | [] => .nil
  | x :: r => .cons (.int x) (dp_ints r)
theorem lay_ints : ∀ ms : List Int, PyData.canLayAll0 (ms.map PyData.int) = true
  | [] => rfl
  | x :: r => by
    rw [List.map_cons]
    simp only [PyData.canLayAll0, PyData.canLay0, lay_ints r, Bool.and_self]
theorem dep_ints : ∀ ms : List Int, PyData.depthAll (ms.map PyData.int) = 0
  | [] => rfl
  | x :: r => by
    rw [List.map_cons]
    simp only [PyData.depthAll, PyData.depth, dep_ints r, Nat.max_self]
theorem shp_ints (ms : List Int) : SeqAt.shaped (.list (ms.map PyData.int)) = true := by
  unfold SeqAt.shaped
  simp only [PyData.canLay0, PyData.depth, lay_ints, dep_ints, Bool.true_and]
  decide
def nthV (ms : List Int) (k : Int) : Int := if k < (ms.length : Int) then ms.getD k.toNat 0 else (ms.getD (k % (ms.length : Int)).toNat 0 * 31 + k * 7919) % 65521
theorem getD_rg {ms : List Int} (h : ∀ v ∈ ms, inR v) {i : Nat} (hi : i < ms.length) : ms[i]? = some (ms.getD i 0) ∧ inR (ms.getD i 0) := by
  have e : ms.getD i 0 = ms[i] := by rw [List.getD_eq_getElem?_getD, List.getElem?_eq_getElem hi]; rfl
  rw [e]
  exact ⟨List.getElem?_eq_getElem hi, h _ (List.getElem_mem hi)⟩
theorem nthV_rg {ms : List Int} (h : Pool ms) {k : Int} (hk : 0 ≤ k) : inR (nthV ms k) := by
  unfold nthV
  split
  · exact (getD_rg h.rg (by omega)).2
  · unfold inR; constructor <;> omega
theorem at_pool {ms : List Int} {k : Int} (hk : 0 ≤ k) (hl : k < (ms.length : Int)) : atI (ms.map V.int) k = some (.int (ms.getD k.toNat 0)) := by
  obtain ⟨j, rfl⟩ : ∃ j : Nat, k = (j : Int) := ⟨k.toNat, by omega⟩
  refine atI_nat ?_
  rw [List.getElem?_map, List.getElem?_eq_getElem (by omega), List.getD_eq_getElem?_getD, Int.toNat_natCast, List.getElem?_eq_getElem (by omega)]
  rfl
def spNth (K : PySem.W.Frag) : Sp := fun vs H Q _ => ∃ (p : Addr) (ms : List Int) (k : Int), vs = [.ref p, .int k] ∧ SqL K H p (ms.map V.int) ∧ Pool ms ∧ 0 ≤ k ∧ k < 1000000 ∧ Q (.int (nthV ms k)) H
def SIG1 : Str := " !\"#$&'()*+,-./0123456789:;<=>?@ABCDEFGHIJKLMNOPQRSTUVWXYZ[\\]^_`"
def SIG2 : Str := "abcdefghijklmnopqrstuvwxyz{|}~\n"
def SIGS : List Nat := (SIG1 ++ SIG2).cps.toList
def signV (k : Int) : Nat := SIGS.getD (k % 95).toNat 0
theorem sigs_len : SIGS.length = 95 := by decide +kernel
theorem sigs_len2 : (SIG1 ++ SIG2).length = 95 := by decide +kernel
theorem sig12 : SIG1.length + SIG2.length ≤ 1000 := by decide +kernel
def okS (c : Nat) : Bool := c == 10 || (decide (32 ≤ c) && decide (c ≤ 126) && c != 37)
theorem sigs_ok : SIGS.all okS = true := by decide +kernel
theorem at_sig (k : Int) : atI SIGS (k % 95) = some (signV k) := by
  have h0 : 0 ≤ k % 95 := by omega
  obtain ⟨j, hj⟩ : ∃ j : Nat, k % 95 = (j : Int) := ⟨(k % 95).toNat, by omega⟩
  unfold signV
  rw [hj, Int.toNat_natCast]
  refine atI_nat ?_
  have hl : j < SIGS.length := by rw [sigs_len]; omega
  rw [List.getElem?_eq_getElem hl, List.getD_eq_getElem?_getD, List.getElem?_eq_getElem hl]
  rfl
theorem signV_ok (k : Int) : okS (signV k) = true := by
  have hl : (k % 95).toNat < SIGS.length := by rw [sigs_len]; omega
  unfold signV
  rw [List.getD_eq_getElem?_getD, List.getElem?_eq_getElem hl]
  exact List.all_eq_true.mp sigs_ok _ (List.getElem_mem hl)
def spSign : Sp := fun vs H Q _ => ∃ k : Int, vs = [.int k] ∧ Q (.str ⟨#[signV k]⟩) H
def spSaid : Sp := fun vs H Q _ => ∃ a b : Bool, vs = [.bl a, .bl b] ∧ Q (.bl (decide (a = b))) H
/-- the built-ins that every law's own defs ask -/
structure TB (mg : Str → Option Value) : Prop where
  m_len : mg "len" = none
  m_abs : mg "abs" = none
  m_int : mg "int" = none
  m_range : mg "range" = none
/-! ### the end: what the top has written -/
/-- a def of the top, as k_is finds it -/
structure At (K : PySem.W.Frag) (x : Str) (st : Stmt) (f : Addr) (fd : FuncData) : Prop where
  a : PySem.W.nsIn K mainGlobals x = some (some (.ref f))
  F : Fun K x x st f fd
theorem gc_of {K : PySem.W.Frag} {h : Heap} {mg : Str → Option Value} (X : K.In h) (G : h.Ns mainGlobals mg) {x : Str} {v : V} {u : Value} (a : PySem.W.nsIn K mainGlobals x = some (some u)) (r : RelV v u) : GC mg x v := ⟨u, PySem.W.mg_of X G a, r⟩
theorem at_mk {K : PySem.W.Frag} {x : Str} {st : Stmt} {f : Addr} {oc : Value} {od an : Option Addr} {osl : Array (Option Value)} {kV doc pm cdv ct : Value} (a : PySem.W.nsIn K mainGlobals x = some (some (.ref f)))
    (l : K.lookup f = some ⟨oc, od, .func (PySem.W.fnOf x x (defArgs st) (defBody st) (defScope st) .none kV doc pm an cdv ct), osl⟩)
    (c : PySem.W.codeIn K cdv x = true) (k : PySem.W.keepIn K (.ref f) = true) : At K x st f (PySem.W.fnOf x x (defArgs st) (defBody st) (defScope st) .none kV doc pm an cdv ct) := ⟨a, fun_mk l c k⟩
end Kx

namespace Kx
open PySem PySem.Spec PyProof.Rows L2
def topS (i : Nat) : Stmt := PySem.Challenge.pw_letforget_k05_marks_in_order.main.body.getD i (.Pass ⟨0, 0, 0, 0⟩)
abbrev s_draws_of : Stmt := topS 8
abbrev N_draws_of : List Str := ["_law_script", "_law_pool", "_law_cell", "_law_left", "_law_k"]
theorem sc_draws_of : FnScope N_draws_of ["_law_script"] (defScope s_draws_of) := ⟨rfl, rfl, rfl, by decide +kernel, rfl, by decide +kernel, by decide +kernel⟩
abbrev s_nth : Stmt := topS 9
abbrev N_nth : List Str := ["_law_pool", "_law_k"]
theorem sc_nth : FnScope N_nth ["_law_pool", "_law_k"] (defScope s_nth) := ⟨rfl, rfl, rfl, by decide +kernel, rfl, by decide +kernel, by decide +kernel⟩
abbrev s_sign_at : Stmt := topS 10
abbrev N_sign_at : List Str := ["_law_k", "_law_signs"]
theorem sc_sign_at : FnScope N_sign_at ["_law_k"] (defScope s_sign_at) := ⟨rfl, rfl, rfl, by decide +kernel, rfl, by decide +kernel, by decide +kernel⟩
abbrev s_said : Stmt := topS 13
abbrev N_said : List Str := ["_law_told", "_law_due"]
theorem sc_said : FnScope N_said ["_law_told", "_law_due"] (defScope s_said) := ⟨rfl, rfl, rfl, by decide +kernel, rfl, by decide +kernel, by decide +kernel⟩
section
variable {P : Program} {w : World} {K : PySem.W.Frag} {mg : Str → Option Value} {base : Heap}
theorem ok_draws_of {f : Addr} {fd : FuncData} (F : Fun K "_law_draws_of" "_law_draws_of" s_draws_of f fd) (T : TB mg) : FnOk P w K mg base CX0 1 f fd ["_law_script"] (spDraws K) := by
  refine F.ok sc_draws_of (fun vs H Q E h => ?_) (fun cdv A outer s H vs Q E hr h => ?_)
  · obtain ⟨a, ns, rfl, _⟩ := h
    rfl
  · obtain ⟨a, ns, rfl, hS, hlen, q⟩ := h
    refine ⟨_, (pss_cons (ps_set (i := 1) sc_draws_of.nd rfl (Or.inl rfl) (pe_lst pa_nil))
      (pss_cons (ps_for PassesOwn.never rfl (pi_list (pv 0)) (pg_name (i := 2) sc_draws_of.nd rfl (Or.inl rfl))
        (pss_one (ps_if (pt_cmpR op_lt (pe_callB call_len_seq (by rfl) T.m_len (by decide +kernel) (pa_cons (pv 1) pa_nil)) pe_int (nomark _))
          (pss_cons (ps_set (i := 3) sc_draws_of.nd rfl (Or.inl rfl) (pe_callB call_abs (by rfl) T.m_abs (by decide +kernel) (pa_cons (pe_callTy call_int1 (by rfl) T.m_int (by decide +kernel) (pa_cons (pv 2) pa_nil)) pa_nil)))
          (pss_one (ps_if (pt_cmpR op_lt (pv 3) (pe_op op_pow pe_int pe_int) (nomark _))
            (pss_one (ps_for PassesOwn.never rfl (pi_range1 (by rfl) T.m_range (pa_cons pe_int pa_nil)) (pg_name (i := 4) sc_draws_of.nd rfl (Or.inl rfl))
              (pss_cons (ps_set (i := 3) sc_draws_of.nd rfl (Or.inl rfl) (pe_op op_mod (pe_callTy call_int1 (by rfl) T.m_int (by decide +kernel) (pa_cons (pe_op op_add (pe_op op_add (pe_op op_mul (pv 3) pe_int) (pe_op op_mul pe_int (pv 4))) pe_int) pa_nil)) pe_int))
              (pss_one (ps_expr (pe_bm PySem.F.plainAttrs_list PySem.F.slot_list_append PySem.F.type_list_append mt_append (pv 1) (pa_cons (pv 3) pa_nil)))))))
            (pss_one (ps_for PassesOwn.never rfl (pi_range1 (by rfl) T.m_range (pa_cons pe_int pa_nil)) (pg_name (i := 4) sc_draws_of.nd rfl (Or.inl rfl))
              (pss_one (ps_if (pt_cmpR op_gt (pv 3) pe_int (nomark _))
                (pss_cons (ps_expr (pe_bm PySem.F.plainAttrs_list PySem.F.slot_list_append PySem.F.type_list_append mt_append (pv 1) (pa_cons (pe_op op_mod (pe_callTy call_int1 (by rfl) T.m_int (by decide +kernel) (pa_cons (pv 3) pa_nil)) pe_int) pa_nil)))
                (pss_one (ps_set (i := 3) sc_draws_of.nd rfl (Or.inl rfl) (pe_op op_fdiv (pv 3) pe_int))))
                pss_nil)))))))
          pss_nil)))
      (pss_cons (ps_if (pt_cmpR (op_eqD hr.units) (pv 1) (pe_lst pa_nil) (nomark _))
        (pss_one (ps_set (i := 1) sc_draws_of.nd rfl (Or.inl rfl) (pe_lst (pa_cons pe_int (pa_cons pe_int (pa_cons pe_int (pa_cons pe_int (pa_cons pe_int (pa_cons pe_int (pa_cons pe_int (pa_cons pe_int (pa_cons pe_int (pa_cons pe_int (pa_cons pe_int (pa_cons pe_int (pa_cons pe_int pa_nil))))))))))))))))
        pss_nil)
      (pss_one (ps_ret (pv 1)))))), ?_⟩
    refine ⟨Nat.zero_le _, fun o no => ?_⟩
    -- the loop over the script
    refine ⟨.ref a, rfl, a, rfl, ⟨_, (same_upd no).seq hS⟩, ?_⟩
    refine for_list (xs := ns.map V.int) (fun i σ H1 => ∃ x2 x3 x4 ms, σ = [some (.ref a), some (.ref o), x2, x3, x4] ∧ Same H H1 ∧ H1 o = some (.lst (ms.map V.int)) ∧ ms.length ≤ 132 ∧ (ms = [] ∨ 3 ≤ ms.length) ∧ ∀ v ∈ ms, inR v)
      ⟨none, none, none, [], rfl, same_upd no, upd_same, Nat.zero_le _, .inl rfl, fun v hv => nomatch hv⟩ ?_ ?_ ?_
    · rintro i σ H1 _ ⟨_, _, _, ms, _, sm, _⟩
      exact sm.seq hS
    · rintro i x σ H1 hx ⟨x2, x3, x4, ms, rfl, sm, eo, hm, h3, hrg⟩
      obtain ⟨n, rfl⟩ : ∃ n : Int, x = .int n := by
        rw [List.getElem?_map] at hx
        cases e : ns[i]? with
        | none => rw [e] at hx; cases hx
        | some n => rw [e] at hx; exact ⟨n, (Option.some.inj hx).symm⟩
      refine ⟨_, rfl, o, _, rfl, .inl (.inl (.inl eo)), _, _, rfl, rfl, _, rfl, iteB (fun h1 => ?_) (fun h1 => ?_)⟩
      · have hl72 : ms.length < 72 := by
          have := of_decide_eq_true h1
          rw [List.length_map] at this
          omega
        refine ⟨_, rfl, .inl ⟨n, rfl, n, rfl, ?_⟩⟩
        generalize hL : (if n < 0 then -n else n) = L
        have hL0 : 0 ≤ L := by rw [← hL]; split <;> omega
        refine ⟨_, rfl, _, _, rfl, rfl, ⟨by decide, by decide, by decide⟩, _, _, rfl, rfl, _, rfl, iteB (fun h2 => ?_) (fun h2 => ?_)⟩
        · have hL1 : L < 1000000000000000000 := by rw [← pe10]; exact of_decide_eq_true h2
          refine ⟨3, rfl, by decide, by decide, ?_⟩
          refine for_range (lo := 0) (n := 3) (fun i σ H2 => ∃ x4 L ms', σ = [some (.ref a), some (.ref o), some (.int n), some (.int L), x4] ∧ Same H H2 ∧ H2 o = some (.lst (ms'.map V.int)) ∧ ms'.length = ms.length + i ∧ (∀ v ∈ ms', inR v) ∧ 0 ≤ L ∧ L < 1000000000000000000) 
            ⟨x4, L, ms, rfl, sm, eo, rfl, hrg, hL0, hL1⟩ ?_ ?_
          · rintro i σ H2 hi ⟨x4, L, ms', rfl, sm2, eo2, hm2, hrg2, hLa, hLb⟩
            refine ⟨_, rfl, _, _, rfl, rfl, .inl ⟨by omega, by omega⟩, _, rfl, _, _, rfl, rfl, .inl ⟨by decide, by decide⟩, _, _, rfl, rfl, _, _, rfl, rfl, .inl ⟨_, rfl, _, _, rfl, rfl, (by show (0 : Int) < 65521; decide), ?_⟩⟩
            refine ⟨_, rfl, .inl ⟨rfl, _, .inl (.inl eo2)⟩, _, rfl, o, _, _, rfl, rfl, eo2, sl9 (by rw [List.length_map]; omega), ?_⟩
            have hvr : inR ((L * 30011 + 7919 * (0 + (i : Int)) + 977) % 65521) := by constructor <;> omega
            refine ⟨_, (L * 30011 + 7919 * (0 + (i : Int)) + 977) % 65521, ms' ++ [(L * 30011 + 7919 * (0 + (i : Int)) + 977) % 65521], rfl, same_mut sm2 no, ?_, by rw [List.length_append, List.length_singleton]; omega, rg_app hrg2 hvr, hvr.1, by have := hvr.2; omega⟩
            rw [upd_same, map_app]
          · rintro σ H2 ⟨x4, L, ms', rfl, sm2, eo2, hm2, hrg2, hLa, hLb⟩
            exact ⟨_, _, _, ms', rfl, sm2, eo2, by omega, .inr (by omega), hrg2⟩
        · have hL1 : 1000000000000000000 ≤ L := by
            have := of_decide_eq_false h2
            rw [pe10] at this
            omega
          refine ⟨60, rfl, by decide, by decide, ?_⟩
          refine for_range (lo := 0) (n := 60) (fun i σ H2 => ∃ x4 L ms', σ = [some (.ref a), some (.ref o), some (.int n), some (.int L), x4] ∧ Same H H2 ∧ H2 o = some (.lst (ms'.map V.int)) ∧ ms'.length ≤ ms.length + i ∧ (∀ v ∈ ms', inR v) ∧ 0 ≤ L ∧
              (i = 0 → 1000000000000000000 ≤ L) ∧ (i = 1 → 10000000000 ≤ L ∧ 1 ≤ ms'.length) ∧ (i = 2 → 100000 ≤ L ∧ 2 ≤ ms'.length) ∧ (3 ≤ i → 3 ≤ ms'.length)) 
            ⟨x4, L, ms, rfl, sm, eo, Nat.le_refl _, hrg, hL0, fun _ => hL1, by omega, by omega, by omega⟩ ?_ ?_
          · rintro i σ H2 hi ⟨x4, L, ms', rfl, sm2, eo2, hm2, hrg2, hLa, c0, c1, c2, c3⟩
            refine ⟨_, rfl, _, _, rfl, rfl, _, rfl, iteB (fun h4 => ?_) (fun h4 => ?_)⟩
            · refine ⟨_, rfl, .inl ⟨rfl, _, .inl (.inl eo2)⟩, _, rfl, .inl ⟨_, rfl, _, _, rfl, rfl, (by show (0 : Int) < 65536; decide), o, _, _, rfl, rfl, eo2, sl9 (by rw [List.length_map]; omega), ?_⟩⟩
              refine ⟨_, rfl, _, _, rfl, rfl, ⟨by decide, by decide⟩, ?_⟩
              have hvr : inR (L % 65536) := by constructor <;> omega
              refine ⟨_, L / 65536, ms' ++ [L % 65536], rfl, same_mut sm2 no, ?_, by rw [List.length_append, List.length_singleton]; omega, rg_app hrg2 hvr, by omega, by omega, ?_, ?_, ?_⟩
              · rw [upd_same, map_app]
              · intro e; rw [List.length_append, List.length_singleton]; have := c0 (by omega); constructor <;> omega
              · intro e; rw [List.length_append, List.length_singleton]; have := c1 (by omega); constructor <;> omega
              · intro e; rw [List.length_append, List.length_singleton]
                by_cases e2 : i = 2
                · have := c2 e2; omega
                · have := c3 (by omega); omega
            · have h4' : ¬ (0 < L) := of_decide_eq_false h4
              refine ⟨_, L, ms', rfl, sm2, eo2, by omega, hrg2, hLa, by omega, ?_, ?_, ?_⟩
              · intro e; have := c0 (by omega); omega
              · intro e; have := c1 (by omega); omega
              · intro e
                by_cases e2 : i = 2
                · have := c2 e2; omega
                · exact c3 (by omega)
          · rintro σ H2 ⟨x4, L, ms', rfl, sm2, eo2, hm2, hrg2, hLa, c0, c1, c2, c3⟩
            exact ⟨_, _, _, ms', rfl, sm2, eo2, by omega, .inr (c3 (by omega)), hrg2⟩
      · exact ⟨_, _, _, ms, rfl, sm, eo, hm, h3, hrg⟩
    · rintro σ H1 ⟨x2, x3, x4, ms, rfl, sm, eo, hm, h3, hrg⟩
      refine ⟨_, rfl, Nat.zero_le _, fun p np => ?_⟩
      have nop : o ≠ p := ne_of_none eo np
      refine ⟨_, .list [], .lst (.inl (.inl ((upd_ne nop).trans eo))) (dp_ints ms), .lst (.inl (.inl upd_same)) .nil, shp_ints ms, by decide, _, rfl, iteB (fun h1 => ?_) (fun h1 => ?_)⟩
      · refine ⟨by show 13 ≤ sizeLine; decide, fun r nr => ⟨_, rfl, ?_⟩⟩
        have s1 : Same H (upd H1 p (.lst [])) := sm.trans (same_upd np)
        refine q _ r [2, 10, 1, 0, 4, 0, 1052, 0, 148, 26, 132, 0, 20] (s1.trans (same_upd nr)) (s1.free nr) upd_same ⟨by decide, by decide, ?_⟩
        intro v hv
        simp only [List.mem_cons, List.not_mem_nil, or_false] at hv
        unfold inR
        omega
      · rw [eqv_nil] at h1
        have h3' : 3 ≤ ms.length := by
          rcases h3 with rfl | h3
          · simp at h1
          · exact h3
        refine ⟨_, rfl, ?_⟩
        refine q _ o ms (sm.trans (same_upd np)) no ((upd_ne nop).trans eo) ⟨h3', by omega, hrg⟩
theorem ok_nth {f : Addr} {fd : FuncData} (F : Fun K "_law_nth" "_law_nth" s_nth f fd) (T : TB mg) : FnOk P w K mg base CX0 1 f fd ["_law_pool", "_law_k"] (spNth K) := by
  refine F.ok sc_nth (fun vs H Q E h => ?_) (fun cdv A outer s H vs Q E hr h => ?_)
  · obtain ⟨p, ms, k, rfl, _⟩ := h
    rfl
  · obtain ⟨p, ms, k, rfl, hS, hP, hk0, hk1, q⟩ := h
    refine ⟨_, (pss_cons (ps_if (pt_cmpR op_lt (pv 1) (pe_callB call_len_seq (by rfl) T.m_len (by decide +kernel) (pa_cons (pv 0) pa_nil)) (nomark _))
        (pss_one (ps_ret (pe_ix ix_list (pv 0) (pv 1) (fun _ _ => rfl))))
        pss_nil)
      (pss_one (ps_ret (pe_op op_mod (pe_callTy call_int1 (by rfl) T.m_int (by decide +kernel) (pa_cons (pe_op op_add (pe_op op_mul (pe_ix ix_list (pv 0) (pe_op op_mod (pv 1) (pe_callB call_len_seq (by rfl) T.m_len (by decide +kernel) (pa_cons (pv 0) pa_nil))) (fun _ _ => rfl)) pe_int) (pe_op op_mul (pv 1) pe_int)) pa_nil)) pe_int)))), ?_⟩
    have hl : (ms.map V.int).length = ms.length := List.length_map _
    have hlo := hP.lo
    refine ⟨_, rfl, _, rfl, p, _, rfl, .inl hS, _, _, rfl, rfl, _, rfl, iteB (fun h1 => ?_) (fun h1 => ?_)⟩
    · have h1' : k < (ms.length : Int) := by have := of_decide_eq_true h1; rw [hl] at this; exact this
      refine ⟨_, rfl, _, rfl, p, _, k, _, rfl, rfl, hS, at_pool hk0 h1', ?_⟩
      have e : nthV ms k = ms.getD k.toNat 0 := if_pos h1'
      rw [← e]
      exact q
    · have h1' : ¬ k < (ms.length : Int) := by have := of_decide_eq_false h1; rw [hl] at this; exact this
      have hi : (k % (ms.length : Int)).toNat < ms.length := by
        have h0 := Int.emod_nonneg k (show (ms.length : Int) ≠ 0 by omega)
        have h1 := Int.emod_lt_of_pos k (show 0 < (ms.length : Int) by omega)
        omega
      have hv := (getD_rg hP.rg hi).2
      refine ⟨_, rfl, _, rfl, _, rfl, p, _, rfl, .inl hS, _, _, rfl, rfl, (by show (0 : Int) < (((ms.map V.int).length : Nat) : Int); rw [hl]; omega), ?_⟩
      rw [hl]
      refine ⟨p, _, _, _, rfl, rfl, hS, at_pool (Int.emod_nonneg k (by omega)) (Int.emod_lt_of_pos k (by omega)), _, _, rfl, rfl, .inr ⟨by decide, by decide⟩, _, rfl, _, _, rfl, rfl, .inl ⟨by omega, by omega⟩, _, _, rfl, rfl, .inl ⟨_, rfl, _, _, rfl, rfl, (by show (0 : Int) < 65521; decide), ?_⟩⟩
      have e : nthV ms k = (ms.getD (k % (ms.length : Int)).toNat 0 * 31 + k * 7919) % 65521 := if_neg h1'
      rw [e] at q
      exact q
theorem ok_sign_at {f : Addr} {fd : FuncData} (F : Fun K "_law_sign_at" "_law_sign_at" s_sign_at f fd) (T : TB mg) : FnOk P w K mg base CX0 1 f fd ["_law_k"] spSign := by
  refine F.ok sc_sign_at (fun vs H Q E h => ?_) (fun cdv A outer s H vs Q E hr h => ?_)
  · obtain ⟨k, rfl, _⟩ := h
    rfl
  · obtain ⟨k, rfl, q⟩ := h
    refine ⟨_, (pss_cons (ps_set (i := 1) sc_sign_at.nd rfl (Or.inl rfl) pe_str)
      (pss_cons (ps_set (i := 1) sc_sign_at.nd rfl (Or.inl rfl) (pe_op op_add_str (pv 1) pe_str))
      (pss_one (ps_ret (pe_ix ix_str (pv 1) (pe_op op_mod (pe_callTy call_int1 (by rfl) T.m_int (by decide +kernel) (pa_cons (pv 0) pa_nil)) pe_int) (fun _ _ => rfl)))))), ?_⟩
    refine ⟨_, rfl, SIG1, SIG2, rfl, rfl, sz9 (by have := sig12; omega), _, rfl, _, rfl, .inl ⟨_, rfl, _, _, rfl, rfl, (by show (0 : Int) < 95; decide), ?_⟩⟩
    exact ⟨SIG1 ++ SIG2, _, signV k, rfl, rfl, sz9 (by rw [sigs_len2]; decide), at_sig k, q⟩
theorem ok_said {f : Addr} {fd : FuncData} (F : Fun K "_law_said" "_law_said" s_said f fd) : FnOk P w K mg base CX0 1 f fd ["_law_told", "_law_due"] spSaid := by
  refine F.ok sc_said (fun vs H Q E h => ?_) (fun cdv A outer s H vs Q E hr h => ?_)
  · obtain ⟨a, b, rfl, _⟩ := h
    rfl
  · obtain ⟨a, b, rfl, q⟩ := h
    refine ⟨_, (pss_cons (ps_if (pt_val (pv 1))
        (pss_one (ps_ret (pe_cmpR op_is_bl (pv 0) pe_bl (nomark _))))
        pss_nil)
      (pss_one (ps_ret (pe_cmpR op_is_bl (pv 0) pe_bl (nomark _))))), ?_⟩
    refine ⟨_, rfl, _, rfl, iteB (fun h1 => ?_) (fun h1 => ?_)⟩
    · subst h1
      exact ⟨_, rfl, _, _, rfl, rfl, q⟩
    · subst h1
      exact ⟨_, rfl, _, _, rfl, rfl, q⟩
end
end Kx

namespace Kx
open PySem PySem.Spec PyProof.Rows L2 NdefX
/-! ### the error -/
abbrev s_imInit : Stmt := inClass (topS 3) 0
abbrev N_imInit : List Str := ["self", "word", "__class__"]
theorem ns_imInit : NScope N_imInit ["self", "word"] ["__class__"] (defScope s_imInit) := nscope_by (by decide +kernel)
/-- C(v) of an error with the one field fld: a text of at most n signs -/
def spErr1 (C : Addr) (fld : Str) (n : Nat) : Sp := fun vs H Q _ => ∃ (a : Addr) (z : Str), vs = [.ref a, .str z] ∧ (reprText z).length ≤ n ∧ H a = some (exo a C none) ∧
  ∀ d, H d = none → d ≠ a → Q .non (upd (upd H d (exd d [(fld, .str z)])) a (exo a C (some d)))
section
variable {P : Program} {w : World} {K : PySem.W.Frag} {mg : Str → Option Value} {base : Heap} {CX : CXT}
theorem e18 : (("not a mark: " : Str)).length ≤ 100 := by decide +kernel
theorem empty_app (x : Str) : (Str.empty ++ x).length = x.length := by
  show (#[] ++ x.cps).size = x.cps.size
  simp
theorem app_len (x y : Str) : (x ++ y).length = x.length + y.length := Array.size_append
theorem ok_imInit {f C cda cc : Addr} {fd : FuncData} {qual : Str} {kV doc pm ct : Value} {an : Option Addr} (S : SupF K P C f fd cda cc "self") (T : SupC K C) (hno : PySem.W.findIn K (.ref C) "word" = some none) (hm : mg "super" = none)
    (hfd : fd = PySem.W.fnX "__init__" qual (defArgs s_imInit) (defBody s_imInit) (defScope s_imInit) [("__class__", cc)] .none kV doc pm an (.ref cda) ct) (hcd : PySem.W.codeIn K (.ref cda) qual = true) :
    FnOk P w K mg base CX 1 f fd ["self", "word"] (spErr1 C "word" 100000) := by
  refine fn_super (k := 0) (N := N_imInit) (ps := ["self", "word"]) (me := "self") S T hfd hcd ns_imInit hm rfl (by decide) (by decide +kernel) (by decide +kernel) (fun vs H Q E h => ?_) (fun A outer s H vs Q E hr h => ?_) (fun env => ⟨_, rfl⟩) (fun env => rfl) (fun env => rfl)
  · obtain ⟨a, z, rfl, _⟩ := h
    rfl
  · obtain ⟨a, z, rfl, hz, ea, q⟩ := h
    refine ⟨a, _, _, rfl, ea, pe_joined (.cons pe_str (.cons (pe_fmtR (pv 1)) .nil)), pss_one (ps_ost (pv 0) (pv 1)), fun R hR => ?_⟩
    have h1 := e18
    refine ⟨_, rfl, ?_, _, rfl, .inl ⟨z, rfl, sz9 (by omega), _, rfl, ?_, ?_⟩⟩
    · rw [empty_app]
      exact sz9 (by omega)
    · rw [app_len, empty_app]
      exact Nat.le_trans (Nat.add_le_add h1 hz) (by decide)
    · exact hR H ea ⟨_, rfl, _, rfl, a, C, rfl, T.oex, hno, .inl ⟨ea, fun d nd ne => q d nd ne⟩⟩
end
end Kx

namespace Kx
open PySem PySem.Spec PyProof.Rows L2 NdefX
/-! ### marks -/
def wNone : Str := "none"
def wOwn : Str := "own"
def wRead : Str := "read"
def wWrite : Str := "write"
def WDS : List Str := [wNone, wOwn, wRead, wWrite]
def WD (r : Nat) : Str := WDS.getD r wNone
def WV : List V := WDS.map V.str
theorem wd_at {r : Nat} (h : r < 4) : WDS[r]? = some (WD r) := by
  match r, h with
  | 0, _ => rfl
  | 1, _ => rfl
  | 2, _ => rfl
  | 3, _ => rfl
theorem wds_nd : WDS.Nodup := by decide +kernel
theorem wd_inj {r s : Nat} (hr : r < 4) (hs : s < 4) (h : WD r = WD s) : r = s := nd_ix wds_nd (wd_at hr) (by rw [h]; exact wd_at hs)
theorem wd_of {i : Nat} {z : Str} (h : WDS[i]? = some z) : i < 4 ∧ z = WD i := by
  have hi : i < WDS.length := (List.getElem?_eq_some_iff.mp h).1
  have hi4 : i < 4 := hi
  rw [wd_at hi4] at h
  exact ⟨hi4, (Option.some.inj h).symm⟩
theorem wv_flat : WV.all flatV = true := by decide +kernel
theorem inV_wd (z : Str) : inV (.str z) WV = decide (z ∈ WDS) := by
  show (WDS.map V.str).any (fun y => eqV y (.str z)) = _
  rw [List.any_map]
  by_cases h : z ∈ WDS
  · rw [decide_eq_true h, List.any_eq_true]
    exact ⟨z, h, beq_self_eq_true z⟩
  · rw [decide_eq_false h, List.any_eq_false]
    intro y hy e
    have e' : (y == z) = true := e
    exact h (beq_iff_eq.mp e' ▸ hy)
theorem wd_mem {z : Str} (h : z ∈ WDS) : ∃ r, r < 4 ∧ z = WD r := by
  obtain ⟨i, hi⟩ := List.mem_iff_getElem?.mp h
  exact ⟨i, wd_of hi⟩
theorem mem_wd {r : Nat} (h : r < 4) : WD r ∈ WDS := List.mem_of_getElem? (wd_at h)
theorem ksw : ¬ (("word" : Str) = "strength") := by decide +kernel
def mflds (r : Nat) : List (Str × V) := putF "strength" (.int (r : Int)) (putF "word" (.str (WD r)) [])
theorem mf_word (r : Nat) : (mflds r).lookup ("word" : Str) = some (.str (WD r)) := by
  unfold mflds
  rw [lookup_putF, if_neg ksw, lookup_putF, if_pos rfl]
theorem mf_strength (r : Nat) : (mflds r).lookup ("strength" : Str) = some (.int (r : Int)) := by
  unfold mflds
  rw [lookup_putF, if_pos rfl]
/-- a mark stands at p -/
def MkAt (C : Addr) (H : Hp) (p : Addr) (r : Nat) : Prop := r < 4 ∧ ∃ dx, H p = some (.ins C dx (mflds r))
theorem MkAt.same {C p : Addr} {H H' : Hp} {r : Nat} (h : MkAt C H p r) (s : Same H H') : MkAt C H' p r := ⟨h.1, let ⟨dx, e⟩ := h.2; ⟨dx, s _ _ e⟩⟩
/-- what the walk asks of the text -/
structure Txt (K : PySem.W.Frag) (mg : Str → Option Value) (C CI CK CS wa : Addr) (mc : Value) : Prop extends TB mg where
  m_super : mg "super" = none
  m_isinstance : mg "isinstance" = none
  m_str : mg "str" = none
  m_tuple : mg "tuple" = none
  m_VE : mg "ValueError" = none
  gC : mg "Mark" = some (.ref C)
  gI : mg "InvalidMark" = some (.ref CI)
  gK : mg "KeeperError" = some (.ref CK)
  gS : mg "InvalidStep" = some (.ref CS)
  ins : C8.InsC K C
  nW : NoAttr K C "word"
  nS : NoAttr K C "strength"
  rd : ClX.CRead K C mc
  wv : ClX.CVal K C mc "WORDS" (.ref wa) (.ref wa)
  wt : ∃ (o : Obj) (its : Array Value) (n : Nat), K.lookup wa = some o ∧ o.cls = .type "tuple" ∧ o.dict = none ∧ o.data = .seq its n ∧ its.size ≤ sizeLine ∧ Vals WV its.toList
  sI : SupC K CI
  nIW : PySem.W.findIn K (.ref CI) "word" = some none
theorem Txt.wds {K : PySem.W.Frag} {mg : Str → Option Value} {C CI CK CS wa : Addr} {mc : Value} (T : Txt K mg C CI CK CS wa mc) (H : Hp) : SqT K H wa WV := .inr (let ⟨o, its, n, a, b, _, c⟩ := T.wt; ⟨o, its, n, a, b, c⟩)
def spMkI (C CI : Addr) : Sp := fun vs H Q E => ∃ (p : Addr) (z : Str), vs = [.ref p, .str z] ∧ (∃ dx, H p = some (.ins C dx [])) ∧ (reprText z).length ≤ 100000 ∧
  (∀ r, r < 4 → z = WD r → ∀ H', MkAt C H' p r → (∀ b o, H b = some o → b ≠ p → H' b = some o) → Q .non H') ∧
  (z ∉ WDS → ∀ d, H d = none → E (.ref CI) (some d) (upd H d (.xd [("word", .str z)])))
abbrev s_mkInit : Stmt := inClass (topS 5) 1
abbrev N_mkInit : List Str := ["self", "word"]
theorem sc_mkInit : FnScope N_mkInit ["self", "word"] (defScope s_mkInit) := ⟨rfl, rfl, rfl, by decide +kernel, rfl, by decide +kernel, by decide +kernel⟩
/-- the heap behind C(v): the error let go, its dict an exception's dict -/
theorem made_heap {H1 : Hp} {a d : Addr} {fs : List (Str × V)} (na : H1 a = none) (nda : d ≠ a) (X Y Z : HO) : upd (del (upd (upd (upd H1 a X) d Y) a Z) a) d (.xd fs) = upd H1 d (.xd fs) := by
  funext b
  by_cases hd : b = d
  · rw [hd, upd_same, upd_same]
  · rw [upd_ne hd, upd_ne hd]
    by_cases ha : b = a
    · rw [ha, del_same, na]
    · rw [del_ne ha, upd_ne ha, upd_ne hd, upd_ne ha]
section
variable {P : Program} {w : World} {K : PySem.W.Frag} {mg : Str → Option Value} {base : Heap} {C CI CK CS wa : Addr} {mc : Value}
theorem ok_mkInit {f fI : Addr} {fd fdI : FuncData} (F : Fun K "__init__" "Mark.__init__" s_mkInit f fd) (T : Txt K mg C CI CK CS wa mc) (iC : PySem.W.findIn K (.ref CI) "__init__" = some (some (.ref fI))) (tI : PySem.W.typeIn K (.ref fI) = some (.type "function"))
    (FI : FnOk P w K mg base CX0 1 fI fdI ["self", "word"] (spErr1 CI "word" 100000)) (bI : Binds K fdI ["self", "word"] []) : FnOk P w K mg base (L2.CX P w) 3 f fd ["self", "word"] (spMkI C CI) := by
  refine F.okX sc_mkInit (fun vs H Q E h => ?_) (fun cdv A outer s H vs Q E hr h => ?_)
  · obtain ⟨p, z, rfl, _⟩ := h
    rfl
  · obtain ⟨p, z, rfl, ⟨dx, hp⟩, hz, q, qe⟩ := h
    refine ⟨_, (pss_cons (ps_if (pt_cmpR op_notIn_seq (pv 1) (ClX.pe_cval (pe_glob (v := .ref C) (by rfl) T.gC rfl)) rfl)
        (pss_one (ps_raise rfl (takes_of rfl rfl rfl rfl) (pmk_oex (sp := spErr1 CI "word" 100000) T.sI.oex iC tI FI (hr.mono (by decide)) bI .nil pass0 (by rfl) T.gI (pa_cons (pv 1) pa_nil))))
        pss_nil)
      (pss_cons (ps_fld (pv 0) (pv 1) rfl)
      (pss_one (ps_fld (pv 0) (pe_bm PySem.F.plainAttrs_tuple PySem.F.slot_tuple_index PySem.F.type_tuple_index mt_tup_index (ClX.pe_cval (pe_glob (v := .ref C) (by rfl) T.gC rfl)) (pa_cons (pv 1) pa_nil)) rfl)))), ?_⟩
    refine ⟨_, rfl, C, mc, _, _, rfl, T.rd, T.wv, wa, WV, rfl, .inr (T.wds H), rfl, wv_flat, _, rfl, iteB (fun h1 => ?_) (fun h1 => ?_)⟩
    · have hn : z ∉ WDS := by
        rw [if_pos rfl, inV_wd] at h1
        simpa using h1
      refine ⟨_, rfl, by show 1 ≤ 1000; decide, fun a na => ⟨a, z, rfl, hz, upd_same, fun d nd ne => ⟨rfl, d, [("word", .str z)], upd_same, (upd_ne ne).trans upd_same, ?_, ?_⟩⟩⟩
      · rw [upd_ne ne] at nd
        exact nd
      · rw [made_heap na ne]
        rw [upd_ne ne] at nd
        exact qe hn d nd
    · have hm : z ∈ WDS := by
        rw [if_pos rfl, inV_wd] at h1
        simpa using h1
      obtain ⟨r, hr4, rfl⟩ := wd_mem hm
      refine ⟨_, rfl, _, rfl, p, C, dx, _, rfl, hp, T.ins.cl, T.nW, by show 0 < 1000; decide, ?_⟩
      refine ⟨C, mc, _, _, rfl, T.rd, T.wv, .inr (.inl ⟨rfl, let ⟨o, _, _, a, b, c, _⟩ := T.wt; ⟨o, a, b, c⟩⟩), _, rfl, wa, WDS, WD r, r, rfl, rfl, T.wds _, wd_at hr4, fun m hm' hw => ?_, _, rfl, p, C, dx, _, rfl, upd_same, T.ins.cl, T.nS, by show 1 < 1000; decide, ?_⟩
      · have := wd_of hw
        exact absurd (wd_inj hr4 this.1 this.2) (by omega)
      · refine q r hr4 rfl _ ⟨hr4, dx, upd_same⟩ fun b o e ne => ?_
        rw [upd_ne ne, upd_ne ne]
        exact e
end
end Kx

namespace Kx
open PySem PySem.Spec PyProof.Rows L2 NdefX
/-- a comparison of two marks -/
def spCmp (C : Addr) (g : Nat → Nat → Bool) : Sp := fun vs H Q _ => ∃ (a b : Addr) (r s : Nat), vs = [.ref a, .ref b] ∧ MkAt C H a r ∧ MkAt C H b s ∧ Q (.bl (g r s)) H
def gEq (r s : Nat) : Bool := decide (V.int (r : Int) = V.int (s : Int))
def gLt (r s : Nat) : Bool := decide ((r : Int) < (s : Int))
def gLe (r s : Nat) : Bool := decide ((r : Int) ≤ (s : Int))
def spOr (C : Addr) : Sp := fun vs H Q _ => ∃ (a b : Addr) (r s : Nat), vs = [.ref a, .ref b] ∧ MkAt C H a r ∧ MkAt C H b s ∧ Q (.ref (if r < s then b else a)) H
abbrev s_eq : Stmt := inClass (topS 5) 2
abbrev N_eq : List Str := ["self", "other"]
theorem sc_eq : FnScope N_eq ["self", "other"] (defScope s_eq) := ⟨rfl, rfl, rfl, by decide +kernel, rfl, by decide +kernel, by decide +kernel⟩
abbrev s_lt : Stmt := inClass (topS 5) 3
abbrev N_lt : List Str := ["self", "other"]
theorem sc_lt : FnScope N_lt ["self", "other"] (defScope s_lt) := ⟨rfl, rfl, rfl, by decide +kernel, rfl, by decide +kernel, by decide +kernel⟩
abbrev s_le : Stmt := inClass (topS 5) 4
abbrev N_le : List Str := ["self", "other"]
theorem sc_le : FnScope N_le ["self", "other"] (defScope s_le) := ⟨rfl, rfl, rfl, by decide +kernel, rfl, by decide +kernel, by decide +kernel⟩
abbrev s_or : Stmt := inClass (topS 5) 5
abbrev N_or : List Str := ["self", "other"]
theorem sc_or : FnScope N_or ["self", "other"] (defScope s_or) := ⟨rfl, rfl, rfl, by decide +kernel, rfl, by decide +kernel, by decide +kernel⟩
section
variable {P : Program} {w : World} {K : PySem.W.Frag} {mg : Str → Option Value} {base : Heap} {C CI CK CS wa : Addr} {mc : Value}
theorem ok_eq {f : Addr} {fd : FuncData} (F : Fun K "__eq__" "Mark.__eq__" s_eq f fd) (T : Txt K mg C CI CK CS wa mc) : FnOk P w K mg base CX0 1 f fd ["self", "other"] (spCmp C gEq) := by
  refine F.ok sc_eq (fun vs H Q E h => ?_) (fun cdv A outer s H vs Q E hr h => ?_)
  · obtain ⟨a, b, r, s, rfl, _⟩ := h
    rfl
  · obtain ⟨a, b, r, s, rfl, ⟨hr4, dx, ha⟩, ⟨hs4, dy, hb⟩, q⟩ := h
    refine ⟨_, (pss_cons (ps_if (pt_not (pt_val (pe_callB (C8.call_isC T.ins) (by rfl) T.m_isinstance (by decide +kernel) (pa_cons (pv 1) (pa_cons (pe_glob (v := .ref C) (by rfl) T.gC rfl) pa_nil))))) (pss_one ps_never) pss_nil)
      (pss_one (ps_ret (pe_cmpR op_eq (pe_fld (pv 0) rfl) (pe_fld (pv 1) rfl) (nomark _))))), ?_⟩
    refine ⟨_, rfl, b, dy, _, rfl, hb, _, rfl, iteF ?_⟩
    exact ⟨_, rfl, a, C, dx, _, _, rfl, ha, T.ins.cl, T.nS, mf_strength r, _, rfl, b, C, dy, _, _, rfl, hb, T.ins.cl, T.nS, mf_strength s, rfl, q⟩
theorem ok_lt {f : Addr} {fd : FuncData} (F : Fun K "__lt__" "Mark.__lt__" s_lt f fd) (T : Txt K mg C CI CK CS wa mc) : FnOk P w K mg base CX0 1 f fd ["self", "other"] (spCmp C gLt) := by
  refine F.ok sc_lt (fun vs H Q E h => ?_) (fun cdv A outer s H vs Q E hr h => ?_)
  · obtain ⟨a, b, r, s, rfl, _⟩ := h
    rfl
  · obtain ⟨a, b, r, s, rfl, ⟨hr4, dx, ha⟩, ⟨hs4, dy, hb⟩, q⟩ := h
    refine ⟨_, (pss_cons (ps_if (pt_not (pt_val (pe_callB (C8.call_isC T.ins) (by rfl) T.m_isinstance (by decide +kernel) (pa_cons (pv 1) (pa_cons (pe_glob (v := .ref C) (by rfl) T.gC rfl) pa_nil))))) (pss_one ps_never) pss_nil)
      (pss_one (ps_ret (pe_cmpR op_lt (pe_fld (pv 0) rfl) (pe_fld (pv 1) rfl) (nomark _))))), ?_⟩
    refine ⟨_, rfl, b, dy, _, rfl, hb, _, rfl, iteF ?_⟩
    exact ⟨_, rfl, a, C, dx, _, _, rfl, ha, T.ins.cl, T.nS, mf_strength r, _, rfl, b, C, dy, _, _, rfl, hb, T.ins.cl, T.nS, mf_strength s, _, _, rfl, rfl, q⟩
theorem ok_le {f : Addr} {fd : FuncData} (F : Fun K "__le__" "Mark.__le__" s_le f fd) (T : Txt K mg C CI CK CS wa mc) : FnOk P w K mg base CX0 1 f fd ["self", "other"] (spCmp C gLe) := by
  refine F.ok sc_le (fun vs H Q E h => ?_) (fun cdv A outer s H vs Q E hr h => ?_)
  · obtain ⟨a, b, r, s, rfl, _⟩ := h
    rfl
  · obtain ⟨a, b, r, s, rfl, ⟨hr4, dx, ha⟩, ⟨hs4, dy, hb⟩, q⟩ := h
    refine ⟨_, (pss_cons (ps_if (pt_not (pt_val (pe_callB (C8.call_isC T.ins) (by rfl) T.m_isinstance (by decide +kernel) (pa_cons (pv 1) (pa_cons (pe_glob (v := .ref C) (by rfl) T.gC rfl) pa_nil))))) (pss_one ps_never) pss_nil)
      (pss_one (ps_ret (pe_cmpR op_le (pe_fld (pv 0) rfl) (pe_fld (pv 1) rfl) (nomark _))))), ?_⟩
    refine ⟨_, rfl, b, dy, _, rfl, hb, _, rfl, iteF ?_⟩
    exact ⟨_, rfl, a, C, dx, _, _, rfl, ha, T.ins.cl, T.nS, mf_strength r, _, rfl, b, C, dy, _, _, rfl, hb, T.ins.cl, T.nS, mf_strength s, _, _, rfl, rfl, q⟩
theorem ok_or {f : Addr} {fd : FuncData} (F : Fun K "__or__" "Mark.__or__" s_or f fd) (T : Txt K mg C CI CK CS wa mc) : FnOk P w K mg base CX0 1 f fd ["self", "other"] (spOr C) := by
  refine F.ok sc_or (fun vs H Q E h => ?_) (fun cdv A outer s H vs Q E hr h => ?_)
  · obtain ⟨a, b, r, s, rfl, _⟩ := h
    rfl
  · obtain ⟨a, b, r, s, rfl, ⟨hr4, dx, ha⟩, ⟨hs4, dy, hb⟩, q⟩ := h
    refine ⟨_, (pss_cons (ps_if (pt_not (pt_val (pe_callB (C8.call_isC T.ins) (by rfl) T.m_isinstance (by decide +kernel) (pa_cons (pv 1) (pa_cons (pe_glob (v := .ref C) (by rfl) T.gC rfl) pa_nil))))) (pss_one ps_never) pss_nil)
      (pss_cons (ps_if (pt_cmpR op_lt (pe_fld (pv 0) rfl) (pe_fld (pv 1) rfl) (nomark _)) (pss_one (ps_ret (pv 1))) pss_nil)
      (pss_one (ps_ret (pv 0))))), ?_⟩
    refine ⟨_, rfl, b, dy, _, rfl, hb, _, rfl, iteF ?_⟩
    refine ⟨_, rfl, a, C, dx, _, _, rfl, ha, T.ins.cl, T.nS, mf_strength r, _, rfl, b, C, dy, _, _, rfl, hb, T.ins.cl, T.nS, mf_strength s, _, _, rfl, rfl, _, rfl, iteB (fun h1 => ?_) (fun h1 => ?_)⟩
    · have h1' : r < s := by have := of_decide_eq_true h1; omega
      rw [if_pos h1'] at q
      exact ⟨_, rfl, q⟩
    · have h1' : ¬ r < s := by have := of_decide_eq_false h1; omega
      rw [if_neg h1'] at q
      exact ⟨_, rfl, q⟩
end
/-! ### marks as callers make and compare them -/
structure MkC (P : Program) (w : World) (K : PySem.W.Frag) (mg : Str → Option Value) (base : Heap) (C CI : Addr) (k : Nat) : Prop where
  ex : ∃ (f : Addr) (fd : FuncData), Mk K C f ∧ FnOk P w K mg base (L2.CX P w) k f fd ["self", "word"] (spMkI C CI) ∧ Binds K fd ["self", "word"] []
  g : mg "Mark" = some (.ref C)
theorem wd_repr : ∀ r, r < 4 → (reprText (WD r)).length ≤ 100000
  | 0, _ => by decide +kernel
  | 1, _ => by decide +kernel
  | 2, _ => by decide +kernel
  | 3, _ => by decide +kernel
def tMkV (C : Addr) (te : TE) : TE := fun σ H Q => te σ H fun v H1 => ∃ r, r < 4 ∧ [v] = [V.str (WD r)] ∧ ∀ x H2, H1 x = none → Same H1 H2 → MkAt C H2 x r → Q (.ref x) H2
def tMkS (CI : Addr) (W : WX) (te : TE) : TE := fun σ H Q => te σ H fun v H1 => ∃ z, [v] = [V.str z] ∧ (reprText z).length ≤ 100000 ∧ z ∉ WDS ∧ ∀ d H2, Same H1 H2 → H2 d = some (.xd [("word", .str z)]) → W (.ref CI) (some d) σ H2
section
variable {X : Cx} {C CI : Addr} {k : Nat} {e : Expr} {te : TE} {p pos : Pos}
theorem pe_mkV (M : MkC X.prog X.w X.K X.mg X.base C CI k) (hr : Room (k + 1) X.A) (hg : Gl X "Mark") (he : PE X e te) (hse : starEach [e] X.env = [(false, eval e X.env)] := by rfl) : PE X (.Call (.Name "Mark" p) [e] [] pos) (tMkV C te) := by
  obtain ⟨f, fd, M1, F, hb⟩ := M.ex
  refine ⟨fun pins s σ H Q I h => ?_⟩
  refine wpAny_Call_Name_kw (ld_glob I hg M.g ?_)
  have har := (pa_cons he (pa_nil (X := X)) hse).run pos pins s σ H (fun vs H1 => ∃ r, r < 4 ∧ vs = [V.str (WD r)] ∧ ∀ x H2, H1 x = none → Same H1 H2 → MkAt C H2 x r → Q (.ref x) H2) I h
  refine PySem.W.callWith_K (h₀ := X.base) I.ok.mod.kin M1.kp (thn har fun us s1 hq => ?_) hse rfl
  obtain ⟨vs, H1, I1, rv, r, hr4, rfl, q⟩ := hq
  refine ⟨I1.kIn, run_make (dvs := []) (ds := []) M1 F hr hb .nil passL I1 rv fun x dx nx nd ne => ?_⟩
  refine ⟨x, WD r, rfl, ⟨dx, upd_same⟩, wd_repr r hr4, fun r' hr' e H' hm hk => ⟨rfl, ?_⟩, fun hn => absurd (mem_wd hr4) hn⟩
  have er := wd_inj hr4 hr' e
  subst er
  exact q x H' nx (Same.made nx nd hk) hm
/-- Mark(z) in a try: an error -/
theorem run_mkS {pins : List (Addr × Obj)} {σ : L2.St} {H : Hp} {s : Shared} {Q : VK} {W : WX} {us : List Value} {z : Str} (M : MkC X.prog X.w X.K X.mg X.base C CI k) (hr : Room (k + 1) X.A) (tk : Takes X W) (I : Inv X pins σ H s) (r : Vals [.str z] us) (hz : (reprText z).length ≤ 100000) (hn : z ∉ WDS)
    (h : ∀ d H2, Same H H2 → H2 d = some (.xd [("word", .str z)]) → W (.ref CI) (some d) σ H2) : wpAny (model X.prog X.w) X.A (call (.ref C) us) (EP X pins σ Q) X.xe s := by
  obtain ⟨f, fd, M1, F, hb⟩ := M.ex
  have nx : H (s.heap.objs.size + 1) = none := I.hok.fresh (Nat.le_succ s.heap.objs.size)
  have nd : H s.heap.objs.size = none := I.hok.fresh (Nat.le_refl s.heap.objs.size)
  have sm : Same H (upd (upd H s.heap.objs.size (.own (s.heap.objs.size + 1))) (s.heap.objs.size + 1) (.ins C s.heap.objs.size [])) := fun b o e => by
    rw [upd_ne (ne_of_none e nx), upd_ne (ne_of_none e nd)]
    exact e
  have hsp : spMkI C CI [V.ref (s.heap.objs.size + 1), V.str z] (upd (upd H s.heap.objs.size (.own (s.heap.objs.size + 1))) (s.heap.objs.size + 1) (.ins C s.heap.objs.size [])) (fun _ _ => False) (WE W σ) :=
    ⟨_, z, rfl, ⟨_, upd_same⟩, hz, fun r' hr' e => absurd (e ▸ mem_wd hr') hn, fun _ d nd' => h d _ (sm.trans (same_upd nd')) upd_same⟩
  have J := Inv.made (C := C) I
  have r2 : Vals [V.ref (s.heap.objs.size + 1), V.str z] (Value.ref (s.heap.objs.size + 1) :: us) := .cons rfl r
  have hlen : us.length = 1 := r.length.symm
  have bind := hb _ (Value.ref (s.heap.objs.size + 1) :: us) J.kIn (by simp [hlen])
  rw [List.append_nil] at bind
  have run := F.run _ X.stack _ _ ⟨Value.ref (s.heap.objs.size + 1) :: us, []⟩ _ _ _ _ (hr.make C us []) (J.env0.make C us []) bind r2 hsp
  refine wpAny_call (make_map (f := f) I.kIn M1.makes M1.init (beq_iff_eq.mp M1.fn) (codeAny_mono run fun res s' hq => ?_))
  cases res with
  | error e => exact passAt tk σ pins _ _ e s' J hq
  | ok fl =>
    cases fl with
    | ret u =>
      obtain ⟨v, H', J', rv, no⟩ := J.after hq
      exact no.elim
    | next => exact False.elim hq
    | brk => exact False.elim hq
    | cont => exact False.elim hq
theorem pe_mkS {W : WX} (M : MkC X.prog X.w X.K X.mg X.base C CI k) (hr : Room (k + 1) X.A) (tk : Takes X W) (hg : Gl X "Mark") (he : PE X e te) (hse : starEach [e] X.env = [(false, eval e X.env)] := by rfl) : PE X (.Call (.Name "Mark" p) [e] [] pos) (tMkS CI W te) := by
  obtain ⟨f, fd, M1, F, hb⟩ := id M.ex
  refine ⟨fun pins s σ H Q I h => ?_⟩
  refine wpAny_Call_Name_kw (ld_glob I hg M.g ?_)
  have har := (pa_cons he (pa_nil (X := X)) hse).run pos pins s σ H (fun vs H1 => ∃ z, vs = [V.str z] ∧ (reprText z).length ≤ 100000 ∧ z ∉ WDS ∧ ∀ d H2, Same H1 H2 → H2 d = some (.xd [("word", .str z)]) → W (.ref CI) (some d) σ H2) I h
  refine PySem.W.callWith_K (h₀ := X.base) I.ok.mod.kin M1.kp (thn har fun us s1 hq => ?_) hse rfl
  obtain ⟨vs, H1, I1, rv, z, rfl, hz, hn, q⟩ := hq
  exact ⟨I1.kIn, run_mkS M hr tk I1 rv hz hn q⟩
/-- an operator between two marks -/
structure OpC (P : Program) (w : World) (K : PySem.W.Frag) (mg : Str → Option Value) (base : Heap) (C : Addr) (nm : Str) (sp : Sp) : Prop where
  ex : ∃ (f : Addr) (fd : FuncData), FnOk P w K mg base CX0 1 f fd ["self", "other"] sp ∧ Binds K fd ["self", "other"] [] ∧ PySem.W.findIn K (.ref C) nm = some (some (.ref f)) ∧ PySem.W.isFn K (.ref f) = true
  sf : PySem.W.selfFirst K C = true
def rMk (C : Addr) (g : Nat → Nat → Bool) : R2 := fun x y H Q => ∃ a b r s, x = .ref a ∧ y = .ref b ∧ MkAt C H a r ∧ MkAt C H b s ∧ Q (.bl (g r s)) H
def rMkOr (C : Addr) : R2 := fun x y H Q => ∃ a b r s, x = .ref a ∧ y = .ref b ∧ MkAt C H a r ∧ MkAt C H b s ∧ Q (.ref (if r < s then b else a)) H
theorem op_mk {op : CmpOp} {g : Nat → Nat → Bool} (O : OpC X.prog X.w X.K X.mg X.base C (cmpInfo op).2.1 (spCmp C g)) (hr : Room 1 X.A) (hc : ∀ v u, compareOp op v u = richCompare op v u := by intro _ _; rfl) : OpR X (compareOp op) (rMk C g) := by
  obtain ⟨f, fd, F, hb, hs, hf⟩ := O.ex
  intro pins s σ H x y v u Q I rx ry h
  obtain ⟨a, b, r, t, rfl, rfl, ha, hb', q⟩ := h
  obtain ⟨_, dx, ea⟩ := id ha
  obtain ⟨_, dy, eb⟩ := id hb'
  exact op_ownC (X := X) (E := E0) F hs hf hb pass0 hr hc pins s σ H _ _ v u Q I rx ry ⟨a, b, dx, dy, _, _, rfl, rfl, ea, eb, a, b, r, t, rfl, ha, hb', q⟩
theorem op_mkOr (O : OpC X.prog X.w X.K X.mg X.base C "__or__" (spOr C)) (hr : Room 1 X.A) : OpR X (binaryOp .BitOr) (rMkOr C) := by
  obtain ⟨f, fd, F, hb, hs, hf⟩ := O.ex
  intro pins s σ H x y v u Q I rx ry h
  obtain ⟨a, b, r, t, rfl, rfl, ha, hb', q⟩ := h
  obtain ⟨_, dx, ea⟩ := id ha
  obtain ⟨_, dy, eb⟩ := id hb'
  exact op_ownB (X := X) (E := E0) (op := .BitOr) F hs hf O.sf hb pass0 hr pins s σ H _ _ v u Q I rx ry ⟨a, b, dx, dy, _, _, rfl, rfl, ea, eb, a, b, r, t, rfl, ha, hb', q⟩
end
end Kx

namespace Kx
open PySem PySem.Spec PyProof.Rows L2 NdefX
def Mks (C : Addr) (H : Hp) : List V → List Nat → Prop := Paired fun v r => ∃ a, v = .ref a ∧ MkAt C H a r
theorem Mks.same {C : Addr} {H H' : Hp} (s : Same H H') : ∀ {vs : List V} {rs : List Nat}, Mks C H vs rs → Mks C H' vs rs
  | _, _, .nil => .nil
  | _, _, .cons ⟨a, e, m⟩ t => .cons ⟨a, e, m.same s⟩ (Mks.same s t)
theorem Mks.len {C : Addr} {H : Hp} {vs : List V} {rs : List Nat} (h : Mks C H vs rs) : vs.length = rs.length := Paired.length h
theorem Mks.get {C : Addr} {H : Hp} : ∀ {vs : List V} {rs : List Nat} {i : Nat} {v : V}, Mks C H vs rs → vs[i]? = some v → ∃ r a, rs[i]? = some r ∧ v = .ref a ∧ MkAt C H a r
  | _, _, _, _, .nil, e => by simp at e
  | _, _, 0, v, .cons (b := r) ⟨a, ea, m⟩ _, e => ⟨r, a, rfl, (Option.some.inj e).symm.trans ea, m⟩
  | _, _, i + 1, v, .cons _ t, e => by
    obtain ⟨r, a, h1, h2⟩ := Mks.get (i := i) (v := v) t (by simpa using e)
    exact ⟨r, a, by simpa using h1, h2⟩
def mx (rs : List Nat) : Nat := rs.foldl max 0
theorem mx_take {rs : List Nat} {i r : Nat} (h : rs[i]? = some r) : mx (rs.take (i + 1)) = max (mx (rs.take i)) r := by
  unfold mx
  rw [List.take_add_one, h, List.foldl_append]
  rfl
theorem if_max (r s : Nat) {C a b : Addr} {H : Hp} (ha : MkAt C H a r) (hb : MkAt C H b s) : MkAt C H (if r < s then b else a) (max r s) := by
  by_cases h : r < s
  · rw [if_pos h, Nat.max_eq_right (Nat.le_of_lt h)]
    exact hb
  · rw [if_neg h, Nat.max_eq_left (by omega)]
    exact ha
def spStrong (C : Addr) : Sp := fun vs H Q _ => ∃ (p : Addr) (xs : List V) (rs : List Nat), vs = [.ref p] ∧ H p = some (.tup xs) ∧ Mks C H xs rs ∧ ∀ H' q, Same H H' → MkAt C H' q (mx rs) → Q (.ref q) H'
abbrev s_strongest : Stmt := topS 6
abbrev N_strongest : List Str := ["marks", "found", "mark"]
theorem sc_strongest : FnScope N_strongest (([] : List Str) ++ [("marks" : Str)]) (defScope s_strongest) := ⟨rfl, rfl, rfl, by decide +kernel, rfl, by decide +kernel, by decide +kernel⟩
/-- strongest as its callers see it -/
def spStrV (C : Addr) : Sp := fun vs H Q _ => ∃ rs : List Nat, Mks C H vs rs ∧ vs.length ≤ 100 ∧ ∀ H' q, Same H H' → MkAt C H' q (mx rs) → Q (.ref q) H'
section
variable {P : Program} {w : World} {K : PySem.W.Frag} {mg : Str → Option Value} {base : Heap} {C CI CK CS wa : Addr} {mc : Value}
theorem ok_strongest {f : Addr} {fd : FuncData} (F : Fun K "strongest" "strongest" s_strongest f fd) (T : Txt K mg C CI CK CS wa mc) (M : MkC P w K mg base C CI 3) (O : OpC P w K mg base C "__or__" (spOr C))
    (hb : ∀ rest : List Value, bindArgs fd ⟨rest, []⟩ = (newTuple rest >>= fun t => pure [(("marks" : Str), t)])) : FnR P w K mg base CX0 5 f (spStrV C) := by
  obtain ⟨oc, od, kV, doc, pm, an, cdv, ct, osl, rfl, lk, hcd⟩ := F.ex
  have G := StX.fn_star (CX := CX0) (P := P) (w := w) (mg := mg) (base := base) (k := 4) (ps := []) (pv := "marks") (N := N_strongest) (sp := spStrong C) lk hcd sc_strongest StX.cxUp_none (fun us rest hl => by
      cases us with
      | nil => exact hb rest
      | cons u r => simp at hl) (fun A outer s H vs Q E hr h => ?_)
  · refine G.imp fun vs H Q E h => ?_
    obtain ⟨rs, hm, hl, q⟩ := h
    refine ⟨[], vs, rfl, rfl, sz9 (by omega), fun p np => ⟨p, vs, rs, rfl, upd_same, hm.same (same_upd np), fun H' q' s' m' => q H' q' ((same_upd np).trans s') m'⟩⟩
  · obtain ⟨p, xs, rs, rfl, ep, hm, q⟩ := h
    refine ⟨_, PSs.nox (pss_cons (ps_set (i := 1) sc_strongest.nd rfl (Or.inl rfl) (pe_mkV M (hr.mono (by decide)) (by rfl) pe_str))
      (pss_cons (ps_for PassesOwn.never rfl (pi_tup (pv 0)) (pg_name (i := 2) sc_strongest.nd rfl (Or.inl rfl))
        (pss_one (ps_set (i := 1) sc_strongest.nd rfl (Or.inl rfl) (pe_op (op_mkOr O (hr.mono (by decide))) (pv 1) (pv 2)))))
      (pss_one (ps_ret (pv 1))))), ?_⟩
    refine ⟨0, by decide, rfl, fun x H1 nx sm hx => ?_⟩
    have ep1 : H1 p = some (.tup xs) := sm _ _ ep
    refine ⟨_, rfl, p, rfl, ⟨_, .inl (.inl ep1)⟩, ?_⟩
    refine for_tup (xs := xs) (fun i σ H2 => ∃ (y : Addr) (x2 : Option V), σ = [some (.ref p), some (.ref y), x2] ∧ H2 = H1 ∧ MkAt C H1 y (mx (rs.take i)))
      ⟨x, none, rfl, rfl, hx⟩ (fun i σ H2 _ ⟨_, _, _, e, _⟩ => e ▸ .inl (.inl ep1)) ?_ ?_
    · rintro i v σ H2 hv ⟨y, x2, rfl, rfl, hy⟩
      obtain ⟨r, a, hr', rfl, ha⟩ := (hm.same sm).get hv
      refine ⟨_, rfl, _, rfl, y, a, _, r, rfl, rfl, hy, ha, ?_⟩
      exact ⟨_, _, rfl, rfl, by rw [mx_take hr']; exact if_max _ _ hy ha⟩
    · rintro σ H2 ⟨y, x2, rfl, rfl, hy⟩
      rw [List.take_of_length_le (by rw [← hm.len]; exact Nat.le_refl _)] at hy
      exact ⟨_, rfl, q H2 y sm hy⟩
end
section
variable {X : Cx} {C : Addr} {k f : Nat} {e : Expr} {es : List Expr} {t : TA} {p pos : Pos}
structure StC (P : Program) (w : World) (K : PySem.W.Frag) (mg : Str → Option Value) (base : Heap) (C : Addr) (k : Nat) : Prop where
  ex : ∃ f, FnR P w K mg base CX0 k f (spStrV C) ∧ mg "strongest" = some (.ref f) ∧ PySem.W.keepIn K (.ref f) = true
theorem pe_strong (S : StC X.prog X.w X.K X.mg X.base C k) (hr : Room k X.A) (hg : Gl X "strongest") (ha : PA X (e :: es) t)
    (he : starEach (e :: es) X.env = (false, eval e X.env) :: starEach es X.env := by rfl) (hpl : (backTo pos (starEach es X.env)).any (·.1) = false := by rfl) : PE X (.Call (.Name "strongest" p) (e :: es) [] pos) (fun σ H Q => t σ H fun vs H1 => spStrV C vs H1 Q E0) := by
  obtain ⟨f, F, hm, hk⟩ := S.ex
  refine ⟨fun pins s σ H Q I h => ?_⟩
  refine wpAny_Call_Name_kw (ld_glob I hg hm ?_)
  refine PySem.W.callWith_K (h₀ := X.base) I.ok.mod.kin hk (thn (ha.run pos pins s σ H _ I h) fun us s1 ⟨vs, H1, I1, rv, q⟩ => ⟨I1.kIn, ?_⟩) he hpl
  exact wpAny_call (run_fnR F hr pass0 I1 rv q)
theorem pe_strong0 (S : StC X.prog X.w X.K X.mg X.base C k) (hr : Room k X.A) (hg : Gl X "strongest") : PE X (.Call (.Name "strongest" p) [] [] pos) (fun σ H Q => spStrV C [] H Q E0) := by
  obtain ⟨f, F, hm, hk⟩ := S.ex
  refine ⟨fun pins s σ H Q I h => ?_⟩
  refine wpAny_Call_Name_kw (ld_glob I hg hm ?_)
  exact PySem.W.callWith_K0 I.kIn hk (wpAny_call (run_fnR (us := []) F hr pass0 I .nil h))
end
end Kx

namespace Kx
open PySem PySem.Spec PyProof.Rows L2 NdefX
abbrev s_greatest : Stmt := topS 12
abbrev N_greatest : List Str := ["_law_places", "_law_best", "_law_place"]
theorem sc_greatest : FnScope N_greatest ["_law_places"] (defScope s_greatest) := ⟨rfl, rfl, rfl, by decide +kernel, rfl, by decide +kernel, by decide +kernel⟩
def nV (n : Nat) : V := .int (n : Int)
def spGreatest (K : PySem.W.Frag) : Sp := fun vs H Q _ => ∃ (p : Addr) (ns : List Nat), vs = [.ref p] ∧ SqL K H p (ns.map nV) ∧ Q (.int ((mx ns : Nat) : Int)) H
abbrev s_is : Stmt := topS 14
abbrev N_is : List Str := ["_law_mark", "_law_word", "_law_words", "_law_rank", "_law_k", "_law_other"]
theorem sc_is : FnScope N_is ["_law_mark", "_law_word"] (defScope s_is) := ⟨rfl, rfl, rfl, by decide +kernel, rfl, by decide +kernel, by decide +kernel⟩
def spIs (C : Addr) : Sp := fun vs H Q _ => ∃ (p : Addr) (r : Nat), vs = [.ref p, .str (WD r)] ∧ MkAt C H p r ∧ ∀ H', Same H H' → Q (.bl true) H'
theorem wv_at {i : Nat} (h : i < 4) : WV[i]? = some (.str (WD i)) := by
  unfold WV
  rw [List.getElem?_map, wd_at h]
  rfl
theorem nv_of {ns : List Nat} {i : Nat} {x : V} (hx : (ns.map nV)[i]? = some x) : ∃ n : Nat, ns[i]? = some n ∧ x = .int (n : Int) := by
  rw [List.getElem?_map] at hx
  cases e : ns[i]? with
  | none => rw [e] at hx; cases hx
  | some n => rw [e] at hx; exact ⟨n, rfl, (Option.some.inj hx).symm⟩
theorem wv_of {i : Nat} {x : V} (hx : WV[i]? = some x) : i < 4 ∧ x = .str (WD i) := by
  unfold WV at hx
  rw [List.getElem?_map] at hx
  cases e : WDS[i]? with
  | none => rw [e] at hx; cases hx
  | some n =>
    rw [e] at hx
    have h := wd_of e
    exact ⟨h.1, by rw [← (Option.some.inj hx), h.2]⟩
section
variable {P : Program} {w : World} {K : PySem.W.Frag} {mg : Str → Option Value} {base : Heap} {C CI CK CS wa : Addr} {mc : Value}
theorem ok_greatest {f : Addr} {fd : FuncData} (F : Fun K "_law_greatest" "_law_greatest" s_greatest f fd) : FnOk P w K mg base CX0 1 f fd ["_law_places"] (spGreatest K) := by
  refine F.ok sc_greatest (fun vs H Q E h => ?_) (fun cdv A outer s H vs Q E hr h => ?_)
  · obtain ⟨p, ns, rfl, _⟩ := h
    rfl
  · obtain ⟨p, ns, rfl, hS, q⟩ := h
    refine ⟨_, (pss_cons (ps_set (i := 1) sc_greatest.nd rfl (Or.inl rfl) pe_int)
      (pss_cons (ps_for PassesOwn.never rfl (pi_list (pv 0)) (pg_name (i := 2) sc_greatest.nd rfl (Or.inl rfl))
        (pss_one (ps_if (pt_cmpR op_gt (pv 2) (pv 1) (nomark _))
          (pss_one (ps_set (i := 1) sc_greatest.nd rfl (Or.inl rfl) (pv 2)))
          pss_nil)))
      (pss_one (ps_ret (pv 1))))), ?_⟩
    refine ⟨_, rfl, p, rfl, ⟨_, hS⟩, ?_⟩
    refine for_list (xs := ns.map nV) (fun i σ H1 => ∃ x2 : Option V, σ = [some (.ref p), some (.int ((mx (ns.take i) : Nat) : Int)), x2] ∧ H1 = H)
      ⟨none, rfl, rfl⟩ (fun i σ H1 _ ⟨_, _, e⟩ => e ▸ hS) ?_ ?_
    · rintro i x σ H1 hx ⟨x2, rfl, rfl⟩
      obtain ⟨n, hn, rfl⟩ := nv_of hx
      refine ⟨_, rfl, _, rfl, _, _, rfl, rfl, _, rfl, iteB (fun h1 => ?_) (fun h1 => ?_)⟩
      · have h1' := of_decide_eq_true h1
        have e : mx (ns.take (i + 1)) = n := by rw [mx_take hn]; omega
        refine ⟨_, rfl, some (.int (n : Int)), ?_, rfl⟩
        rw [e]
        rfl
      · have h1' := of_decide_eq_false h1
        have e : mx (ns.take (i + 1)) = mx (ns.take i) := by rw [mx_take hn]; omega
        refine ⟨some (.int (n : Int)), ?_, rfl⟩
        rw [e]
        rfl
    · rintro σ H1 ⟨x2, rfl, rfl⟩
      rw [List.take_of_length_le (by rw [List.length_map]; exact Nat.le_refl _)]
      exact ⟨_, rfl, q⟩
theorem ok_is {f : Addr} {fd : FuncData} (F : Fun K "_law_is" "_law_is" s_is f fd) (T : Txt K mg C CI CK CS wa mc) (M : MkC P w K mg base C CI 3) (Oe : OpC P w K mg base C "__eq__" (spCmp C gEq)) (Ol : OpC P w K mg base C "__lt__" (spCmp C gLt)) (Oq : OpC P w K mg base C "__le__" (spCmp C gLe))
    (C_said : Cal P w K mg base "_law_said" 1 spSaid) : FnOk P w K mg base CX0 5 f fd ["_law_mark", "_law_word"] (spIs C) := by
  refine F.ok sc_is (fun vs H Q E h => ?_) (fun cdv A outer s H vs Q E hr h => ?_)
  · obtain ⟨p, r, rfl, _⟩ := h
    rfl
  · obtain ⟨p, r, rfl, hp, q⟩ := h
    refine ⟨_, (pss_cons (ps_set (i := 2) sc_is.nd rfl (Or.inl rfl) (pe_lst (pa_cons pe_str (pa_cons pe_str (pa_cons pe_str (pa_cons pe_str pa_nil))))))
      (pss_cons (ps_if (PW.pt (pw_or (pt_not (pt_val (pe_callB (C8.call_isC T.ins) (by rfl) T.m_isinstance (by decide +kernel) (pa_cons (pv 0) (pa_cons (pe_glob (v := .ref C) (by rfl) T.gC rfl) pa_nil))))) (pw_or (pt_not (pt_val (pe_callB call_isi (by rfl) T.m_isinstance (by decide +kernel) (pa_cons (pe_fld (pv 0) rfl) (pa_cons (pe_bltn (v := .ty "str") (by rfl) T.m_str (by decide +kernel) rfl) pa_nil))))) (pw_or1 (pt_cmpR op_ne (pe_fld (pv 0) rfl) (pv 1) (nomark _))))))
        (pss_one (ps_ret pe_bl))
        pss_nil)
      (pss_cons (ps_set (i := 3) sc_is.nd rfl (Or.inl rfl) (pe_bm PySem.F.plainAttrs_list PySem.F.slot_list_index PySem.F.type_list_index mt_index (pv 2) (pa_cons (pv 1) pa_nil)))
      (pss_cons (ps_for PassesOwn.never rfl (pi_range1 (by rfl) T.m_range (pa_cons pe_int pa_nil)) (pg_name (i := 4) sc_is.nd rfl (Or.inl rfl))
        (pss_cons (ps_set (i := 5) sc_is.nd rfl (Or.inl rfl) (pe_mkV M (hr.mono (by decide)) (by rfl) (pe_ix ix_list (pv 2) (pv 4) (fun _ _ => rfl))))
        (pss_cons (ps_if (pt_not (pt_val (pe_cal C_said (hr.mono (by decide)) (by rfl) (pa_cons (pe_cmpR (op_mk (op := .Eq) Oe (hr.mono (by decide))) (pv 0) (pv 5) (nomark _)) (pa_cons (pe_cmpR op_eq (pv 3) (pv 4) (nomark _)) pa_nil)))))
          (pss_one (ps_ret pe_bl))
          pss_nil)
        (pss_cons (ps_if (pt_not (pt_val (pe_cal C_said (hr.mono (by decide)) (by rfl) (pa_cons (pe_cmpR (op_mk (op := .Lt) Ol (hr.mono (by decide))) (pv 0) (pv 5) (nomark _)) (pa_cons (pe_cmpR op_lt (pv 3) (pv 4) (nomark _)) pa_nil)))))
          (pss_one (ps_ret pe_bl))
          pss_nil)
        (pss_one (ps_if (pt_not (pt_val (pe_cal C_said (hr.mono (by decide)) (by rfl) (pa_cons (pe_cmpR (op_mk (op := .LtE) Oq (hr.mono (by decide))) (pv 5) (pv 0) (nomark _)) (pa_cons (pe_cmpR op_le (pv 4) (pv 3) (nomark _)) pa_nil)))))
          (pss_one (ps_ret pe_bl))
          pss_nil))))))
      (pss_one (ps_ret pe_bl)))))), ?_⟩
    obtain ⟨hr4, dx, ep⟩ := id hp
    refine ⟨by show 4 ≤ sizeLine; decide, fun l nl => ?_⟩
    have s1 : Same H (upd H l (.lst WV)) := same_upd nl
    have ep1 : (upd H l (.lst WV)) p = some (.ins C dx (mflds r)) := s1 _ _ ep
    have el1 : (upd H l (.lst WV)) l = some (.lst WV) := upd_same
    refine ⟨_, rfl, p, dx, _, rfl, ep1, _, rfl, iteF ?_⟩
    refine ⟨_, rfl, p, C, dx, _, _, rfl, ep1, T.ins.cl, T.nW, mf_word r, .str (WD r), .ty "str", .type "str", .type "str", true, rfl, .ty "str", .base (.str _), kit_ty (by decide +kernel), _, rfl, iteF ?_⟩
    refine ⟨_, rfl, p, C, dx, _, _, rfl, ep1, T.ins.cl, T.nW, mf_word r, _, rfl, rfl, _, rfl, iteNS rfl ?_⟩
    refine ⟨_, rfl, .inl ⟨rfl, WV, .inl (.inl el1)⟩, _, rfl, l, WV, .str (WD r), r, .str (WD r), rfl, rfl, .inl (.inl el1), rfl, wv_flat, wv_at hr4, beq_self_eq_true _, fun m z' hm hz => ?_, ?_⟩
    · obtain ⟨hm4, rfl⟩ := wv_of hz
      have hne : ¬ (WD m = WD r) := fun e => by
        have := wd_inj hm4 hr4 e
        omega
      show (WD m == WD r) = false
      exact beq_eq_false_iff_ne.mpr hne
    refine ⟨4, rfl, by decide, by decide, ?_⟩
    refine for_range (lo := 0) (n := 4) (fun i σ H2 => ∃ x4 x5 : Option V, σ = [some (.ref p), some (.str (WD r)), some (.ref l), some (.int (r : Int)), x4, x5] ∧ Same (upd H l (.lst WV)) H2)
      ⟨none, none, rfl, Same.refl _⟩ ?_ ?_
    · rintro i σ H2 hi ⟨x4, x5, rfl, sm⟩
      rw [Int.zero_add]
      have el2 : H2 l = some (.lst WV) := sm _ _ el1
      have hp2 : MkAt C H2 p r := hp.same (s1.trans sm)
      refine ⟨_, rfl, _, rfl, l, WV, _, _, rfl, rfl, .inl (.inl el2), atI_nat (wv_at hi), i, hi, rfl, fun x H3 nx s3 hx => ?_⟩
      have hp3 := hp2.same s3
      refine ⟨_, rfl, _, rfl, p, x, r, i, rfl, rfl, hp3, hx, _, rfl, _, rfl, rfl, _, _, rfl, _, rfl, iteNS rfl ?_⟩
      refine ⟨_, rfl, _, rfl, p, x, r, i, rfl, rfl, hp3, hx, _, rfl, _, rfl, _, _, rfl, rfl, _, _, rfl, _, rfl, iteNS rfl ?_⟩
      refine ⟨_, rfl, _, rfl, x, p, i, r, rfl, rfl, hx, hp3, _, rfl, _, rfl, _, _, rfl, rfl, _, _, rfl, _, rfl, iteNS rfl ?_⟩
      exact ⟨_, _, rfl, sm.trans s3⟩
    · rintro σ H2 ⟨x4, x5, rfl, sm⟩
      exact q H2 (s1.trans sm)
end
end Kx

namespace Kx
open PySem PySem.Spec PyProof.Rows L2 NdefX
abbrev s_pairs_right : Stmt := topS 15
abbrev N_pairs_right : List Str := ["_law_words", "_law_i", "_law_j", "_law_one", "_law_two"]
theorem sc_pairs_right : FnScope N_pairs_right ["_law_words"] (defScope s_pairs_right) := ⟨rfl, rfl, rfl, by decide +kernel, rfl, by decide +kernel, by decide +kernel⟩
def spPairs (K : PySem.W.Frag) : Sp := fun vs H Q _ => ∃ l : Addr, vs = [.ref l] ∧ SqL K H l WV ∧ ∀ H', Same H H' → Q (.bl true) H'
theorem mx2 (i j : Nat) : mx [i, j] = max i j := by
  show max (max 0 i) j = max i j
  rw [Nat.zero_max]
section
variable {P : Program} {w : World} {K : PySem.W.Frag} {mg : Str → Option Value} {base : Heap} {C CI CK CS wa : Addr} {mc : Value}
theorem ok_pairs {f : Addr} {fd : FuncData} (F : Fun K "_law_pairs_right" "_law_pairs_right" s_pairs_right f fd) (T : Txt K mg C CI CK CS wa mc) (M : MkC P w K mg base C CI 3) (Oe : OpC P w K mg base C "__eq__" (spCmp C gEq)) (Ol : OpC P w K mg base C "__lt__" (spCmp C gLt)) (Oq : OpC P w K mg base C "__le__" (spCmp C gLe))
    (Oo : OpC P w K mg base C "__or__" (spOr C)) (C_said : Cal P w K mg base "_law_said" 1 spSaid) (C_is : Cal P w K mg base "_law_is" 5 (spIs C)) (C_greatest : Cal P w K mg base "_law_greatest" 1 (spGreatest K)) : FnOk P w K mg base CX0 6 f fd ["_law_words"] (spPairs K) := by
  refine F.ok sc_pairs_right (fun vs H Q E h => ?_) (fun cdv A outer s H vs Q E hr h => ?_)
  · obtain ⟨l, rfl, _⟩ := h
    rfl
  · obtain ⟨l, rfl, hl, q⟩ := h
    refine ⟨_, (pss_cons (ps_for PassesOwn.never rfl (pi_range1 (by rfl) T.m_range (pa_cons pe_int pa_nil)) (pg_name (i := 1) sc_pairs_right.nd rfl (Or.inl rfl))
        (pss_one (ps_for PassesOwn.never rfl (pi_range1 (by rfl) T.m_range (pa_cons pe_int pa_nil)) (pg_name (i := 2) sc_pairs_right.nd rfl (Or.inl rfl))
          (pss_cons (ps_set (i := 3) sc_pairs_right.nd rfl (Or.inl rfl) (pe_mkV M (hr.mono (by decide)) (by rfl) (pe_ix ix_list (pv 0) (pv 1) (fun _ _ => rfl))))
          (pss_cons (ps_set (i := 4) sc_pairs_right.nd rfl (Or.inl rfl) (pe_mkV M (hr.mono (by decide)) (by rfl) (pe_ix ix_list (pv 0) (pv 2) (fun _ _ => rfl))))
          (pss_cons (ps_if (pt_not (pt_val (pe_cal C_said (hr.mono (by decide)) (by rfl) (pa_cons (pe_cmpR (op_mk (op := .Lt) Ol (hr.mono (by decide))) (pv 3) (pv 4) (nomark _)) (pa_cons (pe_cmpR op_lt (pv 1) (pv 2) (nomark _)) pa_nil)))))
            (pss_one (ps_ret pe_bl))
            pss_nil)
          (pss_cons (ps_if (pt_not (pt_val (pe_cal C_said (hr.mono (by decide)) (by rfl) (pa_cons (pe_cmpR (op_mk (op := .LtE) Oq (hr.mono (by decide))) (pv 3) (pv 4) (nomark _)) (pa_cons (pe_cmpR op_le (pv 1) (pv 2) (nomark _)) pa_nil)))))
            (pss_one (ps_ret pe_bl))
            pss_nil)
          (pss_cons (ps_if (PW.pt (pw_or (pt_not (pt_val (pe_cal C_said (hr.mono (by decide)) (by rfl) (pa_cons (pe_cmpR (op_mk (op := .Eq) Oe (hr.mono (by decide))) (pv 3) (pv 4) (nomark _)) (pa_cons (pe_cmpR op_eq (pv 1) (pv 2) (nomark _)) pa_nil))))) (pw_or1 (pt_not (pt_val (pe_cal C_is (hr.mono (by decide)) (by rfl) (pa_cons (pv 3) (pa_cons (pe_ix ix_list (pv 0) (pv 1) (fun _ _ => rfl)) pa_nil))))))))
            (pss_one (ps_ret pe_bl))
            pss_nil)
          (pss_cons (ps_if (pt_not (pt_val (pe_cal C_is (hr.mono (by decide)) (by rfl) (pa_cons (pe_op (op_mkOr Oo (hr.mono (by decide))) (pv 3) (pv 4)) (pa_cons (pe_ix ix_list (pv 0) (pe_cal C_greatest (hr.mono (by decide)) (by rfl) (pa_cons (pe_lst (pa_cons (pv 1) (pa_cons (pv 2) pa_nil))) pa_nil)) (fun _ _ => rfl)) pa_nil)))))
            (pss_one (ps_ret pe_bl))
            pss_nil)
          (pss_one (ps_if (PW.pt (pw_or (pt_not (pt_val (pe_cal C_is (hr.mono (by decide)) (by rfl) (pa_cons (pv 3) (pa_cons (pe_ix ix_list (pv 0) (pv 1) (fun _ _ => rfl)) pa_nil))))) (pw_or1 (pt_not (pt_val (pe_cal C_is (hr.mono (by decide)) (by rfl) (pa_cons (pv 4) (pa_cons (pe_ix ix_list (pv 0) (pv 2) (fun _ _ => rfl)) pa_nil))))))))
            (pss_one (ps_ret pe_bl))
            pss_nil)))))))))))
      (pss_one (ps_ret pe_bl))), ?_⟩
    refine ⟨4, rfl, by decide, by decide, ?_⟩
    refine for_range (lo := 0) (n := 4) (fun i σ H1 => ∃ x1 x2 x3 x4 : Option V, σ = [some (.ref l), x1, x2, x3, x4] ∧ Same H H1) ⟨none, none, none, none, rfl, Same.refl _⟩ ?_ ?_
    · rintro i σ H1 hi ⟨x1, x2, x3, x4, rfl, s1⟩
      rw [Int.zero_add]
      refine ⟨4, rfl, by decide, by decide, ?_⟩
      refine for_range (lo := 0) (n := 4) (fun j σ H2 => ∃ x2 x3 x4 : Option V, σ = [some (.ref l), some (.int (i : Int)), x2, x3, x4] ∧ Same H H2) ⟨x2, x3, x4, rfl, s1⟩ ?_ ?_
      · rintro j σ H2 hj ⟨x2, x3, x4, rfl, s2⟩
        rw [Int.zero_add]
        refine ⟨_, rfl, _, rfl, l, WV, _, _, rfl, rfl, s2.seq hl, atI_nat (wv_at hi), i, hi, rfl, fun x H3 nx s3 hx => ?_⟩
        have t3 := s2.trans s3
        refine ⟨_, rfl, _, rfl, l, WV, _, _, rfl, rfl, t3.seq hl, atI_nat (wv_at hj), j, hj, rfl, fun y H4 ny s4 hy => ?_⟩
        have t4 := t3.trans s4
        have hx4 := hx.same s4
        refine ⟨_, rfl, _, rfl, x, y, i, j, rfl, rfl, hx4, hy, _, rfl, _, rfl, _, _, rfl, rfl, _, _, rfl, _, rfl, iteNS rfl ?_⟩
        refine ⟨_, rfl, _, rfl, x, y, i, j, rfl, rfl, hx4, hy, _, rfl, _, rfl, _, _, rfl, rfl, _, _, rfl, _, rfl, iteNS rfl ?_⟩
        refine ⟨_, rfl, _, rfl, x, y, i, j, rfl, rfl, hx4, hy, _, rfl, _, rfl, rfl, _, _, rfl, _, rfl, iteNS rfl ?_⟩
        refine ⟨_, rfl, _, rfl, _, rfl, l, WV, _, _, rfl, rfl, t4.seq hl, atI_nat (wv_at hi), x, i, rfl, hx4, fun H5 s5 => ⟨_, rfl, iteF ?_⟩⟩
        have t5 := t4.trans s5
        refine ⟨_, rfl, _, rfl, x, y, i, j, rfl, rfl, hx4.same s5, hy.same s5, _, rfl, _, rfl, _, rfl, by show 2 ≤ sizeLine; decide, fun m nm => ?_⟩
        have s6 : Same H5 (upd H5 m (.lst ([i, j].map nV))) := same_upd nm
        refine ⟨m, [i, j], rfl, .inl (.inl upd_same), l, WV, _, .str (WD (mx [i, j])), rfl, rfl, (t5.trans s6).seq hl, atI_nat (wv_at (by rw [mx2]; omega)), _, mx [i, j], rfl, ?_, fun H7 s7 => ⟨_, rfl, iteF ?_⟩⟩
        · rw [mx2]
          exact if_max i j (hx4.same (s5.trans s6)) (hy.same (s5.trans s6))
        have t7 := (t5.trans s6).trans s7
        have k7 := (s5.trans s6).trans s7
        refine ⟨_, rfl, _, rfl, _, rfl, l, WV, _, _, rfl, rfl, t7.seq hl, atI_nat (wv_at hi), x, i, rfl, hx4.same k7, fun H8 s8 => ⟨_, rfl, iteF ?_⟩⟩
        have t8 := t7.trans s8
        refine ⟨_, rfl, _, rfl, _, rfl, l, WV, _, _, rfl, rfl, t8.seq hl, atI_nat (wv_at hj), y, j, rfl, hy.same (k7.trans s8), fun H9 s9 => ⟨_, rfl, iteF ?_⟩⟩
        exact ⟨_, _, _, rfl, t8.trans s9⟩
      · rintro σ H2 ⟨x2, x3, x4, rfl, s2⟩
        exact ⟨_, _, _, _, rfl, s2⟩
    · rintro σ H1 ⟨x1, x2, x3, x4, rfl, s1⟩
      exact q H1 s1
end
end Kx

namespace Kx
open PySem PySem.Spec PyProof.Rows L2 NdefX
abbrev s_many_right : Stmt := topS 16
abbrev N_many_right : List Str := ["_law_places", "_law_words", "_law_m", "_law_told", "_law_k", "_law_weak", "_law_place"]
theorem sc_many_right : FnScope N_many_right ["_law_places", "_law_words"] (defScope s_many_right) := ⟨rfl, rfl, rfl, by decide +kernel, rfl, by decide +kernel, by decide +kernel⟩
def spMany (K : PySem.W.Frag) : Sp := fun vs H Q _ => ∃ (pp l : Addr) (ns : List Nat), vs = [.ref pp, .ref l] ∧ SqL K H pp (ns.map nV) ∧ SqL K H l WV ∧ ns.length = 8 ∧ (∀ n ∈ ns, n < 4) ∧ ∀ H', Same H H' → Q (.bl true) H'
theorem mkat_upd {C D a : Addr} {H : Hp} {xs : List V} {o : HO} {r : Nat} (hD : H D = some (.lst xs)) (h : MkAt C H a r) : MkAt C (upd H D o) a r := by
  obtain ⟨h4, dx, e⟩ := h
  refine ⟨h4, dx, ?_⟩
  rw [upd_ne (ne_of e hD (by intro z; cases z))]
  exact e
theorem mks_upd {C D : Addr} {H : Hp} {xs : List V} {o : HO} (hD : H D = some (.lst xs)) : ∀ {vs : List V} {rs : List Nat}, Mks C H vs rs → Mks C (upd H D o) vs rs
  | _, _, .nil => .nil
  | _, _, .cons ⟨a, e, m⟩ t => .cons ⟨a, e, mkat_upd hD m⟩ (mks_upd hD t)
theorem mks_app {C a : Addr} {H : Hp} {r : Nat} (m : MkAt C H a r) : ∀ {vs : List V} {rs : List Nat}, Mks C H vs rs → Mks C H (vs ++ [.ref a]) (rs ++ [r])
  | _, _, .nil => .cons ⟨a, rfl, m⟩ .nil
  | _, _, .cons x t => .cons x (mks_app m t)
theorem len8 : ∀ {ns : List Nat}, ns.length = 8 → ∃ a b c d e f g h, ns = [a, b, c, d, e, f, g, h]
  | [a, b, c, d, e, f, g, h], _ => ⟨a, b, c, d, e, f, g, h, rfl⟩
theorem mx1 (n : Nat) : mx [n] = n := Nat.zero_max n
theorem mx_lt {ns : List Nat} (h : ∀ n ∈ ns, n < 4) : mx ns < 4 := by
  have : ∀ (ns : List Nat) (a : Nat), a < 4 → (∀ n ∈ ns, n < 4) → ns.foldl max a < 4 := by
    intro ns
    induction ns with
    | nil => intro a ha _; exact ha
    | cons b t ih => intro a ha hb; exact ih _ (Nat.max_lt.mpr ⟨ha, hb b (by simp)⟩) (fun n hn => hb n (by simp [hn]))
  exact this ns 0 (by decide) h
section
variable {P : Program} {w : World} {K : PySem.W.Frag} {mg : Str → Option Value} {base : Heap} {C CI CK CS wa : Addr} {mc : Value}
theorem ok_many {f : Addr} {fd : FuncData} (F : Fun K "_law_many_right" "_law_many_right" s_many_right f fd) (T : Txt K mg C CI CK CS wa mc) (M : MkC P w K mg base C CI 3) (S : StC P w K mg base C 5)
    (C_is : Cal P w K mg base "_law_is" 5 (spIs C)) (C_greatest : Cal P w K mg base "_law_greatest" 1 (spGreatest K)) : FnOk P w K mg base CX0 6 f fd ["_law_places", "_law_words"] (spMany K) := by
  refine F.ok sc_many_right (fun vs H Q E h => ?_) (fun cdv A outer s H vs Q E hr h => ?_)
  · obtain ⟨pp, l, ns, rfl, _⟩ := h
    rfl
  · obtain ⟨pp, l, ns, rfl, hP, hl, h8, h4, q⟩ := h
    refine ⟨_, (pss_cons (ps_setLc (i := 2) (own := [("_law_place", 6)]) (g := gName 6) (tt := tYes) rfl sc_many_right.nd rfl rfl (sw_true rfl rfl rfl (by decide +kernel)) (pi_list (pv 0)) (blkOk_by (own := [("_law_place", 6)]) (N := N_many_right) (sc := defScope s_many_right) (by decide +kernel)) (fun _ _ _ _ _ => pg_name (i := 6) sc_many_right.nd rfl (Or.inl rfl)) (fun _ _ _ _ _ => pts_nil) (fun _ _ _ _ _ => (pe_mkV M (hr.mono (by decide)) (by rfl) (pe_ix (show IxR _ (rIxL K) from ix_list) (pv 1) (pv 6) (fun _ _ => rfl)))))
      (pss_cons (ps_if (PW.pt (pw_or (pt_not (pt_val (pe_cal C_is (hr.mono (by decide)) (by rfl) (pa_cons (pe_strong0 S (hr.mono (by decide)) (by rfl)) (pa_cons pe_str pa_nil))))) (pw_or1 (pt_not (pt_val (pe_cal C_is (hr.mono (by decide)) (by rfl) (pa_cons (pe_strong S (hr.mono (by decide)) (by rfl) (pa_cons (pe_ix ix_list (pv 2) pe_int (fun _ _ => rfl)) pa_nil)) (pa_cons (pe_ix ix_list (pv 1) (pe_ix ix_list (pv 0) pe_int (fun _ _ => rfl)) (fun _ _ => rfl)) pa_nil))))))))
        (pss_one (ps_ret pe_bl))
        pss_nil)
      (pss_cons (ps_if (pt_not (pt_val (pe_cal C_is (hr.mono (by decide)) (by rfl) (pa_cons (pe_strong S (hr.mono (by decide)) (by rfl) (pa_cons (pe_ix ix_list (pv 2) pe_int (fun _ _ => rfl)) (pa_cons (pe_ix ix_list (pv 2) pe_int (fun _ _ => rfl)) pa_nil))) (pa_cons (pe_ix ix_list (pv 1) (pe_cal C_greatest (hr.mono (by decide)) (by rfl) (pa_cons (pe_slice sl_list (pv 0) po_none (po_some pe_int)) pa_nil)) (fun _ _ => rfl)) pa_nil)))))
        (pss_one (ps_ret pe_bl))
        pss_nil)
      (pss_cons (ps_if (pt_not (pt_val (pe_cal C_is (hr.mono (by decide)) (by rfl) (pa_cons (pe_strong S (hr.mono (by decide)) (by rfl) (pa_cons (pe_ix ix_list (pv 2) pe_int (fun _ _ => rfl)) (pa_cons (pe_ix ix_list (pv 2) pe_int (fun _ _ => rfl)) (pa_cons (pe_ix ix_list (pv 2) pe_int (fun _ _ => rfl)) pa_nil)))) (pa_cons (pe_ix ix_list (pv 1) (pe_cal C_greatest (hr.mono (by decide)) (by rfl) (pa_cons (pe_slice sl_list (pv 0) po_none (po_some pe_int)) pa_nil)) (fun _ _ => rfl)) pa_nil)))))
        (pss_one (ps_ret pe_bl))
        pss_nil)
      (pss_cons (ps_set (i := 3) sc_many_right.nd rfl (Or.inl rfl) (pe_strong S (hr.mono (by decide)) (by rfl) (pa_cons (pe_ix ix_list (pv 2) pe_int (fun _ _ => rfl)) (pa_cons (pe_ix ix_list (pv 2) pe_int (fun _ _ => rfl)) (pa_cons (pe_ix ix_list (pv 2) pe_int (fun _ _ => rfl)) (pa_cons (pe_ix ix_list (pv 2) pe_int (fun _ _ => rfl)) (pa_cons (pe_ix ix_list (pv 2) pe_int (fun _ _ => rfl)) (pa_cons (pe_ix ix_list (pv 2) pe_int (fun _ _ => rfl)) pa_nil))))))))
      (pss_cons (ps_if (pt_not (pt_val (pe_cal C_is (hr.mono (by decide)) (by rfl) (pa_cons (pv 3) (pa_cons (pe_ix ix_list (pv 1) (pe_cal C_greatest (hr.mono (by decide)) (by rfl) (pa_cons (pe_slice sl_list (pv 0) po_none (po_some pe_int)) pa_nil)) (fun _ _ => rfl)) pa_nil)))))
        (pss_one (ps_ret pe_bl))
        pss_nil)
      (pss_cons (ps_set (i := 3) sc_many_right.nd rfl (Or.inl rfl) (pe_strong S (hr.mono (by decide)) (by rfl) (pa_cons (pe_ix ix_list (pv 2) pe_int (fun _ _ => rfl)) (pa_cons (pe_ix ix_list (pv 2) pe_int (fun _ _ => rfl)) (pa_cons (pe_ix ix_list (pv 2) pe_int (fun _ _ => rfl)) (pa_cons (pe_ix ix_list (pv 2) pe_int (fun _ _ => rfl)) (pa_cons (pe_ix ix_list (pv 2) pe_int (fun _ _ => rfl)) (pa_cons (pe_ix ix_list (pv 2) pe_int (fun _ _ => rfl)) (pa_cons (pe_ix ix_list (pv 2) pe_int (fun _ _ => rfl)) (pa_cons (pe_ix ix_list (pv 2) pe_int (fun _ _ => rfl)) pa_nil))))))))))
      (pss_cons (ps_if (pt_not (pt_val (pe_cal C_is (hr.mono (by decide)) (by rfl) (pa_cons (pv 3) (pa_cons (pe_ix ix_list (pv 1) (pe_cal C_greatest (hr.mono (by decide)) (by rfl) (pa_cons (pv 0) pa_nil)) (fun _ _ => rfl)) pa_nil)))))
        (pss_one (ps_ret pe_bl))
        pss_nil)
      (pss_cons (ps_for PassesOwn.never rfl (pi_range1 (by rfl) T.m_range (pa_cons pe_int pa_nil)) (pg_name (i := 4) sc_many_right.nd rfl (Or.inl rfl))
        (pss_one (ps_if (pt_not (pt_val (pe_cal C_is (hr.mono (by decide)) (by rfl) (pa_cons (pe_ix ix_list (pv 2) (pv 4) (fun _ _ => rfl)) (pa_cons (pe_ix ix_list (pv 1) (pe_ix ix_list (pv 0) (pv 4) (fun _ _ => rfl)) (fun _ _ => rfl)) pa_nil)))))
          (pss_one (ps_ret pe_bl))
          pss_nil)))
      (pss_cons (ps_set (i := 5) sc_many_right.nd rfl (Or.inl rfl) (pe_mkV M (hr.mono (by decide)) (by rfl) pe_str))
      (pss_cons (ps_set (i := 3) sc_many_right.nd rfl (Or.inl rfl) (pe_strong S (hr.mono (by decide)) (by rfl) (pa_cons (pv 5) (pa_cons (pv 5) (pa_cons (pv 5) (pa_cons (pv 5) (pa_cons (pv 5) (pa_cons (pv 5) (pa_cons (pv 5) (pa_cons (pv 5) (pa_cons (pv 5) (pa_cons (pe_mkV M (hr.mono (by decide)) (by rfl) pe_str) pa_nil))))))))))))
      (pss_one (ps_ret (pe_and (pe_cal C_is (hr.mono (by decide)) (by rfl) (pa_cons (pv 3) (pa_cons pe_str pa_nil))) (pe_one (pe_cal C_is (hr.mono (by decide)) (by rfl) (pa_cons (pv 5) (pa_cons pe_str pa_nil)))))))))))))))))), ?_⟩
    -- the marks
    refine ⟨_, rfl, pp, rfl, ⟨_, hP⟩, fun D hD => ?_⟩
    refine lc_list (xs := ns.map nV) (fun i H1 => ∃ vs, Same H H1 ∧ H1 D = some (.lst vs) ∧ Mks C H1 vs (ns.take i)) ⟨[], same_upd hD, upd_same, .nil⟩ (fun i H1 _ ⟨_, sm, _⟩ => sm.seq hP) ?_ ?_
    · rintro i x H1 hx ⟨vs, sm, eD, hm⟩
      obtain ⟨n, hn, rfl⟩ := nv_of hx
      have hn4 : n < 4 := h4 n (List.mem_of_getElem? hn)
      have hlen : vs.length ≤ 8 := by rw [hm.len, List.length_take]; omega
      refine ⟨rfl, _, rfl, _, rfl, l, WV, _, _, rfl, rfl, sm.seq hl, atI_nat (wv_at hn4), n, hn4, rfl, fun y H2 ny s2 hy => ?_⟩
      have eD2 := s2 _ _ eD
      refine ⟨vs, eD2, sl9 (by omega), vs ++ [.ref y], same_mut (sm.trans s2) hD, upd_same, ?_⟩
      rw [List.take_add_one, hn]
      exact mks_app (mkat_upd eD2 hy) (mks_upd eD2 (hm.same s2))
    · rintro H1 ⟨vs, s1, eD, hm⟩
      rw [List.take_of_length_le (by rw [List.length_map]; exact Nat.le_refl _)] at hm
      obtain ⟨n0, n1, n2, n3, n4, n5, n6, n7, rfl⟩ := len8 h8
      obtain _ | ⟨⟨a0, rfl, m0⟩, _ | ⟨⟨a1, rfl, m1⟩, _ | ⟨⟨a2, rfl, m2⟩, _ | ⟨⟨a3, rfl, m3⟩, _ | ⟨⟨a4, rfl, m4⟩, _ | ⟨⟨a5, rfl, m5⟩, _ | ⟨⟨a6, rfl, m6⟩, _ | ⟨⟨a7, rfl, m7⟩, hnil⟩⟩⟩⟩⟩⟩⟩⟩ := hm
      cases hnil
      have u1 : Same H1 H1 := Same.refl _
      have e1 := eD
      have l0 : n0 < 4 := h4 _ (by simp)
      have l1 : n1 < 4 := h4 _ (by simp)
      have l2 : n2 < 4 := h4 _ (by simp)
      have l3 : n3 < 4 := h4 _ (by simp)
      have l4 : n4 < 4 := h4 _ (by simp)
      have l5 : n5 < 4 := h4 _ (by simp)
      have l6 : n6 < 4 := h4 _ (by simp)
      have l7 : n7 < 4 := h4 _ (by simp)
      have tup : ∀ {ns : List Nat}, (∀ n ∈ ns, n < 4) → mx ns < 4 := mx_lt
      refine ⟨[], .nil, by decide, fun H2 x s2 hx => ⟨x, 0, rfl, hx, fun H3 s3 => ⟨_, rfl, iteF ?_⟩⟩⟩
      have u3 := u1.trans (s2.trans s3)
      have e3 := u3 _ _ eD
      refine ⟨_, rfl, D, _, _, _, rfl, rfl, .inl (.inl e3), rfl, [n0], (.cons ⟨a0, rfl, m0.same u3⟩ (.nil)), Nat.le_of_ble_eq_true rfl, fun H4 x s4 hx => ?_⟩
      have u4 := u3.trans (s4)
      have e4 := u4 _ _ eD
      refine ⟨_, rfl, _, rfl, pp, _, _, _, rfl, rfl, (s1.trans u4).seq hP, rfl, l, WV, _, _, rfl, rfl, (s1.trans u4).seq hl, atI_nat (wv_at l0), x, n0, rfl, mx1 n0 ▸ hx, fun H5 s5 => ⟨_, rfl, iteF ?_⟩⟩
      have u5 := u4.trans (s5)
      have e5 := u5 _ _ eD
      refine ⟨_, rfl, D, _, _, _, rfl, rfl, .inl (.inl e5), rfl, _, rfl, D, _, _, _, rfl, rfl, .inl (.inl e5), rfl, [n0, n1], (.cons ⟨a0, rfl, m0.same u5⟩ ( .cons ⟨a1, rfl, m1.same u5⟩ (.nil))), Nat.le_of_ble_eq_true rfl, fun H6 x6 s6 hx6 => ?_⟩
      have u6 := u5.trans (s6)
      have e6 := u6 _ _ eD
      refine ⟨_, rfl, _, rfl, _, rfl, pp, _, rfl, (s1.trans u6).seq hP, fun b7 nb7 => ?_⟩
      have s7 : Same H6 (upd H6 b7 (.lst ([n0, n1].map nV))) := same_upd nb7
      have u7 := u6.trans s7
      refine ⟨b7, [n0, n1], rfl, .inl (.inl upd_same), l, WV, _, .str (WD (mx [n0, n1])), rfl, rfl, (s1.trans u7).seq hl, atI_nat (wv_at (mx_lt (fun n h => h4 n (by simp at h ⊢; omega)))), x6, mx [n0, n1], rfl, hx6.same s7, fun H8 s8 => ⟨_, rfl, iteF ?_⟩⟩
      have u8 := u7.trans (s8)
      have e8 := u8 _ _ eD
      refine ⟨_, rfl, D, _, _, _, rfl, rfl, .inl (.inl e8), rfl, _, rfl, D, _, _, _, rfl, rfl, .inl (.inl e8), rfl, _, rfl, D, _, _, _, rfl, rfl, .inl (.inl e8), rfl, [n0, n1, n2], (.cons ⟨a0, rfl, m0.same u8⟩ ( .cons ⟨a1, rfl, m1.same u8⟩ ( .cons ⟨a2, rfl, m2.same u8⟩ (.nil)))), Nat.le_of_ble_eq_true rfl, fun H9 x9 s9 hx9 => ?_⟩
      have u9 := u8.trans (s9)
      have e9 := u9 _ _ eD
      refine ⟨_, rfl, _, rfl, _, rfl, pp, _, rfl, (s1.trans u9).seq hP, fun b10 nb10 => ?_⟩
      have s10 : Same H9 (upd H9 b10 (.lst ([n0, n1, n2].map nV))) := same_upd nb10
      have u10 := u9.trans s10
      refine ⟨b10, [n0, n1, n2], rfl, .inl (.inl upd_same), l, WV, _, .str (WD (mx [n0, n1, n2])), rfl, rfl, (s1.trans u10).seq hl, atI_nat (wv_at (mx_lt (fun n h => h4 n (by simp at h ⊢; omega)))), x9, mx [n0, n1, n2], rfl, hx9.same s10, fun H11 s11 => ⟨_, rfl, iteF ?_⟩⟩
      have u11 := u10.trans (s11)
      have e11 := u11 _ _ eD
      refine ⟨_, rfl, D, _, _, _, rfl, rfl, .inl (.inl e11), rfl, _, rfl, D, _, _, _, rfl, rfl, .inl (.inl e11), rfl, _, rfl, D, _, _, _, rfl, rfl, .inl (.inl e11), rfl, _, rfl, D, _, _, _, rfl, rfl, .inl (.inl e11), rfl, _, rfl, D, _, _, _, rfl, rfl, .inl (.inl e11), rfl, _, rfl, D, _, _, _, rfl, rfl, .inl (.inl e11), rfl, [n0, n1, n2, n3, n4, n5], (.cons ⟨a0, rfl, m0.same u11⟩ ( .cons ⟨a1, rfl, m1.same u11⟩ ( .cons ⟨a2, rfl, m2.same u11⟩ ( .cons ⟨a3, rfl, m3.same u11⟩ ( .cons ⟨a4, rfl, m4.same u11⟩ ( .cons ⟨a5, rfl, m5.same u11⟩ (.nil))))))), Nat.le_of_ble_eq_true rfl, fun H12 x12 s12 hx12 => ?_⟩
      have u12 := u11.trans (s12)
      have e12 := u12 _ _ eD
      refine ⟨_, rfl, ?_⟩
      refine ⟨_, rfl, _, rfl, _, rfl, pp, _, rfl, (s1.trans u12).seq hP, fun b13 nb13 => ?_⟩
      have s13 : Same H12 (upd H12 b13 (.lst ([n0, n1, n2, n3, n4, n5].map nV))) := same_upd nb13
      have u13 := u12.trans s13
      refine ⟨b13, [n0, n1, n2, n3, n4, n5], rfl, .inl (.inl upd_same), l, WV, _, .str (WD (mx [n0, n1, n2, n3, n4, n5])), rfl, rfl, (s1.trans u13).seq hl, atI_nat (wv_at (mx_lt (fun n h => h4 n (by simp at h ⊢; omega)))), x12, mx [n0, n1, n2, n3, n4, n5], rfl, hx12.same s13, fun H14 s14 => ⟨_, rfl, iteF ?_⟩⟩
      have u14 := u13.trans (s14)
      have e14 := u14 _ _ eD
      refine ⟨_, rfl, D, _, _, _, rfl, rfl, .inl (.inl e14), rfl, _, rfl, D, _, _, _, rfl, rfl, .inl (.inl e14), rfl, _, rfl, D, _, _, _, rfl, rfl, .inl (.inl e14), rfl, _, rfl, D, _, _, _, rfl, rfl, .inl (.inl e14), rfl, _, rfl, D, _, _, _, rfl, rfl, .inl (.inl e14), rfl, _, rfl, D, _, _, _, rfl, rfl, .inl (.inl e14), rfl, _, rfl, D, _, _, _, rfl, rfl, .inl (.inl e14), rfl, _, rfl, D, _, _, _, rfl, rfl, .inl (.inl e14), rfl, [n7, n6, n5, n4, n3, n2, n1, n0], (.cons ⟨a7, rfl, m7.same u14⟩ ( .cons ⟨a6, rfl, m6.same u14⟩ ( .cons ⟨a5, rfl, m5.same u14⟩ ( .cons ⟨a4, rfl, m4.same u14⟩ ( .cons ⟨a3, rfl, m3.same u14⟩ ( .cons ⟨a2, rfl, m2.same u14⟩ ( .cons ⟨a1, rfl, m1.same u14⟩ ( .cons ⟨a0, rfl, m0.same u14⟩ (.nil))))))))), Nat.le_of_ble_eq_true rfl, fun H15 x15 s15 hx15 => ?_⟩
      have u15 := u14.trans (s15)
      have e15 := u15 _ _ eD
      have rev : mx [n7, n6, n5, n4, n3, n2, n1, n0] = mx [n0, n1, n2, n3, n4, n5, n6, n7] := by simp only [mx, List.foldl]; omega
      rw [rev] at hx15
      refine ⟨_, rfl, ?_⟩
      refine ⟨_, rfl, _, rfl, pp, [n0, n1, n2, n3, n4, n5, n6, n7], rfl, (s1.trans u15).seq hP, l, WV, _, .str (WD (mx [n0, n1, n2, n3, n4, n5, n6, n7])), rfl, rfl, (s1.trans u15).seq hl, atI_nat (wv_at (mx_lt h4)), x15, mx [n0, n1, n2, n3, n4, n5, n6, n7], rfl, hx15, fun H16 s16 => ⟨_, rfl, iteF ?_⟩⟩
      have u16 := u15.trans (s16)
      have e16 := u16 _ _ eD
      have hmk : Mks C H16 [.ref a0, .ref a1, .ref a2, .ref a3, .ref a4, .ref a5, .ref a6, .ref a7] [n0, n1, n2, n3, n4, n5, n6, n7] := (.cons ⟨a0, rfl, m0.same u16⟩ ( .cons ⟨a1, rfl, m1.same u16⟩ ( .cons ⟨a2, rfl, m2.same u16⟩ ( .cons ⟨a3, rfl, m3.same u16⟩ ( .cons ⟨a4, rfl, m4.same u16⟩ ( .cons ⟨a5, rfl, m5.same u16⟩ ( .cons ⟨a6, rfl, m6.same u16⟩ ( .cons ⟨a7, rfl, m7.same u16⟩ (.nil)))))))))
      refine ⟨8, rfl, by decide, by decide, ?_⟩
      refine for_range (lo := 0) (n := 8) (fun i σ H' => ∃ y x4 : Option V, σ = [some (.ref pp), some (.ref l), some (.ref D), y, x4, none, none] ∧ Same H16 H') ⟨some (.ref x15), none, rfl, Same.refl _⟩ ?_ ?_
      · rintro i σ H' hi ⟨y, x4, rfl, sm⟩
        rw [Int.zero_add]
        obtain ⟨r, a, hr1, hv, ha⟩ := hmk.get (i := i) (List.getElem?_eq_getElem (by exact hi))
        have hr4 : r < 4 := h4 r (List.mem_of_getElem? hr1)
        have hv' : [V.ref a0, V.ref a1, V.ref a2, V.ref a3, V.ref a4, V.ref a5, V.ref a6, V.ref a7][i]? = some (V.ref a) := (List.getElem?_eq_getElem (by exact hi)).trans (congrArg some hv)
        have k' := (s1.trans u16).trans sm
        refine ⟨_, rfl, _, rfl, D, _, _, _, rfl, rfl, .inl (.inl (sm _ _ e16)), atI_nat hv', _, rfl, _, rfl, _, rfl, pp, _, _, _, rfl, rfl, k'.seq hP, atI_nat (by rw [List.getElem?_map, hr1]; rfl), l, WV, _, _, rfl, rfl, k'.seq hl, atI_nat (wv_at hr4), a, r, rfl, ha.same sm, fun H'' s'' => ⟨_, rfl, iteF ?_⟩⟩
        exact ⟨y, _, rfl, sm.trans s''⟩
      · rintro σ H' ⟨y, x4, rfl, sm⟩
        refine ⟨0, by decide, rfl, fun x Ha nx sa hx => ?_⟩
        refine ⟨_, rfl, _, rfl, _, rfl, _, rfl, _, rfl, _, rfl, _, rfl, _, rfl, _, rfl, 1, by decide, rfl, fun z Hb nz sb hz => ?_⟩
        refine ⟨[0, 0, 0, 0, 0, 0, 0, 0, 0, 1], .cons ⟨x, rfl, hx.same sb⟩ (.cons ⟨x, rfl, hx.same sb⟩ (.cons ⟨x, rfl, hx.same sb⟩ (.cons ⟨x, rfl, hx.same sb⟩ (.cons ⟨x, rfl, hx.same sb⟩ (.cons ⟨x, rfl, hx.same sb⟩ (.cons ⟨x, rfl, hx.same sb⟩ (.cons ⟨x, rfl, hx.same sb⟩ (.cons ⟨x, rfl, hx.same sb⟩ (.cons ⟨z, rfl, hz⟩ .nil))))))))), Nat.le_of_ble_eq_true rfl, fun Hc t sc ht => ?_⟩
        have kk := ((((s1.trans u16).trans sm).trans sa).trans sb).trans sc
        refine ⟨_, rfl, t, 1, rfl, ht, fun Hd sd => ?_⟩
        refine ⟨_, rfl, ?_⟩
        rw [if_pos rfl]
        exact ⟨_, rfl, x, 0, rfl, ((hx.same sb).same sc).same sd, fun He se => q He ((kk.trans sd).trans se)⟩
end
end Kx

namespace Kx
open PySem PySem.Spec PyProof.Rows L2 NdefX
/-- isinstance(e, c) in the suite, e of the class at D -/
def rIsG (K : PySem.W.Frag) (D a : Addr) (cls : Value) (d : Option Addr) : List V → Hp → VK → Prop := fun xs H Q => cls = .ref D ∧ ∃ dd, d = some dd ∧ rIsD K D a dd xs H Q
theorem call_isG {X : Cx} {a D : Addr} {d : Option Addr} {cls : Value} {oe : Obj} {pn : List (Addr × Obj)} (C : ExcC X.K D) (hz : Zc cls d oe) (hf : ∃ vs, oe.data = .fields vs) : CallR (X.suite a ((a, oe) :: pn)) (.builtin "isinstance") (rIsG X.K D a cls d) := by
  intro pins s σ H xs us Q I r h
  obtain ⟨rfl, dd, rfl, h⟩ := h
  exact call_isD C hz hf pins s σ H xs us Q I r h
/-- what the catch asks of the text -/
structure Rf (K : PySem.W.Frag) (CI CK CS : Addr) : Prop where
  ex : ExcC K CI
  xf : XfC K CI
  te : PySem.W.exmOne K (.ref CI) (.ref CI) = some true
  kS : PySem.W.kitOne K (.ref CI) (.ref CS) = some false
  kK : PySem.W.kitOne K (.ref CI) (.ref CK) = some true
  kV : PySem.W.kitOne K (.ref CI) (.type "ValueError") = some true
abbrev s_refused : Stmt := topS 11
abbrev N_refused : List Str := ["_law_word", "e"]
theorem sc_refused : FnScope N_refused ["_law_word"] (defScope s_refused) := ⟨rfl, rfl, rfl, by decide +kernel, rfl, by decide +kernel, by decide +kernel⟩
def spRef : Sp := fun vs H Q _ => ∃ z : Str, vs = [.str z] ∧ (reprText z).length ≤ 100000 ∧ z ∉ WDS ∧ ∀ H', Same H H' → Q (.bl true) H'
section
variable {P : Program} {w : World} {K : PySem.W.Frag} {mg : Str → Option Value} {base : Heap} {C CI CK CS wa : Addr} {mc : Value}
theorem ok_refused {f : Addr} {fd : FuncData} (F : Fun K "_law_refused" "_law_refused" s_refused f fd) (T : Txt K mg C CI CK CS wa mc) (R : Rf K CI CK CS) (M : MkC P w K mg base C CI 3) : FnOk P w K mg base CX0 5 f fd ["_law_word"] spRef := by
  refine F.ok sc_refused (fun vs H Q E h => ?_) (fun cdv A outer s H vs Q E hr h => ?_)
  · obtain ⟨z, rfl, _⟩ := h
    rfl
  · obtain ⟨z, rfl, hz, hn, q⟩ := h
    refine ⟨_, (pss_cons (ps_try_as (i := 1) rfl rfl sc_refused.nd rfl rfl ⟨rfl, by decide, .inl T.gI⟩ takes0
        (fun W pn xe tk _ => pss_one (ps_expr (pe_mkS M (hr.mono (by decide)) tk (by rfl) (pv 0))))
        (fun a oe cls d pn hzc hf => pss_cons (ps_if (PW.pt (pw_or (pt_val (pe_callB (call_isG R.ex hzc hf) (by rfl) T.m_isinstance (by decide +kernel) (pa_cons (pv 1) (pa_cons (pe_glob (v := .ref CS) (by rfl) T.gS rfl) pa_nil)))) (pw_or (pt_not (pt_val (pe_callB (call_isG R.ex hzc hf) (by rfl) T.m_isinstance (by decide +kernel) (pa_cons (pv 1) (pa_cons (pe_glob (v := .ref CK) (by rfl) T.gK rfl) pa_nil))))) (pw_or1 (pt_not (pt_val (pe_callB (call_isG R.ex hzc hf) (by rfl) T.m_isinstance (by decide +kernel) (pa_cons (pv 1) (pa_cons (pe_bltn (v := .ty "ValueError") (by rfl) T.m_VE (by decide +kernel) rfl) pa_nil))))))))) (pss_one (ps_ret pe_bl)) pss_nil) (pss_one (ps_ret (pe_and (pe_callB (show CallR _ (.builtin "isinstance") (rIsi K) from call_isi) (by rfl) T.m_isinstance (by decide +kernel) (pa_cons (pe_xf R.xf T.nIW hzc hf (pv 1)) (pa_cons (pe_bltn (v := .ty "str") (by rfl) T.m_str (by decide +kernel) rfl) pa_nil))) (pe_one (pe_cmpR op_eq (pe_xf R.xf T.nIW hzc hf (pv 1)) (pv 0) (nomark _))))))))
      (pss_one (ps_ret pe_bl))), ?_⟩
    refine ⟨_, rfl, z, rfl, hz, hn, fun d H1 s1 ed => ?_⟩
    refine ⟨true, R.te, fun _ a na => ?_, fun e => Bool.noConfusion e⟩
    refine ⟨_, rfl, rfl, d, rfl, _, _, _, _, rfl, ed, fun u e => e, R.kS, _, rfl, iteF ?_⟩
    refine ⟨_, rfl, rfl, d, rfl, _, _, _, _, rfl, ed, fun u e => e, R.kK, _, rfl, iteF ?_⟩
    refine ⟨_, rfl, rfl, d, rfl, _, _, _, _, rfl, ed, fun u e => e, R.kV, _, rfl, iteF ?_⟩
    refine ⟨_, rfl, rfl, rfl, d, _, _, rfl, ed, rfl, .str z, .ty "str", .type "str", .type "str", true, rfl, .ty "str", .base (.str _), kit_ty (by decide +kernel), ?_⟩
    refine ⟨_, rfl, ?_⟩
    rw [if_pos rfl]
    refine ⟨_, rfl, rfl, rfl, d, _, _, rfl, ed, rfl, _, rfl, rfl, ?_⟩
    rw [decide_eq_true rfl]
    exact q H1 s1
end
end Kx

namespace Kx
open PySem PySem.Spec PyProof.Rows L2 NdefX
abbrev s_law : Stmt := topS 17
abbrev N_law : List Str := ["_law_script", "_law_pool", "_law_words", "_law_k", "_law_places", "_law_text", "_law_word"]
theorem sc_law : FnScope N_law ["_law_script"] (defScope s_law) := ⟨rfl, rfl, rfl, by decide +kernel, rfl, by decide +kernel, by decide +kernel⟩
def spLaw (K : PySem.W.Frag) : Sp := fun vs H Q _ => ∃ (a : Addr) (ns : List Int), vs = [.ref a] ∧ SqL K H a (ns.map V.int) ∧ ns.length ≤ 63 ∧ ∀ H', Q (.bl true) H'
/-- a text of few and plain signs -/
def Sht (z : Str) (n : Nat) : Prop := z.length ≤ n ∧ ∀ c ∈ z.cps.toList, c < 16 ^ 8
theorem Sht.repr {z : Str} {n : Nat} (h : Sht z n) (hn : n ≤ 1000) : (reprText z).length ≤ 100000 := by
  have := PySem.StrLaws.reprText_len z h.2
  have := h.1
  omega
theorem sht0 : Sht "" 0 := ⟨by decide +kernel, by show ∀ c ∈ (Str.ofString "").cps.toList, c < 16 ^ 8; decide +kernel⟩
theorem okS_lt : ∀ c ∈ SIGS, c < 16 ^ 8 := by decide +kernel
theorem signV_lt (k : Int) : signV k < 16 ^ 8 := by
  have h := at_sig k
  have hl : (k % 95).toNat < SIGS.length := by rw [sigs_len]; omega
  unfold signV
  rw [List.getD_eq_getElem?_getD, List.getElem?_eq_getElem hl]
  exact okS_lt _ (List.getElem_mem hl)
theorem Sht.app {z : Str} {n : Nat} (h : Sht z n) (k : Int) : Sht (z ++ ⟨#[signV k]⟩) (n + 1) := by
  refine ⟨?_, fun c hc => ?_⟩
  · rw [app_len]
    exact Nat.add_le_add_right h.1 1
  · have hc' : c ∈ (z.cps ++ #[signV k]).toList := hc
    rw [Array.toList_append, List.mem_append] at hc'
    rcases hc' with hc' | hc'
    · exact h.2 c hc'
    · have e : c = signV k := by simpa using hc'
      rw [e]
      exact signV_lt k
def BADS : List Str := ["", "None", "READ", " own", "write ", "rea", "reads", "0", "-"]
theorem bads_ok : ∀ z ∈ BADS, (reprText z).length ≤ 100000 := by decide +kernel
theorem dp_wv {K : PySem.W.Frag} {H : Hp} : DpAll K H WV [.str wNone, .str wOwn, .str wRead, .str wWrite] := .cons (.str _) (.cons (.str _) (.cons (.str _) (.cons (.str _) .nil)))
def WT : PyData := .tuple [.str wNone, .str wOwn, .str wRead, .str wWrite]
theorem wt_eq : PyData.eqv WT WT = true := by decide +kernel
section
variable {P : Program} {w : World} {K : PySem.W.Frag} {mg : Str → Option Value} {base : Heap} {C CI CK CS wa : Addr} {mc : Value}
theorem ok_law {f : Addr} {fd : FuncData} (F : Fun K "law" "law" s_law f fd) (T : Txt K mg C CI CK CS wa mc) (C_draws_of : Cal P w K mg base "_law_draws_of" 1 (spDraws K)) (C_nth : Cal P w K mg base "_law_nth" 1 (spNth K))
    (C_sign_at : Cal P w K mg base "_law_sign_at" 1 spSign) (C_refused : Cal P w K mg base "_law_refused" 5 spRef) (C_pairs_right : Cal P w K mg base "_law_pairs_right" 6 (spPairs K)) (C_many_right : Cal P w K mg base "_law_many_right" 6 (spMany K)) :
    FnOk P w K mg base CX0 7 f fd ["_law_script"] (spLaw K) := by
  refine F.ok sc_law (fun vs H Q E h => ?_) (fun cdv A outer s H vs Q E hr h => ?_)
  · obtain ⟨a, ns, rfl, _⟩ := h
    rfl
  · obtain ⟨a, ns, rfl, hS, hlen, q⟩ := h
    refine ⟨_, (pss_cons (ps_set (i := 1) sc_law.nd rfl (Or.inr rfl) (pe_cal C_draws_of (hr.mono (by decide)) (by rfl) (pa_cons (pv 0) pa_nil)))
      (pss_cons (ps_set (i := 2) sc_law.nd rfl (Or.inl rfl) (pe_lst (pa_cons pe_str (pa_cons pe_str (pa_cons pe_str (pa_cons pe_str pa_nil))))))
      (pss_cons (ps_if (PW.pt (pw_or (pt_not (pt_val (pe_callB call_isi (by rfl) T.m_isinstance (by decide +kernel) (pa_cons (ClX.pe_cval (pe_glob (v := .ref C) (by rfl) T.gC rfl)) (pa_cons (pe_bltn (v := .ty "tuple") (by rfl) T.m_tuple (by decide +kernel) rfl) pa_nil))))) (pw_or1 (pt_cmpR (op_neD hr.units) (ClX.pe_cval (pe_glob (v := .ref C) (by rfl) T.gC rfl)) (pe_tup (pa_cons pe_str (pa_cons pe_str (pa_cons pe_str (pa_cons pe_str pa_nil))))) (nomark _)))))
        (pss_one (ps_ret pe_bl))
        pss_nil)
      (pss_cons (ps_if (pt_not (pt_val (pe_cal C_pairs_right (hr.mono (by decide)) (by rfl) (pa_cons (pv 2) pa_nil))))
        (pss_one (ps_ret pe_bl))
        pss_nil)
      (pss_cons (ps_setLc (i := 4) (own := [("_law_k", 3)]) (g := gName 3) (tt := tYes) rfl sc_law.nd rfl rfl (sw_true rfl rfl rfl (by decide +kernel)) (pi_range1 (by rfl) T.m_range (pa_cons pe_int pa_nil)) (blkOk_by (own := [("_law_k", 3)]) (N := N_law) (sc := defScope s_law) (by decide +kernel)) (fun _ _ _ _ _ => pg_name (i := 3) sc_law.nd rfl (Or.inl rfl)) (fun _ _ _ _ _ => pts_nil) (fun _ _ _ _ _ => (pe_op op_mod (pe_callTy call_int1 (by rfl) T.m_int (by decide +kernel) (pa_cons (pe_cal C_nth (hr.mono (by decide)) (by rfl) (pa_cons (pv 1) (pa_cons (pe_op op_add pe_int (pv 3)) pa_nil))) pa_nil)) pe_int)))
      (pss_cons (ps_if (pt_not (pt_val (pe_cal C_many_right (hr.mono (by decide)) (by rfl) (pa_cons (pv 4) (pa_cons (pv 2) pa_nil)))))
        (pss_one (ps_ret pe_bl))
        pss_nil)
      (pss_cons (ps_set (i := 5) sc_law.nd rfl (Or.inl rfl) pe_str)
      (pss_cons (ps_for PassesOwn.never rfl (pi_range1 (by rfl) T.m_range (pa_cons (pe_op op_mod (pe_callTy call_int1 (by rfl) T.m_int (by decide +kernel) (pa_cons (pe_ix ix_list (pv 1) pe_int (fun _ _ => rfl)) pa_nil)) pe_int) pa_nil)) (pg_name (i := 3) sc_law.nd rfl (Or.inl rfl))
        (pss_one (ps_set (i := 5) sc_law.nd rfl (Or.inl rfl) (pe_op op_add_str (pv 5) (pe_cal C_sign_at (hr.mono (by decide)) (by rfl) (pa_cons (pe_cal C_nth (hr.mono (by decide)) (by rfl) (pa_cons (pv 1) (pa_cons (pe_op op_add pe_int (pv 3)) pa_nil))) pa_nil))))))
      (pss_cons (ps_for PassesOwn.never rfl (pi_list (pe_lst (pa_cons pe_str (pa_cons pe_str (pa_cons pe_str (pa_cons pe_str (pa_cons pe_str (pa_cons pe_str (pa_cons pe_str (pa_cons pe_str (pa_cons pe_str (pa_cons (pv 5) pa_nil)))))))))))) (pg_name (i := 6) sc_law.nd rfl (Or.inl rfl))
        (pss_one (ps_if (PW.pt (pw_and (pt_cmpR op_notIn_seq (pv 6) (pv 2) (by rfl)) (pw_and1 (pt_not (pt_val (pe_cal C_refused (hr.mono (by decide)) (by rfl) (pa_cons (pv 6) pa_nil)))))))
          (pss_one (ps_ret pe_bl))
          pss_nil)))
      (pss_one (ps_ret pe_bl))))))))))), ?_⟩
    refine ⟨_, rfl, a, ns, rfl, hS, hlen, fun H1 p ms sm np ep hP => ?_⟩
    have hp : ∀ {H2 : Hp}, H2 p = some (.lst (ms.map V.int)) → SqL K H2 p (ms.map V.int) := fun e => .inl (.inl e)
    have hlo := hP.lo
    have r1 := (getD_rg hP.rg (i := 1) (by omega)).2
    -- the words
    refine ⟨by show 4 ≤ sizeLine; decide, fun l nl => ?_⟩
    have s2 : Same H1 (upd H1 l (.lst WV)) := same_upd nl
    have el2 : (upd H1 l (.lst WV)) l = some (.lst WV) := upd_same
    have ep2 := s2 _ _ ep
    have hw : ∀ {H2 : Hp}, H2 l = some (.lst WV) → SqL K H2 l WV := fun e => .inl (.inl e)
    -- the class's tuple
    obtain ⟨ow, its, nw, lw, cw, _⟩ := id T.wt
    refine ⟨C, mc, _, _, rfl, T.rd, T.wv, .ref wa, .ty "tuple", .type "tuple", .type "tuple", true, rfl, .ty "tuple", .kTuple lw cw, kit_ty (by decide +kernel), _, rfl, iteF ?_⟩
    refine ⟨C, mc, _, _, rfl, T.rd, T.wv, by show 4 ≤ sizeLine; decide, fun b nb => ?_⟩
    refine ⟨WT, WT, .tup (T.wds _) dp_wv, .tup (.inl (.inl upd_same)) dp_wv, by decide +kernel, by decide +kernel, _, rfl, ?_⟩
    rw [wt_eq]
    refine iteF ?_
    have s3 : Same (upd H1 l (.lst WV)) (upd (upd H1 l (.lst WV)) b (.tup WV)) := same_upd nb
    have el3 := s3 _ _ el2
    have ep3 := s3 _ _ ep2
    -- the pairs
    refine ⟨_, rfl, l, rfl, hw el3, fun H4 s4 => ⟨_, rfl, iteF ?_⟩⟩
    have el4 := s4 _ _ el3
    have ep4 := s4 _ _ ep3
    -- the places
    refine ⟨_, rfl, by decide, by decide, fun D hD => ?_⟩
    have npD : p ≠ D := ne_of_none ep4 hD
    refine lc_range (lo := 0) (n := 8) (fun i H5 => ∃ zs : List Nat, Same H4 H5 ∧ H5 D = some (.lst (zs.map nV)) ∧ zs.length = i ∧ ∀ y ∈ zs, y < 4)
      ⟨[], same_upd hD, upd_same, rfl, fun y hy => nomatch hy⟩ ?_ ?_
    · rintro i H5 hi ⟨zs, sm5, eD, hl, hy⟩
      have ep5 := sm5 _ _ ep4
      refine ⟨rfl, _, rfl, _, rfl, _, _, rfl, rfl, p, ms, _, rfl, hp ep5, hP, by omega, by omega, ?_⟩
      refine .inl ⟨_, rfl, _, _, rfl, rfl, (by show (0 : Int) < 4; decide), ?_⟩
      have en : ((nthV ms (1 + (0 + (i : Int))) % 4).toNat : Int) = nthV ms (1 + (0 + (i : Int))) % 4 := Int.toNat_of_nonneg (by omega)
      refine ⟨_, eD, sl9 (by rw [List.length_map]; omega), zs ++ [(nthV ms (1 + (0 + (i : Int))) % 4).toNat], same_mut sm5 hD, ?_, by rw [List.length_append, hl]; rfl, ?_⟩
      · rw [upd_same, List.map_append]
        show _ = some (HO.lst (zs.map nV ++ [V.int _]))
        rw [en]
      · intro y hm
        rcases List.mem_append.mp hm with hm | hm
        · exact hy y hm
        · rw [List.mem_singleton.mp hm]
          omega
    · rintro H5 ⟨zs, sm5, eD, hl, hy⟩
      have el5 := sm5 _ _ el4
      have ep5 := sm5 _ _ ep4
      refine ⟨_, rfl, _, rfl, D, l, zs, rfl, .inl (.inl eD), hw el5, hl, hy, fun H6 s6 => ⟨_, rfl, iteF ?_⟩⟩
      have el6 := s6 _ _ el5
      have ep6 := s6 _ _ ep5
      -- the text
      refine ⟨_, rfl, p, _, 1, _, rfl, rfl, hp ep6, at_pool (by decide) (by omega), .inl ⟨_, rfl, _, _, rfl, rfl, (by show (0 : Int) < 6; decide), _, rfl, by omega, by omega, ?_⟩⟩
      refine for_range (lo := 0) (n := (ms.getD (Int.toNat 1) 0 % 6).toNat) (fun i σ H7 => ∃ (z : Str) (x3 : Option V), σ = [some (.ref a), some (.ref p), some (.ref l), x3, some (.ref D), some (.str z), none] ∧ H7 = H6 ∧ Sht z i)
        ⟨"", none, rfl, rfl, sht0⟩ ?_ ?_
      · rintro i σ H7 hi ⟨z, x3, rfl, rfl, hz⟩
        have := hz.1
        refine ⟨_, rfl, _, rfl, _, rfl, _, _, rfl, rfl, p, ms, _, rfl, hp ep6, hP, by omega, by omega, _, rfl, _, _, rfl, rfl, sz9 (by show z.length + 1 ≤ 100000; omega), ?_⟩
        exact ⟨_, _, rfl, rfl, hz.app _⟩
      · rintro σ H7 ⟨z, x3, rfl, rfl, hz⟩
        have hz5 : Sht z 6 := ⟨Nat.le_trans hz.1 (by omega), hz.2⟩
        refine ⟨_, rfl, by show 10 ≤ sizeLine; decide, fun B nB => ⟨B, rfl, ⟨_, .inl (.inl upd_same)⟩, ?_⟩⟩
        have sB : Same H7 (upd H7 B (.lst ((BADS ++ [z]).map V.str))) := same_upd nB
        have elB := sB _ _ el6
        have eB : (upd H7 B (.lst ((BADS ++ [z]).map V.str))) B = some (.lst ((BADS ++ [z]).map V.str)) := upd_same
        have rB : ∀ y ∈ BADS ++ [z], (reprText y).length ≤ 100000 := by
          intro y hm
          rcases List.mem_append.mp hm with hm | hm
          · exact bads_ok y hm
          · rw [List.mem_singleton.mp hm]
            exact hz5.repr (by decide)
        refine for_list (xs := (BADS ++ [z]).map V.str) (fun i σ H8 => ∃ x6 : Option V, σ = [some (.ref a), some (.ref p), some (.ref l), x3, some (.ref D), some (.str z), x6] ∧ Same (upd H7 B (.lst ((BADS ++ [z]).map V.str))) H8)
          ⟨none, rfl, Same.refl _⟩ (fun i σ H8 _ ⟨_, _, sm⟩ => .inl (.inl (sm _ _ eB))) ?_ ?_
        · rintro i x σ H8 hx ⟨x6, rfl, sm8⟩
          obtain ⟨y, hy, rfl⟩ : ∃ y ∈ BADS ++ [z], x = .str y := by
            rw [List.getElem?_map] at hx
            cases e : (BADS ++ [z])[i]? with
            | none => rw [e] at hx; cases hx
            | some n => rw [e] at hx; exact ⟨n, List.mem_of_getElem? e, (Option.some.inj hx).symm⟩
          refine ⟨_, rfl, _, rfl, l, WV, rfl, .inl (hw (sm8 _ _ elB)), rfl, wv_flat, _, rfl, iteB (fun h1 => ?_) (fun h1 => ?_)⟩
          · have hn : y ∉ WDS := by
              rw [if_pos rfl, inV_wd] at h1
              simpa using h1
            exact ⟨_, rfl, y, rfl, rB y hy, hn, fun H9 s9 => ⟨_, rfl, iteF ⟨_, rfl, sm8.trans s9⟩⟩⟩
          · exact ⟨_, rfl, sm8⟩
        · rintro σ H8 ⟨x6, rfl, sm8⟩
          exact q H8
end
end Kx

namespace Kx
open PySem PySem.Spec PyProof.Rows L2 NdefX
/-- a def of a class, as k_is finds it -/
structure Md (K : PySem.W.Frag) (C : Addr) (x qual : Str) (st : Stmt) (f : Addr) (fd : FuncData) : Prop where
  a : PySem.W.findIn K (.ref C) x = some (some (.ref f))
  i : PySem.W.isFn K (.ref f) = true
  F : Fun K x qual st f fd
theorem md_mk {K : PySem.W.Frag} {C : Addr} {x qual : Str} {st : Stmt} {f : Addr} {oc : Value} {od an : Option Addr} {osl : Array (Option Value)} {kV doc pm cdv ct : Value} (a : PySem.W.findIn K (.ref C) x = some (some (.ref f))) (i : PySem.W.isFn K (.ref f) = true)
    (l : K.lookup f = some ⟨oc, od, .func (PySem.W.fnOf x qual (defArgs st) (defBody st) (defScope st) .none kV doc pm an cdv ct), osl⟩)
    (c : PySem.W.codeIn K cdv qual = true) (k : PySem.W.keepIn K (.ref f) = true) : Md K C x qual st f (PySem.W.fnOf x qual (defArgs st) (defBody st) (defScope st) .none kV doc pm an cdv ct) := ⟨a, i, fun_mk l c k⟩
theorem cls_mk {K : PySem.W.Frag} {C : Addr} (h1 : PySem.W.plainGet K C Str.empty = true) (h2 : PySem.W.hasDictIn K C = true) (h3 : PySem.W.plainOver K C = true) (h4 : PySem.W.findIn K (.ref C) "__setattr__" = some (some (.builtin "object.__setattr__")))
    (h5 : PySem.W.findIn K (.ref C) "__class__" = some (some (.builtin "object.__class__"))) (h6 : PySem.W.specialIn K (.builtin "object.__class__") "__get__" = some (some (.builtin "getset_descriptor.__get__"))) (h7 : PySem.W.takesIn K (.builtin "object.__class__") = some true)
    (h8 : PySem.W.mroIn K C (.type "object") = some true) (h9 : PySem.W.kitOne K (.ref C) (.ref C) = some true) : C8.InsC K C := ⟨⟨h1, h2, h3, h4⟩, h5, h6, h7, h8, h9⟩
theorem supC_mk {K : PySem.W.Frag} {C : Addr} {nm q : Str} {N : Addr} {bs bm : List Value} {sn : List Str} {sub : List Value} {ab : Bool} {col : Option Bool} {dd : Option Addr} {k0 k1 k2 k3 k5 : Option Value} (l : K.lookup C = some (excClassObj nm q C N bs bm true sn sub ab col dd k0 k1 k2 k3 k5 "ValueError.__new__")) (hb : PySem.HandSPX.refsVE bm = true)
    (sa : PySem.W.findIn K (.ref C) "__setattr__" = some (some (.builtin "object.__setattr__"))) (exC : PySem.W.subIn K (.ref C) (.type "BaseException") = some true) (tyC : PySem.W.typeIn K (.ref C) = some (.type "type")) (kC : PySem.W.keepIn K (.ref C) = true)
    (sup : PySem.W.ks_superIn K C C "__init__" = some (some (.builtin "ValueError.__init__"))) (subV : PySem.W.subIn K (.ref C) (.type "ValueError") = some true) (mro : PySem.W.mroIn K C (.ref C) = some true) (opq : PySem.W.nsIn K cStatics "thirdparty.any" = some none) : SupC K C :=
  ⟨⟨⟨nm, q, N, bs, bm, sn, sub, ab, col, dd, k0, k1, k2, k3, k5, l, hb⟩, sa, exC, tyC, kC⟩, sup, subV, mro, opq⟩
/-- the __init__ of an own error, as k_is finds it -/
structure Ei (K : PySem.W.Frag) (P : Program) (C : Addr) (qual : Str) (st : Stmt) (f : Addr) (fd : FuncData) : Prop where
  a : PySem.W.findIn K (.ref C) "__init__" = some (some (.ref f))
  t : PySem.W.typeIn K (.ref f) = some (.type "function")
  ex : ∃ (cda cc : Addr) (kV doc pm ct : Value) (an : Option Addr), fd = PySem.W.fnX "__init__" qual (defArgs st) (defBody st) (defScope st) [("__class__", cc)] .none kV doc pm an (.ref cda) ct ∧ PySem.W.codeIn K (.ref cda) qual = true ∧ SupF K P C f fd cda cc "self"
theorem ei_mk {K : PySem.W.Frag} {P : Program} {C : Addr} {qual : Str} {st : Stmt} {f cda cc : Addr} {kV doc pm ct oc ccl cl : Value} {an od cdd cld : Option Addr} {osl ccs csl : Array (Option Value)} {vs : Array Value} {file : Str} {tf : Tok} {ar : Arg} (a : PySem.W.findIn K (.ref C) "__init__" = some (some (.ref f))) (t : PySem.W.typeIn K (.ref f) = some (.type "function"))
    (l : K.lookup f = some ⟨oc, od, .func (PySem.W.fnX "__init__" qual (defArgs st) (defBody st) (defScope st) [("__class__", cc)] .none kV doc pm an (.ref cda) ct), osl⟩) (c : PySem.W.codeIn K (.ref cda) qual = true)
    (lc : K.lookup cda = some ⟨ccl, cdd, .fields vs, ccs⟩) (vf : vs[2]? = some (.str file tf)) (ef : ((P.main.file : Str) == file) = true) (ll : K.lookup cc = some ⟨cl, cld, .cell (some (.ref C)), csl⟩) (top : (P.main.scope.names.lookup ("super" : Str)).isSome = false)
    (hd : ((defArgs st).posonlyargs ++ (defArgs st).args).head? = some ar) (hn : ar.arg = "self") : Ei K P C qual st f (PySem.W.fnX "__init__" qual (defArgs st) (defBody st) (defScope st) [("__class__", cc)] .none kV doc pm an (.ref cda) ct) :=
  ⟨a, t, cda, cc, kV, doc, pm, ct, an, rfl, c, ⟨⟨oc, od, osl, l⟩, ⟨ar, hd, hn⟩, ⟨ccl, cdd, vs, ccs, file, tf, lc, vf, ef⟩, ⟨cl, cld, csl, ll⟩, top⟩⟩
theorem all_mk {l : PySem.W.OpenLaw} {w : World} {K : PySem.W.Frag} {h : Heap} {mg : Str → Option Value} {fa C CI CK CS wa : Addr} {ow : Obj} {its : Array Value} {nw : Nat} (X : K.In h) (G : h.Ns mainGlobals mg) (hfa : mg "law" = some (.ref fa))
    {f0 f1 f2 f3 f4 f5 f6 f7 f8 f9 f10 g0 g1 g2 g3 g4 g5 : Addr} {fd0 fd1 fd2 fd3 fd4 fd5 fd6 fd7 fd8 fd9 fd10 gd0 gd1 gd2 gd3 gd4 gd5 : FuncData}
    (gC : PySem.W.nsIn K mainGlobals "Mark" = some (some (.ref C))) (gI : PySem.W.nsIn K mainGlobals "InvalidMark" = some (some (.ref CI))) (gK : PySem.W.nsIn K mainGlobals "KeeperError" = some (some (.ref CK))) (gS : PySem.W.nsIn K mainGlobals "InvalidStep" = some (some (.ref CS)))
    (d0 : At K "law" s_law f0 fd0) (d1 : At K "_law_draws_of" s_draws_of f1 fd1) (d2 : At K "_law_nth" s_nth f2 fd2) (d3 : At K "_law_sign_at" s_sign_at f3 fd3) (d4 : At K "_law_said" s_said f4 fd4) (d5 : At K "strongest" s_strongest f5 fd5) (d6 : At K "_law_refused" s_refused f6 fd6) (d7 : At K "_law_greatest" s_greatest f7 fd7) (d8 : At K "_law_is" s_is f8 fd8) (d9 : At K "_law_pairs_right" s_pairs_right f9 fd9) (d10 : At K "_law_many_right" s_many_right f10 fd10)
    (m0 : Md K C "__init__" "Mark.__init__" s_mkInit g0 gd0) (m1 : Md K C "__eq__" "Mark.__eq__" s_eq g1 gd1) (m2 : Md K C "__lt__" "Mark.__lt__" s_lt g2 gd2) (m3 : Md K C "__le__" "Mark.__le__" s_le g3 gd3) (m4 : Md K C "__or__" "Mark.__or__" s_or g4 gd4)
    (ei : Ei K l.prog CI "InvalidMark.__init__" s_imInit g5 gd5)
    (b0 : ∀ (s : Shared) (v : Value), BindsTo s fd0 ⟨[v], []⟩ [("_law_script", v)])
    (b1 : Binds K fd1 ["_law_script"] []) (b2 : Binds K fd2 ["_law_pool", "_law_k"] []) (b3 : Binds K fd3 ["_law_k"] []) (b4 : Binds K fd4 ["_law_told", "_law_due"] []) (b5 : ∀ rest : List Value, bindArgs fd5 ⟨rest, []⟩ = (newTuple rest >>= fun t => pure [(("marks" : Str), t)])) (b6 : Binds K fd6 ["_law_word"] []) (b7 : Binds K fd7 ["_law_places"] []) (b8 : Binds K fd8 ["_law_mark", "_law_word"] []) (b9 : Binds K fd9 ["_law_words"] []) (b10 : Binds K fd10 ["_law_places", "_law_words"] [])
    (c0 : Binds K gd0 ["self", "word"] []) (c1 : Binds K gd1 ["self", "other"] []) (c2 : Binds K gd2 ["self", "other"] []) (c3 : Binds K gd3 ["self", "other"] []) (c4 : Binds K gd4 ["self", "other"] []) (c5 : Binds K gd5 ["self", "word"] [])
    (z1 : PySem.W.nsIn K mainGlobals "len" = some none) (z2 : PySem.W.nsIn K mainGlobals "abs" = some none) (z3 : PySem.W.nsIn K mainGlobals "int" = some none) (z4 : PySem.W.nsIn K mainGlobals "range" = some none) (z5 : PySem.W.nsIn K mainGlobals "super" = some none) (z6 : PySem.W.nsIn K mainGlobals "isinstance" = some none) (z7 : PySem.W.nsIn K mainGlobals "str" = some none) (z8 : PySem.W.nsIn K mainGlobals "tuple" = some none) (z9 : PySem.W.nsIn K mainGlobals "ValueError" = some none)
    (ins : C8.InsC K C) (mk : PySem.W.makesIn K C = true) (kp : PySem.W.keepIn K (.ref C) = true) (sf : PySem.W.selfFirst K C = true) (nW : PySem.W.findIn K (.ref C) "word" = some none) (nS : PySem.W.findIn K (.ref C) "strength" = some none)
    (rd : PySem.W.readsIn K C (.type "type") = true) (ga : PySem.W.specialIn K (.ref C) "__getattribute__" = some (some (.builtin "type.__getattribute__"))) (wv : PySem.W.findCls K (.ref C) (.type "type") "WORDS" = some (.val (.ref wa)))
    (lw : K.lookup wa = some ow) (w1 : ow.cls = .type "tuple") (w2 : ow.dict = none) (w3 : ow.data = .seq its nw) (w4 : its.size ≤ sizeLine) (w5 : Vals WV its.toList)
    (sI : SupC K CI) (nI : PySem.W.findIn K (.ref CI) "word" = some none) (R : Rf K CI CK CS) :
    ∃ fd : FuncData, (∀ (s : Shared) (v : Value), BindsTo s fd ⟨[v], []⟩ [("_law_script", v)]) ∧ ∀ base : Heap, K.In base → base.Ns mainGlobals mg → FnOk l.prog w K mg base CX0 7 fa fd ["_law_script"] (spLaw K) := by
  have e := hfa.symm.trans (PySem.W.mg_of X G d0.a)
  cases e
  have T : Txt K mg C CI CK CS wa (.type "type") := { m_len := PySem.W.mg_none_of X G z1, m_abs := PySem.W.mg_none_of X G z2, m_int := PySem.W.mg_none_of X G z3, m_range := PySem.W.mg_none_of X G z4, m_super := PySem.W.mg_none_of X G z5, m_isinstance := PySem.W.mg_none_of X G z6, m_str := PySem.W.mg_none_of X G z7, m_tuple := PySem.W.mg_none_of X G z8, m_VE := PySem.W.mg_none_of X G z9, gC := PySem.W.mg_of X G gC, gI := PySem.W.mg_of X G gI, gK := PySem.W.mg_of X G gK, gS := PySem.W.mg_of X G gS, ins := ins, nW := nW, nS := nS, rd := ⟨rd, ga⟩, wv := ⟨wv, rfl⟩, wt := ⟨ow, its, nw, lw, w1, w2, w3, w4, w5⟩, sI := sI, nIW := nI }
  obtain ⟨ia, it, cda, cc, kV, doc, pm, ct, an, hfd, hcd, SF⟩ := ei
  refine ⟨fd0, b0, fun base _ _ => ?_⟩
  have M : MkC l.prog w K mg base C CI 3 := ⟨⟨g0, gd0, ⟨mk, m0.a, m0.i, kp⟩, ok_mkInit m0.F T ia it (ok_imInit SF sI nI T.m_super hfd hcd) c5, c0⟩, T.gC⟩
  have Oe : OpC l.prog w K mg base C "__eq__" (spCmp C gEq) := ⟨⟨g1, gd1, ok_eq m1.F T, c1, m1.a, m1.i⟩, sf⟩
  have Ol : OpC l.prog w K mg base C "__lt__" (spCmp C gLt) := ⟨⟨g2, gd2, ok_lt m2.F T, c2, m2.a, m2.i⟩, sf⟩
  have Oq : OpC l.prog w K mg base C "__le__" (spCmp C gLe) := ⟨⟨g3, gd3, ok_le m3.F T, c3, m3.a, m3.i⟩, sf⟩
  have Oo : OpC l.prog w K mg base C "__or__" (spOr C) := ⟨⟨g4, gd4, ok_or m4.F T, c4, m4.a, m4.i⟩, sf⟩
  have C1 : Cal l.prog w K mg base "_law_draws_of" 1 (spDraws K) := ⟨f1, fd1, _, ok_draws_of d1.F T.toTB, b1, PySem.W.mg_of X G d1.a, d1.F.kp⟩
  have C2 : Cal l.prog w K mg base "_law_nth" 1 (spNth K) := ⟨f2, fd2, _, ok_nth d2.F T.toTB, b2, PySem.W.mg_of X G d2.a, d2.F.kp⟩
  have C3 : Cal l.prog w K mg base "_law_sign_at" 1 spSign := ⟨f3, fd3, _, ok_sign_at d3.F T.toTB, b3, PySem.W.mg_of X G d3.a, d3.F.kp⟩
  have C4 : Cal l.prog w K mg base "_law_said" 1 spSaid := ⟨f4, fd4, _, ok_said d4.F, b4, PySem.W.mg_of X G d4.a, d4.F.kp⟩
  have S : StC l.prog w K mg base C 5 := ⟨⟨f5, ok_strongest d5.F T M Oo b5, PySem.W.mg_of X G d5.a, d5.F.kp⟩⟩
  have C6 : Cal l.prog w K mg base "_law_refused" 5 spRef := ⟨f6, fd6, _, ok_refused d6.F T R M, b6, PySem.W.mg_of X G d6.a, d6.F.kp⟩
  have C7 : Cal l.prog w K mg base "_law_greatest" 1 (spGreatest K) := ⟨f7, fd7, _, ok_greatest d7.F, b7, PySem.W.mg_of X G d7.a, d7.F.kp⟩
  have C8' : Cal l.prog w K mg base "_law_is" 5 (spIs C) := ⟨f8, fd8, _, ok_is d8.F T M Oe Ol Oq C4, b8, PySem.W.mg_of X G d8.a, d8.F.kp⟩
  have C9 : Cal l.prog w K mg base "_law_pairs_right" 6 (spPairs K) := ⟨f9, fd9, _, ok_pairs d9.F T M Oe Ol Oq Oo C4 C8' C7, b9, PySem.W.mg_of X G d9.a, d9.F.kp⟩
  have C10 : Cal l.prog w K mg base "_law_many_right" 6 (spMany K) := ⟨f10, fd10, _, ok_many d10.F T M S C8' C7, b10, PySem.W.mg_of X G d10.a, d10.F.kp⟩
  exact ok_law d0.F T C1 C2 C3 C6 C9 C10
end Kx

open PySem PySem.W PyProof.Rows
set_option maxHeartbeats 0 in
theorem PySem.Challenge.cw_letforget_k05_marks_in_order_holds : PySem.Challenge.rw_letforget_k05_marks_in_order.Holds := by
  w_on; o_law; k_head; (case hw => w_witness2)
  k_fill
  refine L2.walk_of (l := PySem.Challenge.rw_letforget_k05_marks_in_order) (n := 63) (k := 7) (x := "_law_script") (CX := fun _ => L2.CX0) (sp := fun w => Kx.spLaw _) rfl (by decide) rfl ⟨rfl, by decide, by decide⟩ (fun w h Y => PySem.W.kIn_of Y) ?F (fun _ _ a ns hl _ hS => ⟨a, ns, rfl, hS, hl, fun _ => rfl⟩) (fun _ _ _ _ _ h => h)
  case F =>
    intro w mg fa h KX G hmg
    refine' Kx.all_mk (l := PySem.Challenge.rw_letforget_k05_marks_in_order) KX G hmg ?gC
      ?gI
      ?gK
      ?gS
      (Kx.at_mk ?a0 ?l0 ?e0 ?k0)
      (Kx.at_mk ?a1 ?l1 ?e1 ?k1)
      (Kx.at_mk ?a2 ?l2 ?e2 ?k2)
      (Kx.at_mk ?a3 ?l3 ?e3 ?k3)
      (Kx.at_mk ?a4 ?l4 ?e4 ?k4)
      (Kx.at_mk ?a5 ?l5 ?e5 ?k5)
      (Kx.at_mk ?a6 ?l6 ?e6 ?k6)
      (Kx.at_mk ?a7 ?l7 ?e7 ?k7)
      (Kx.at_mk ?a8 ?l8 ?e8 ?k8)
      (Kx.at_mk ?a9 ?l9 ?e9 ?k9)
      (Kx.at_mk ?a10 ?l10 ?e10 ?k10)
      (Kx.md_mk ?ma0 ?mi0 ?ml0 ?me0 ?mk0)
      (Kx.md_mk ?ma1 ?mi1 ?ml1 ?me1 ?mk1)
      (Kx.md_mk ?ma2 ?mi2 ?ml2 ?me2 ?mk2)
      (Kx.md_mk ?ma3 ?mi3 ?ml3 ?me3 ?mk3)
      (Kx.md_mk ?ma4 ?mi4 ?ml4 ?me4 ?mk4)
      (Kx.ei_mk ?ea ?et ?el ?ec ?elc ?evf ?eef ?ell rfl rfl rfl)
      (fun s v => .of_eq rfl)
      (.all fun us hl => match us, hl with | [_], _ => rfl)
      (.all fun us hl => match us, hl with | [_, _], _ => rfl)
      (.all fun us hl => match us, hl with | [_], _ => rfl)
      (.all fun us hl => match us, hl with | [_, _], _ => rfl)
      (fun rest => match rest with | [] => rfl | _ :: _ => rfl)
      (.all fun us hl => match us, hl with | [_], _ => rfl)
      (.all fun us hl => match us, hl with | [_], _ => rfl)
      (.all fun us hl => match us, hl with | [_, _], _ => rfl)
      (.all fun us hl => match us, hl with | [_], _ => rfl)
      (.all fun us hl => match us, hl with | [_, _], _ => rfl)
      (.all fun us hl => match us, hl with | [_, _], _ => rfl)
      (.all fun us hl => match us, hl with | [_, _], _ => rfl)
      (.all fun us hl => match us, hl with | [_, _], _ => rfl)
      (.all fun us hl => match us, hl with | [_, _], _ => rfl)
      (.all fun us hl => match us, hl with | [_, _], _ => rfl)
      (.all fun us hl => match us, hl with | [_, _], _ => rfl)
      ?z1
      ?z2
      ?z3
      ?z4
      ?z5
      ?z6
      ?z7
      ?z8
      ?z9
      (Kx.cls_mk ?i1 ?i2 ?i3 ?i4 ?i5 ?i6 ?i7 ?i8 ?i9)
      ?mk
      ?kp
      ?sf
      ?nW
      ?nS
      ?rd
      ?ga
      ?wv
      ?lw
      ?w1
      ?w2
      ?w3
      ?w4
      ?w5
      (Kx.supC_mk ?s1 ?s2 ?s3 ?s4 ?s5 ?s6 ?s7 ?s8 ?s9 ?s10)
      ?nI
      ⟨⟨?x1, ?x2, ?x3, ?x4, ?x5, ?x6, ?x7, ?x8⟩, ⟨?y1, ?y2, ?y3, ?y4⟩, ?r1, ?r2, ?r3, ?r4⟩
    (case gC => k_is)
    (case gI => k_is)
    (case gK => k_is)
    (case gS => k_is)
    (case a0 => k_is)
    (case l0 => k_is)
    (case e0 => k_is)
    (case k0 => k_is)
    (case a1 => k_is)
    (case l1 => k_is)
    (case e1 => k_is)
    (case k1 => k_is)
    (case a2 => k_is)
    (case l2 => k_is)
    (case e2 => k_is)
    (case k2 => k_is)
    (case a3 => k_is)
    (case l3 => k_is)
    (case e3 => k_is)
    (case k3 => k_is)
    (case a4 => k_is)
    (case l4 => k_is)
    (case e4 => k_is)
    (case k4 => k_is)
    (case a5 => k_is)
    (case l5 => k_is)
    (case e5 => k_is)
    (case k5 => k_is)
    (case a6 => k_is)
    (case l6 => k_is)
    (case e6 => k_is)
    (case k6 => k_is)
    (case a7 => k_is)
    (case l7 => k_is)
    (case e7 => k_is)
    (case k7 => k_is)
    (case a8 => k_is)
    (case l8 => k_is)
    (case e8 => k_is)
    (case k8 => k_is)
    (case a9 => k_is)
    (case l9 => k_is)
    (case e9 => k_is)
    (case k9 => k_is)
    (case a10 => k_is)
    (case l10 => k_is)
    (case e10 => k_is)
    (case k10 => k_is)
    (case ma0 => k_is)
    (case mi0 => k_is)
    (case ml0 => k_is)
    (case me0 => k_is)
    (case mk0 => k_is)
    (case ma1 => k_is)
    (case mi1 => k_is)
    (case ml1 => k_is)
    (case me1 => k_is)
    (case mk1 => k_is)
    (case ma2 => k_is)
    (case mi2 => k_is)
    (case ml2 => k_is)
    (case me2 => k_is)
    (case mk2 => k_is)
    (case ma3 => k_is)
    (case mi3 => k_is)
    (case ml3 => k_is)
    (case me3 => k_is)
    (case mk3 => k_is)
    (case ma4 => k_is)
    (case mi4 => k_is)
    (case ml4 => k_is)
    (case me4 => k_is)
    (case mk4 => k_is)
    (case ea => k_is)
    (case et => k_is)
    (case el => k_is)
    (case ec => k_is)
    (case elc => k_is)
    (case evf => rfl)
    (case eef => first | rfl | decide +kernel | k_is)
    (case ell => k_is)
    (case z1 => k_is)
    (case z2 => k_is)
    (case z3 => k_is)
    (case z4 => k_is)
    (case z5 => k_is)
    (case z6 => k_is)
    (case z7 => k_is)
    (case z8 => k_is)
    (case z9 => k_is)
    (case i1 => k_is)
    (case i2 => k_is)
    (case i3 => k_is)
    (case i4 => k_is)
    (case i5 => k_is)
    (case i6 => k_is)
    (case i7 => k_is)
    (case i8 => k_is)
    (case i9 => first | kernel_rfl | rfl)
    (case mk => k_is)
    (case kp => k_is)
    (case sf => k_is)
    (case nW => k_is)
    (case nS => k_is)
    (case rd => k_is)
    (case ga => k_is)
    (case wv => k_is)
    (case lw => k_is)
    (case w1 => rfl)
    (case w2 => rfl)
    (case w3 => rfl)
    (case w4 => first | decide | decide +kernel)
    (case w5 => exact .cons ⟨_, rfl⟩ (.cons ⟨_, rfl⟩ (.cons ⟨_, rfl⟩ (.cons ⟨_, rfl⟩ .nil))))
    (case s1 => k_is)
    (case s2 => first | rfl | decide +kernel)
    (case s3 => k_is)
    (case s4 => k_is)
    (case s5 => k_is)
    (case s6 => k_is)
    (case s7 => ks_is)
    (case s8 => k_is)
    (case s9 => k_is)
    (case s10 => k_is)
    (case nI => k_is)
    (case x1 => k_is)
    (case x2 => k_is)
    (case x3 => k_is)
    (case x4 => k_is)
    (case x5 => k_is)
    (case x6 => k_is)
    (case x7 => k_is)
    (case x8 => k_is)
    (case y1 => k_is)
    (case y2 => k_is)
    (case y3 => k_is)
    (case y4 => k_is)
    (case r1 => first | kernel_rfl | rfl)
    (case r2 => first | kernel_rfl | rfl)
    (case r3 => first | kernel_rfl | rfl)
    (case r4 => first | kernel_rfl | rfl)
