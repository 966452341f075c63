import PyProof.Rows.All
import Wide.All
import OpenK.AllK
import Wide.FinOn
import HandS.ForExc
import HandS.ExcInit
import HandS.ExcSuper
import HandS.Nested
import HandS.FStr
import KE.KExcSuper
import HandS.ForMost
import HandS.IsInst
import HandS.TupLe
import HandS.Codes
import HandS.FStrTup
import HandS.List
import PyProof.ReprNest
import PyProof.ReprText
import HandS.ExcIs
import HandS.ExcField
import HandS.Words
import PyProof.StrOps2
import KE.KExcIs
import HandS.Strs
import HandS.Style
import HandS.Deep
import PySem.Challenge.RW_letforget_k06_shortest_paths
import HandS.SetKeys
import HandS.Star
set_option Elab.async false
set_option linter.all false
set_option maxRecDepth 100000
set_option maxHeartbeats 4000000
/-! An own error class over ValueError whose __init__ begins with super().__init__(..): its __init__ as a def, its making. -/
namespace Kx
open PySem PySem.Spec PyProof.Rows L2 NdefX
/-- what the written part says of such a class -/
structure SupC (K : PySem.W.Frag) (C : Addr) : Prop where
  oex : OexC K C
  sup : PySem.W.ks_superIn K C C "__init__" = some (some (.builtin "ValueError.__init__"))
  subV : PySem.W.subIn K (.ref C) (.type "ValueError") = some true
  mro : PySem.W.mroIn K C (.ref C) = some true
  opq : PySem.W.nsIn K cStatics "thirdparty.any" = some none
/-- what it says of the __init__: its code's file, the cell of __class__ -/
structure SupF (K : PySem.W.Frag) (P : Program) (C f : Addr) (fd : FuncData) (cda cc : Addr) (me : Str) : Prop where
  fn : ∃ oc od osl, K.lookup f = some ⟨oc, od, .func fd, osl⟩
  head : ∃ ar : Arg, (fd.params.posonlyargs ++ fd.params.args).head? = some ar ∧ ar.arg = me
  code : ∃ (ccl : Value) (cdd : Option Addr) (vs : Array Value) (ccs : Array (Option Value)) (file : Str) (tf : Tok), K.lookup cda = some ⟨ccl, cdd, .fields vs, ccs⟩ ∧ vs[2]? = some (.str file tf) ∧ ((P.main.file : Str) == file) = true
  cell : ∃ (cl : Value) (cld : Option Addr) (csl : Array (Option Value)), K.lookup cc = some ⟨cl, cld, .cell (some (.ref C)), csl⟩
  top : (P.main.scope.names.lookup ("super" : Str)).isSome = false
theorem boot_super : bootBuiltins "super" = some (.type "super") := by decide +kernel
section
variable {X : Cx} {pins : List (Addr × Obj)} {σ : L2.St} {H : Hp} {s : Shared} {a C f cda cc : Addr} {fd : FuncData} {me : Str} {i : Nat} {e : Expr} {es : List Expr} {ta : TA} {p0 p1 p2 p3 p4 : Pos} {body : List Stmt}
/-- ValueError.__init__ bound to such an object, called -/
theorem bw_ok {u : Addr} {us : List Value} {Q : Value → Shared → Prop} {A : Around} {E : Value → Shared → Prop} (T : OexC X.K C) (I : Inv X pins σ H s) (ea : H a = some (exo a C none)) (hu : s.heap.get? u = some (PySem.W.kxs_mw "ValueError.__init__" a)) (hl : us.length ≤ sizeLine) (h : ∀ s', Inv X pins σ H s' → Q .none s') :
    wpAny (model X.prog X.w) A (call (.ref u) us) Q E s := by
  obtain ⟨nm, q, N, bs, bm, sn, sub, ab, col, dd, k0, k1, k2, k3, k5, hC, hbm⟩ := T.cls
  obtain ⟨t1, ho⟩ := exo_at I.hok ea
  have hC' := I.kIn _ _ hC
  obtain ⟨hp, g, d, t, os⟩ := s
  have fin : ∀ h' t2, (∀ b o, b ≠ a → hp.get? b = some o → h'.get? b = some o) → h'.get? a = some (PySem.HandSPX.excO C t2) → Q .none ⟨h', g, d, t, os⟩ := fun h' t2 k hx => by
    have J := I.write (t' := t) (x := a) (e := a) (o := exo a C none) (by rw [ea]; exact True.intro) (.inl rfl) k ⟨_, hx⟩ (exo_ok hx)
    have eu : upd H a (exo a C none) = H := by
      funext b
      by_cases hb : b = a
      · rw [hb, upd_same, ea]
      · rw [upd_ne hb]
    rw [eu] at J
    exact h _ J
  refine wpAny_call (codeAny_of_tree ?_)
  show wpAny _ A.in1 (callAny (.ref u) ⟨us, []⟩) _ _ _
  simp only [callAny]
  refine wpAny_bind (wpAny_load hu ?_)
  simp only [PySem.W.kxs_mw, show (Value.type "method-wrapper" == Value.type "method" || Value.type "method-wrapper" == Value.type "builtin_function_or_method" || Value.type "method-wrapper" == Value.type "method-wrapper") = true by decide, if_true]
  refine PySem.W.KFB.if_so (by decide) ?_
  refine wpAny_bind (PySem.W.check_bound_init F.excBase_ValueError.toExcCallFacts hC' ho rfl ?_)
  refine wpAny_bind (wpAny_pure (wpAny_pure ?_))
  refine ⟨plainId_quiet F.excBase_ValueError.init.plain _, codeAny_builtin F.excBase_ValueError.initEntry ?_⟩
  rw [Around.under_plainId F.excBase_ValueError.init.plain _]
  refine PySem.W.exc_init_tree (cls := .ref C) (t0 := t1) (dv := none) (c2 := .none) (c3 := .none) (b4 := .bool false) ho hl fun h' k e' t' => ?_
  exact fin h' _ k e'
/-- super().__init__(e, ..) as a statement of such an __init__ -/
theorem at_super {pl : Sem Bool} {D : PySem.Flow → Shared → Prop} (T : SupC X.K C) (S : SupF X.K X.prog C f fd cda cc me) (hfu : X.env.func = some f) (hco : X.env.code = .ref cda) (hce : X.env.cells.lookup ("__class__" : Str) = some cc)
    (hks : X.env.kindOf "super" = some .globalImplicit) (hkc : X.env.kindOf "__class__" = some .free) (hka : X.env.kindOf me = some .local) (hm : X.mg "super" = none) (I : Inv X pins σ H s)
    (hN : X.N[i]? = some me) (hσ : σ[i]? = some (some (.ref a))) (ea : H a = some (exo a C none)) (ha : PA X (e :: es) ta)
    (h : ta σ H fun vs H1 => vs.length ≤ 1000 ∧ H1 a = some (exo a C none) ∧ ∀ s', Inv X pins σ H1 s' → D .next s')
    (hi : interactive X.env = false := by rfl) (hs : swapsWith (.Call (.Attribute (.Call (.Name "super" p0) [] [] p1) "__init__" p2) (e :: es) [] p3) none p4.line X.env = pure false := by rfl)
    (he : starEach (e :: es) X.env = (false, eval e X.env) :: starEach es X.env := by rfl) (hpl : (backTo p3 (starEach es X.env)).any (·.1) = false := by rfl)
    (hev : eval (.Call (.Attribute (.Call (.Name "super" p0) [] [] p1) "__init__" p2) (e :: es) [] p3) X.env = (do
      let ov ← attributeBase (.Call (.Name "super" p0) [] [] p1) "__init__" X.env (eval (.Call (.Name "super" p0) [] [] p1) X.env)
      standAt p2.atName
      let (f, first) ← holding [ov] (getMethod ov "__init__" pl)
      callWith p3 f first (backTo p3 (starEach (e :: es) X.env)) []) := by rfl) :
    _root_.PySem.wpAt (model X.prog X.w) X.A (.func body X.env) (exec (.Expr (.Call (.Attribute (.Call (.Name "super" p0) [] [] p1) "__init__" p2) (e :: es) [] p3) p4) X.env) D X.xe s := by
  obtain ⟨oc, od, osl, lkf⟩ := S.fn
  obtain ⟨ar, hhead, hme⟩ := S.head
  obtain ⟨ccl, cdd, vs, ccs, file, tf, lkc, hvs, hfile⟩ := S.code
  obtain ⟨cl, cld, csl, lkcell⟩ := S.cell
  obtain ⟨nm, q, N, bs, bm, sn, sub, ab, col, dd, k0, k1, k2, k3, k5, hC, hbm⟩ := T.oex.cls
  have hcl : PySem.W.clsIn X.K C = some { name := nm, bases := bs, mro := .ref C :: bm, ns := N, qualname := q, hasDict := true, slotNames := sn, subclasses := sub, abstract := ab, collection := col, hasDel := false } := by unfold PySem.W.clsIn; rw [hC] <;> rfl
  have KX := I.kIn
  have hkf : X.env.scope.kind = .function := I.ok.kind
  obtain ⟨t1, ho⟩ := exo_at I.hok ea
  obtain ⟨m, hn, hl⟩ := I.loc
  obtain ⟨u0, r0, lk0⟩ := hl i me (.ref a) hN hσ (.inl hka)
  cases (show u0 = Value.ref a from r0)
  have hm0 : m me = some (.ref a) := by
    rcases lk0 with ⟨_, z⟩ | ⟨z, _⟩
    · exact z
    · rw [hka] at z
      rcases z with z | z <;> cases z
  obtain ⟨mb, hmb1, hmb2⟩ := I.mod.blt
  refine PySem.ks_wpAt_Expr_any ?_ hi hs
  refine PySem.ks_wpAt_MethodCall ?_ hev
  refine PySem.ks_wpAt_super_base hks hkc (by decide) hfu (KX _ _ lkf) rfl hhead hco (KX _ _ lkc) rfl hvs hfile S.top ?_
  refine PySem.W.ks_loadName_global hkf hks (PySem.Calls.loadGlobal_builtin (mb := mb) (by rw [I.ok.glob]; exact I.mod.glob.keeps I.bk) hm (by rw [I.ok.blt]; exact hmb1.keeps I.bk) ((hmb2 _ (by decide +kernel)).trans boot_super) ⟨rfl, ?_⟩)
  refine wpAny_loadName_free hkf hkc hce (v := .ref C) ⟨_, KX _ _ lkcell, rfl⟩ ?_
  rw [hme]
  refine wpAny_loadName_local hkf hka hn hm0 ?_
  obtain ⟨hh, g, d, t, os⟩ := s
  refine ks_wpAny_isType_cls (KX _ _ hC) rfl ⟨rfl, ?_⟩
  have hsub : PySem.W.Looks (model X.prog X.w) hh (isSubtype (.ref C) (.ref C)) true := PySem.W.looks_mroIn KX T.mro
  refine PySem.ks_wpAny_call_super (KX _ _ hC) rfl ho rfl (fun c e => by cases e) hsub (fun h1 e1 k1' => ?_)
  have I1 : Inv X pins σ H ⟨h1, g, d, t, os⟩ := I.kept (h' := h1) (t' := t) k1'
  have hI : PySem.W.Looks (model X.prog X.w) h1 (isInstance (.ref a) (.type "ValueError")) true := (show PySem.W.InstAt h1 a _ C none from ⟨k1' _ _ ho, rfl, rfl, trivial⟩).type.andThen (PySem.W.looks_subIn I1.kIn T.subV)
  have hsup := T.sup
  unfold PySem.W.ks_superIn at hsup
  rw [hcl] at hsup
  refine PySem.W.kxs_getMethod PySem.W.kxs_ValueError e1 (PySem.W.looks_opaque I1.kIn T.opq) (l₀ := .ref C :: bm) ?_ rfl I1.kIn hsup hI ?_ (by decide) ?_
  · exact fun A Q E s k q => wpAny_bind ((PySem.W.looks_clsIn I1.kIn hcl) A _ E s k (wpAny_pure q))
  · exact PySem.W.ks_ne (odx := none) I1.kIn (⟨k1' _ _ ho, rfl, rfl, trivial⟩ : PySem.W.InstAt h1 a _ C none) hcl
  have hsz : h1.objs.size ≤ h1.objs.size := Nat.le_refl _
  have I2 : Inv X pins σ H ⟨h1.push (PySem.W.kxs_mw "ValueError.__init__" a), g, d, t + 1, os⟩ := I1.kept (t' := t + 1) fun b o e => Heap.get?_push_of_some _ e
  have hu : (h1.push (PySem.W.kxs_mw "ValueError.__init__" a)).get? h1.objs.size = some (PySem.W.kxs_mw "ValueError.__init__" a) := Heap.get?_push_size _ rfl
  have fp : FpOk X pins H h1.objs.size := I1.fpOk hsz (I1.hok.fresh hsz)
  have I3 := I2.pinned (fp := [h1.objs.size]) (fun b hb => by rw [List.mem_singleton.mp hb]; exact fp) (fun b hb => by
    rw [List.mem_singleton.mp hb]
    exact ⟨_, hu, fun v z => by cases z⟩)
  refine PySem.W.kxs_callWith (i := "ValueError.__init__") (x := a) (by rw [he]; show (false || (backTo p3 (starEach es X.env)).any (·.1)) = false; rw [hpl]; rfl) ?_
  rw [he]
  refine PySem.Calls.evalArgs_plain ?_
  have har := ha.run p3 _ _ σ H _ I3 h
  rw [he] at har
  refine thn har fun us s4 ⟨vs, H4, I4, r4, hlen, ea4, fin⟩ => ?_
  have pin4 := (I4.pin (h1.objs.size, PySem.W.kxs_mw "ValueError.__init__" a) (List.mem_append_right _ (List.mem_append_right _ (mem_pinsAt (List.mem_singleton.mpr rfl) hu)))).1
  refine ⟨pin4, ?_⟩
  rw [List.nil_append]
  refine bw_ok T.oex I4.unpinned ea4 pin4 ?_ fun s5 I5 => fin s5 I5
  rw [← r4.length, sizeLine_eq]
  omega
end
section
variable {P : Program} {w : World} {K : PySem.W.Frag} {mg : Str → Option Value} {base : Heap} {CX : CXT}
abbrev supSt (p0 p1 p2 p3 p4 : Pos) (e : Expr) : Stmt := .Expr (.Call (.Attribute (.Call (.Name "super" p0) [] [] p1) "__init__" p2) [e] [] p3) p4
/-- THE RULE: such an __init__ keeps its promise, by its one argument's reading and the rest of its body -/
theorem fn_super {k : Nat} {f C cda cc : Addr} {fd : FuncData} {name qual me : Str} {params : Arguments} {p0 p1 p2 p3 p4 : Pos} {e : Expr} {rest : List Stmt} {scope : Scope} {kV doc pm ct : Value} {an : Option Addr} {N ps : List Str} {sp : Sp}
    (S : SupF K P C f fd cda cc me) (T : SupC K C) (hfd : fd = PySem.W.fnX name qual params (supSt p0 p1 p2 p3 p4 e :: rest) scope [("__class__", cc)] .none kV doc pm an (.ref cda) ct) (hcd : PySem.W.codeIn K (.ref cda) qual = true) (NS : NScope N ps ["__class__"] scope) (hm : mg "super" = none)
    (hN : N[0]? = some me) (hps : 0 < ps.length) (hks : scope.names.lookup ("super" : Str) = some .globalImplicit) (hka : scope.names.lookup me = some .local) (len : ∀ vs H Q E, sp vs H Q E → vs.length = ps.length)
    (hbody : ∀ (A : Around) (outer : List Env) (s : Shared) (H : Hp) (vs : List V) (Q : VK) (E : XK), Room k (A.deeper (envF ⟨name, qual, params, supSt p0 p1 p2 p3 p4 e :: rest, scope, [("__class__", cc)], cda⟩ f s.heap.objs.size)) → sp vs H Q E →
      ∃ (a : Addr) (te : TE) (t : TS), vs[0]? = some (.ref a) ∧ H a = some (exo a C none) ∧ PE (ncx CX P w K mg base N ⟨name, qual, params, supSt p0 p1 p2 p3 p4 e :: rest, scope, [("__class__", cc)], cda⟩ f A outer s H E) e te ∧
        PSs (ncx CX P w K mg base N ⟨name, qual, params, supSt p0 p1 p2 p3 p4 e :: rest, scope, [("__class__", cc)], cda⟩ f A outer s H E) rest t ∧
        ∀ R : Hp → Prop, (∀ H1, H1 a = some (exo a C none) → t { nx := fun _ H' => Q .non H', rt := Q } (startF N vs [some (.ref C)]) H1 → R H1) → te (startF N vs [some (.ref C)]) H fun _ H1 => R H1)
    (hev : ∀ env : Env, ∃ pl : Sem Bool, eval (.Call (.Attribute (.Call (.Name "super" p0) [] [] p1) "__init__" p2) [e] [] p3) env = (do
      let ov ← attributeBase (.Call (.Name "super" p0) [] [] p1) "__init__" env (eval (.Call (.Name "super" p0) [] [] p1) env)
      standAt p2.atName
      let (f, first) ← holding [ov] (getMethod ov "__init__" pl)
      callWith p3 f first (backTo p3 (starEach [e] env)) []))
    (hse : ∀ env : Env, starEach [e] env = [(false, eval e env)])
    (hsw : ∀ env : Env, swapsWith (.Call (.Attribute (.Call (.Name "super" p0) [] [] p1) "__init__" p2) [e] [] p3) none p4.line env = pure false) :
    FnOk P w K mg base CX (k + 1) f fd ps sp := by
  refine ⟨len, fun A outer s H args us vs Q E hr e0 hb r hsp => ?_⟩
  subst hfd
  have hl := len _ _ _ _ hsp
  have KX : K.In s.heap := e0.mod.kin.keeps fun b o e => (e0.bs b o e).1
  have lim : s.heap.NoLimit := e0.mod.nolimit.keeps fun b o e => (e0.bs b o e).1
  obtain ⟨oc, od, osl, lk⟩ := S.fn
  obtain ⟨cl, cld, csl, lkcell⟩ := S.cell
  have hcl : s.heap.get? cc = some ⟨cl, cld, .cell (some (.ref C)), csl⟩ := KX _ _ lkcell
  have hHc : H cc = none := (e0.bs _ _ (e0.mod.kin _ _ lkcell)).2
  have one : ∀ (y : Str) (c : Addr), ([(("__class__" : Str), cc)] : List (Str × Addr)).lookup y = some c → y = "__class__" ∧ c = cc := fun y c h => by
    have hm := PySem.mem_of_lookup h
    rw [List.mem_singleton] at hm
    exact ⟨congrArg Prod.fst hm, congrArg Prod.snd hm⟩
  have look1 : ([(("__class__" : Str), cc)] : List (Str × Addr)).lookup ("__class__" : Str) = some cc := by simp [List.lookup]
  have CA : CellsAt [(("__class__" : Str), cc)] ["__class__"] [some (V.ref C)] s.heap H := by
    refine ⟨rfl, fun y c h => ?_, fun x y c h1 h2 => (one x c h1).1.trans (one y c h2).1.symm, fun i y h => ?_⟩
    · rw [(one y c h).2]
      exact ⟨hHc, _, _, hcl, rfl⟩
    · match i, h with
      | 0, h =>
        have e : ("__class__" : Str) = y := Option.some.inj h
        subst e
        refine ⟨cc, look1, fun v hv => ?_⟩
        have ev : V.ref C = v := Option.some.inj (Option.some.inj hv)
        subst ev
        exact ⟨_, rfl, _, hcl, rfl⟩
      | i + 1, h => exact absurd h (by simp)
  refine ks_codeAny_call_defAt hr.depth (KX _ _ lk) rfl lim (PySem.W.codeRec_of KX hcd) rfl hb (fun x hx => NS.nocell x hx) (fun y hy => NS.par _ (List.of_mem_zip hy).1) (fun h₀ hns hk => ?_) NS.co NS.gen NS.kind
  obtain ⟨a, te, t, h0, ea, he, ht, hq⟩ := hbody A outer s H vs Q E (hr.deeper _) hsp
  have I := inv_startN (CX := CX) (mg := mg) (base := base) (f := f) (E := E) (h₁ := h₀) (tk := s.toks + (ps.zip us).length) (F := ⟨name, qual, params, supSt p0 p1 p2 p3 p4 e :: rest, scope, [("__class__", cc)], cda⟩) NS hr.hd e0 hl r CA hns hk
  have hσ : (startF N vs [some (V.ref C)])[0]? = some (some (.ref a)) := by
    unfold startF
    rw [List.getElem?_append_left (by rw [List.length_map]; omega), List.getElem?_map, h0]
    rfl
  have fin : ∀ {σ' : L2.St} {H' : Hp} {s' : Shared} {v : V} {u : Value}, Inv (ncx CX P w K mg base N ⟨name, qual, params, supSt p0 p1 p2 p3 p4 e :: rest, scope, [("__class__", cc)], cda⟩ f A outer s H E) [] σ' H' s' → L2.RelV v u → Q v H' → CE outer P w H s Q u s' :=
    fun {σ' H' s' v u} J rv q => ⟨v, H', J.os, J.bare, J.base, J.hok, rv, q⟩
  obtain ⟨pl, hev⟩ := hev (envF ⟨name, qual, params, supSt p0 p1 p2 p3 p4 e :: rest, scope, [("__class__", cc)], cda⟩ f s.heap.objs.size)
  refine ks_wpAt_execs_cons ?_
  refine at_super (X := ncx CX P w K mg base N ⟨name, qual, params, supSt p0 p1 p2 p3 p4 e :: rest, scope, [("__class__", cc)], cda⟩ f A outer s H E) (pl := pl) (i := 0) (ta := tCons te tNil) T S rfl rfl look1 hks (NS.frk _ (List.mem_singleton.mpr rfl)) hka hm I hN hσ ea (pa_cons he pa_nil (hse _)) ?_ ?_ (hsw _) (hse _) rfl hev
  · refine hq (fun H1 => ([()].length ≤ 1000 ∧ H1 a = some (exo a C none) ∧ ∀ s', _)) fun H1 e1 ht1 => ⟨by decide, e1, fun s' I1 => ?_⟩
    refine wpAt_of_wpAny (wpAny_mono (ht.run [] s' _ H1 _ I1 ht1) (fun fl s' hs => ?_) fun e s' hs => hs)
    cases fl with
    | ret u =>
      obtain ⟨v, σ', H', J, rv, q⟩ := hs
      exact fin J rv q
    | next =>
      obtain ⟨σ', H', J, q⟩ := hs
      exact fin (v := V.non) (u := Value.none) J rfl q
    | brk =>
      obtain ⟨_, _, _, q⟩ := hs
      exact False.elim q
    | cont =>
      obtain ⟨_, _, _, q⟩ := hs
      exact False.elim q
  · show (scope.kind == .module && _) = false
    rw [NS.kind]
    rfl
end
end Kx

namespace Kx
open PySem PySem.Spec PyProof.Rows L2
/-! ### a def as its callers see it; a constant of the module -/
def Cal (P : Program) (w : World) (K : PySem.W.Frag) (mg : Str → Option Value) (base : Heap) (x : Str) (k : Nat) (sp : Sp) : Prop :=
  ∃ (f : Addr) (fd : FuncData) (ps : List Str), FnOk P w K mg base CX0 k f fd ps sp ∧ Binds K fd ps [] ∧ mg x = some (.ref f) ∧ PySem.W.keepIn K (.ref f) = true
theorem pe_cal {X : Cx} {x : Str} {k : Nat} {sp : Sp} {e : Expr} {es : List Expr} {t : TA} {p pos : Pos} (C : Cal X.prog X.w X.K X.mg X.base x k sp) (hr : Room k X.A) (hg : Gl X x) (ha : PA X (e :: es) t)
    (hdb : (x == ("__debug__" : Str)) = false := by decide) (he : starEach (e :: es) X.env = (false, eval e X.env) :: starEach es X.env := by rfl) (hpl : (backTo pos (starEach es X.env)).any (·.1) = false := by rfl) :
    PE X (.Call (.Name x p) (e :: es) [] pos) (tCall sp [] E0 t) := by
  obtain ⟨f, fd, ps, F, b, g, kp⟩ := C
  exact pe_call F hr hg g kp b .nil pass0 ha hdb he hpl
theorem pe_cal0 {X : Cx} {x : Str} {k : Nat} {sp : Sp} {p pos : Pos} (C : Cal X.prog X.w X.K X.mg X.base x k sp) (hr : Room k X.A) (hg : Gl X x)
    (hdb : (x == ("__debug__" : Str)) = false := by decide) : PE X (.Call (.Name x p) [] [] pos) (tCall sp [] E0 tNil) := by
  obtain ⟨f, fd, ps, F, b, g, kp⟩ := C
  exact pe_call0 F hr hg g kp b .nil pass0 hdb
def GC (mg : Str → Option Value) (x : Str) (v : V) : Prop := ∃ u, mg x = some u ∧ RelV v u
theorem pe_gc {X : Cx} {x : Str} {v : V} {pos : Pos} (h : GC X.mg x v) (hg : Gl X x) (hd : (x == ("__debug__" : Str)) = false := by decide) : PE X (.Name x pos) (tC v) := by
  obtain ⟨u, hm, r⟩ := h
  exact pe_glob hg hm r hd
theorem same_upd {H : Hp} {p : Addr} {o : HO} (h : H p = none) : Same H (upd H p o) := fun b x e => by
  rw [upd_ne (ne_of_none e h)]
  exact e
/-- what lies at an address that H did not know may change -/
theorem same_mut {H H1 : Hp} {p : Addr} {o : HO} (s : Same H H1) (h : H p = none) : Same H (upd H1 p o) := fun b x e => by
  rw [upd_ne (ne_of_none e h)]
  exact s b x e
theorem iteB {b : Bool} {A B : Prop} (h1 : b = true → A) (h2 : b = false → B) : if b = true then A else B := by
  cases b with
  | true => exact h1 rfl
  | false => exact h2 rfl
theorem sz9 {n : Nat} (h : n ≤ 100000) : n ≤ sizeLine := Nat.le_trans h (by decide)
theorem sz8 {n : Nat} (h : n < 100000) : n < sizeLine := Nat.lt_of_lt_of_le h (by decide)
/-- what a pool of draws is -/
def inR (v : Int) : Prop := 0 ≤ v ∧ v < 65536
structure Pool (ms : List Int) : Prop where
  lo : 3 ≤ ms.length
  hi : ms.length ≤ 200
  rg : ∀ v ∈ ms, inR v
def spDraws (K : PySem.W.Frag) : Sp := fun vs H Q _ => ∃ (a : Addr) (ns : List Int), vs = [.ref a] ∧ SqL K H a (ns.map V.int) ∧ ns.length ≤ 63 ∧
  ∀ H' p ms, Same H H' → H p = none → H' p = some (.lst (ms.map V.int)) → Pool ms → Q (.ref p) H'
theorem map_app (ms : List Int) (v : Int) : (ms.map V.int) ++ [V.int v] = (ms ++ [v]).map V.int := by rw [List.map_append]; rfl
theorem rg_app {ms : List Int} {v : Int} (h : ∀ x ∈ ms, inR x) (hv : inR v) : ∀ x ∈ ms ++ [v], inR x := fun x hx => by
  rcases List.mem_append.mp hx with hx | hx
  · exact h x hx
  · rw [List.mem_singleton.mp hx]; exact hv
theorem sl9 {n : Nat} (h : n < 100000) : n < sizeLine := Nat.lt_of_lt_of_le h (by decide)
variable {K : PySem.W.Frag}
theorem pe10 : ((10 : Int) ^ (18 : Int).toNat) = 1000000000000000000 := by decide
theorem eqv_nil : ∀ ms : List Int, PyData.eqv (.list (ms.map PyData.int)) (.list []) = decide (ms = [])
  | [] => by simp [PyData.eqv, PyData.eqvAll]
  | x :: r => by simp [PyData.eqv, PyData.eqvAll]
theorem dp_ints {H : Hp} : ∀ ms : List Int, DpAll K H (ms.map V.int) (ms.map PyData.int)
  | [] => .nil
  | x :: r => .cons (.int x) (dp_ints r)
theorem lay_ints : ∀ ms : List Int, PyData.canLayAll0 (ms.map PyData.int) = true
  | [] => rfl
  | x :: r => by
    rw [List.map_cons]
    simp only [PyData.canLayAll0, PyData.canLay0, lay_ints r, Bool.and_self]
theorem dep_ints : ∀ ms : List Int, PyData.depthAll (ms.map PyData.int) = 0
  | [] => rfl
  | x :: r => by
    rw [List.map_cons]
    simp only [PyData.depthAll, PyData.depth, dep_ints r, Nat.max_self]
theorem shp_ints (ms : List Int) : SeqAt.shaped (.list (ms.map PyData.int)) = true := by
  unfold SeqAt.shaped
  simp only [PyData.canLay0, PyData.depth, lay_ints, dep_ints, Bool.true_and]
  decide
def nthV (ms : List Int) (k : Int) : Int := if k < (ms.length : Int) then ms.getD k.toNat 0 else (ms.getD (k % (ms.length : Int)).toNat 0 * 31 + k * 7919) % 65521
theorem getD_rg {ms : List Int} (h : ∀ v ∈ ms, inR v) {i : Nat} (hi : i < ms.length) : ms[i]? = some (ms.getD i 0) ∧ inR (ms.getD i 0) := by
  have e : ms.getD i 0 = ms[i] := by rw [List.getD_eq_getElem?_getD, List.getElem?_eq_getElem hi]; rfl
  rw [e]
  exact ⟨List.getElem?_eq_getElem hi, h _ (List.getElem_mem hi)⟩
theorem nthV_rg {ms : List Int} (h : Pool ms) {k : Int} (hk : 0 ≤ k) : inR (nthV ms k) := by
  unfold nthV
  split
  · exact (getD_rg h.rg (by omega)).2
  · unfold inR; constructor <;> omega
theorem at_pool {ms : List Int} {k : Int} (hk : 0 ≤ k) (hl : k < (ms.length : Int)) : atI (ms.map V.int) k = some (.int (ms.getD k.toNat 0)) := by
  obtain ⟨j, rfl⟩ : ∃ j : Nat, k = (j : Int) := ⟨k.toNat, by omega⟩
  refine atI_nat ?_
  rw [List.getElem?_map, List.getElem?_eq_getElem (by omega), List.getD_eq_getElem?_getD, Int.toNat_natCast, List.getElem?_eq_getElem (by omega)]
  rfl
def spNth (K : PySem.W.Frag) : Sp := fun vs H Q _ => ∃ (p : Addr) (ms : List Int) (k : Int), vs = [.ref p, .int k] ∧ SqL K H p (ms.map V.int) ∧ Pool ms ∧ 0 ≤ k ∧ k < 1000000 ∧ Q (.int (nthV ms k)) H
def SIG1 : Str := " !\"#$&'()*+,-./0123456789:;<=>?@ABCDEFGHIJKLMNOPQRSTUVWXYZ[\\]^_`"
def SIG2 : Str := "abcdefghijklmnopqrstuvwxyz{|}~\n"
def SIGS : List Nat := (SIG1 ++ SIG2).cps.toList
def signV (k : Int) : Nat := SIGS.getD (k % 95).toNat 0
theorem sigs_len : SIGS.length = 95 := by decide +kernel
theorem sigs_len2 : (SIG1 ++ SIG2).length = 95 := by decide +kernel
theorem sig12 : SIG1.length + SIG2.length ≤ 1000 := by decide +kernel
def okS (c : Nat) : Bool := c == 10 || (decide (32 ≤ c) && decide (c ≤ 126) && c != 37)
theorem sigs_ok : SIGS.all okS = true := by decide +kernel
theorem at_sig (k : Int) : atI SIGS (k % 95) = some (signV k) := by
  have h0 : 0 ≤ k % 95 := by omega
  obtain ⟨j, hj⟩ : ∃ j : Nat, k % 95 = (j : Int) := ⟨(k % 95).toNat, by omega⟩
  unfold signV
  rw [hj, Int.toNat_natCast]
  refine atI_nat ?_
  have hl : j < SIGS.length := by rw [sigs_len]; omega
  rw [List.getElem?_eq_getElem hl, List.getD_eq_getElem?_getD, List.getElem?_eq_getElem hl]
  rfl
theorem signV_ok (k : Int) : okS (signV k) = true := by
  have hl : (k % 95).toNat < SIGS.length := by rw [sigs_len]; omega
  unfold signV
  rw [List.getD_eq_getElem?_getD, List.getElem?_eq_getElem hl]
  exact List.all_eq_true.mp sigs_ok _ (List.getElem_mem hl)
def spSign : Sp := fun vs H Q _ => ∃ k : Int, vs = [.int k] ∧ Q (.str ⟨#[signV k]⟩) H
def spSaid : Sp := fun vs H Q _ => ∃ a b : Bool, vs = [.bl a, .bl b] ∧ Q (.bl (decide (a = b))) H
/-- the built-ins that every law's own defs ask -/
structure TB (mg : Str → Option Value) : Prop where
  m_len : mg "len" = none
  m_abs : mg "abs" = none
  m_int : mg "int" = none
  m_range : mg "range" = none
/-! ### the end: what the top has written -/
/-- a def of the top, as k_is finds it -/
structure At (K : PySem.W.Frag) (x : Str) (st : Stmt) (f : Addr) (fd : FuncData) : Prop where
  a : PySem.W.nsIn K mainGlobals x = some (some (.ref f))
  F : Fun K x x st f fd
theorem gc_of {K : PySem.W.Frag} {h : Heap} {mg : Str → Option Value} (X : K.In h) (G : h.Ns mainGlobals mg) {x : Str} {v : V} {u : Value} (a : PySem.W.nsIn K mainGlobals x = some (some u)) (r : RelV v u) : GC mg x v := ⟨u, PySem.W.mg_of X G a, r⟩
theorem at_mk {K : PySem.W.Frag} {x : Str} {st : Stmt} {f : Addr} {oc : Value} {od an : Option Addr} {osl : Array (Option Value)} {kV doc pm cdv ct : Value} (a : PySem.W.nsIn K mainGlobals x = some (some (.ref f)))
    (l : K.lookup f = some ⟨oc, od, .func (PySem.W.fnOf x x (defArgs st) (defBody st) (defScope st) .none kV doc pm an cdv ct), osl⟩)
    (c : PySem.W.codeIn K cdv x = true) (k : PySem.W.keepIn K (.ref f) = true) : At K x st f (PySem.W.fnOf x x (defArgs st) (defBody st) (defScope st) .none kV doc pm an cdv ct) := ⟨a, fun_mk l c k⟩
end Kx

/-! {x!r}, x of texts, lists and tuples, whatever is under way: some text of bounded length. -/
namespace Kr
open PySem PySem.Spec PyProof.Rows
/-- repr gives some text of at most n signs, with k units to spare -/
def Shows (prog : Program) (w : World) (h₀ : Heap) (k n : Nat) (x : Value) : Prop :=
  ∀ b : Nat, b + n ≤ sizeLine → ∀ (A : Around) (E : Value → Shared → Prop) (s : Shared) (Q : Str → Shared → Prop), A.units + k < cLine → (∀ c o, h₀.get? c = some o → s.heap.get? c = some o) →
    (∀ (t : Str) (h' : Heap) (tk : Nat), t.length ≤ n → (∀ c o, s.heap.get? c = some o → h'.get? c = some o) → Q t { s with heap := h', toks := tk }) → wpAny (model prog w) A (pyReprUnder b x) Q E s
def cst (ns : List Nat) : Nat := (ns.map (· + 2)).sum
theorem cst_cons (n : Nat) (ns : List Nat) : cst (n :: ns) = n + 2 + cst ns := by
  unfold cst
  rw [List.map_cons, List.sum_cons]
theorem cst_take_succ {ns : List Nat} {i n : Nat} (h : ns[i]? = some n) : cst (ns.take (i + 1)) = cst (ns.take i) + (n + 2) := by
  unfold cst
  rw [List.take_add_one, h, List.map_append, List.sum_append]
  simp
theorem cst_take_le (ns : List Nat) (i : Nat) : cst (ns.take i) ≤ cst ns := by
  have e : cst ns = cst (ns.take i) + cst (ns.drop i) := by
    unfold cst
    rw [← List.sum_append, ← List.map_append, List.take_append_drop]
  omega
theorem listText_le (ts : List Str) : (listText ts).length ≤ piled ts + 2 := by
  rw [listText_eq_join, strLen_append, strLen_append]
  have e1 : ((("[" : String) : Str)).length = 1 := rfl
  have e2 : ((("]" : String) : Str)).length = 1 := rfl
  rw [e1, e2]
  by_cases h : ts = []
  · subst h
    decide +kernel
  · have := join_length_add ts h
    omega
section
variable {prog : Program} {w : World} {h₀ : Heap} {k : Nat}
theorem Shows.str (x : Str) (t : Tok) (hx : (reprText x).length ≤ sizeLine) : Shows prog w h₀ k (reprText x).length (.str x t) := fun b hb A E s Q _ _ hQ =>
  ReprIs.str (prog := prog) (w := w) x t hx b hb A E s Q fun tk => hQ _ s.heap tk (Nat.le_refl _) fun _ _ e => e
theorem Shows.le {n m : Nat} {x : Value} (h : Shows prog w h₀ k n x) (hn : n ≤ m) : Shows prog w h₀ k m x := fun b hb A E s Q hu hk hQ =>
  h b (by omega) A E s Q hu hk fun t h' tk ht => hQ t h' tk (by omega)
theorem Shows.unit {n j : Nat} {x : Value} (h : Shows prog w h₀ k n x) (hn : k ≤ j) : Shows prog w h₀ j n x := fun b hb A E s Q hu hk hQ =>
  h b hb A E s Q (by omega) hk hQ
/-- the loop of a list's repr -/
theorem loop_any {A : Around} {R : Result → Shared → Prop} {a P : Addr} (hne : a ≠ P) {items : Array Value} {ns : List Nat} {base : Nat} (hu : A.units + (k + 1) < cLine) (hPf : h₀.get? P = none) (hlen : ns.length = items.size)
    (hT : ∀ (i : Nat) (x : Value), items[i]? = some x → ∃ n, ns[i]? = some n ∧ Shows prog w h₀ k n x) (hsz : base + cst ns + 2 ≤ sizeLine) :
    ∀ (m i : Nat) (s : Shared) (oa : Obj) (na : Nat) (acc : Array Value) (c : Nat) (done : List (Str × Tok)), items.size - i = m → i ≤ items.size → (∀ b o, h₀.get? b = some o → s.heap.get? b = some o) → s.heap.get? a = some oa → oa.data = .seq items na →
    s.heap.get? P = some { cls := .type "list", dict := none, data := .seq acc c, slots := #[] } → acc.toList = strValues done → done.length = i → piled (done.map (·.1)) ≤ cst (ns.take i) →
    (∀ (t : Str) h' u tk, t.length ≤ cst ns + 2 → (∀ b o, b ≠ P → s.heap.get? b = some o → h'.get? b = some o) → R (.ok (.ret (.str t u))) { s with heap := h', toks := tk }) →
    codeAny (model prog w) A (.builtin "list.__repr__.loop" ⟨[.ref a, rawInt i, .ref P, rawInt ((base + piled (done.map (·.1)) : Nat) : Int)], []⟩) R s := by
  have hsz1 : items.size ≤ sizeLine := by
    have : ∀ l : List Nat, 2 * l.length ≤ cst l := by
      intro l
      induction l with
      | nil => exact Nat.zero_le _
      | cons n l ih => rw [cst_cons, List.length_cons]; omega
    have := this ns
    omega
  intro m
  induction m with
  | zero =>
    intro i s oa na acc c done hm hi hk0 ha hda hP hacc hdone hpl hR
    have hin : i = items.size := by omega
    have hall : ns.take i = ns := by rw [hin, ← hlen, List.take_length]
    rw [hall] at hpl
    have hlt := listText_le (done.map (·.1))
    refine codeAny_builtin F.entry_list_repr_loop ?_
    show wpAny _ _ (Builtin.«list.__repr__.loop» ⟨[.ref a, .int i 0, .ref P, .int ((base + piled (done.map (·.1)) : Nat) : Int) 0], []⟩) _ _ s
    rw [repr_loop_tree]
    refine wpAny_bind (wpAny_listItems ha hda ?_)
    have hnone : items[(i : Int).toNat]? = none := by simp [hin]
    simp only [hnone]
    unfold reprEnd
    refine wpAny_bind (wpAny_listItems hP rfl ?_)
    rw [hacc, repr_fold]
    refine wpAny_bind (wpAny_pure ?_)
    refine wpAny_bind (wpAny_mkStr (wpAny_pure ?_) (by show (listText _).length ≤ _; omega))
    exact hR _ s.heap _ _ (by show (listText _).length ≤ _; omega) fun _ _ _ e => e
  | succ m ih =>
    intro i s oa na acc c done hm hi hk0 ha hda hP hacc hdone hpl hR
    have hlt : i < items.size := by omega
    obtain ⟨n, hn, hsh⟩ := hT i items[i] (by simp [hlt])
    have hp1 := cst_take_succ hn
    have hp2 := cst_take_le ns (i + 1)
    refine codeAny_builtin F.entry_list_repr_loop ?_
    show wpAny _ _ (Builtin.«list.__repr__.loop» ⟨[.ref a, .int i 0, .ref P, .int ((base + piled (done.map (·.1)) : Nat) : Int) 0], []⟩) _ _ s
    rw [repr_loop_tree]
    refine wpAny_bind (wpAny_listItems ha hda ?_)
    have hsome : items[(i : Int).toNat]? = some items[i] := by simp [hlt]
    simp only [hsome]
    rw [Int.toNat_natCast]
    refine wpAny_bind (wpAny_holding (hsh (base + piled (done.map (·.1)) + 1) (by omega) _ _ _ _ (by rw [units_under_list_loop]; omega) hk0 fun t h' tk ht hkp => ?_))
    refine wpAny_bind (wpAny_mkStr ?_ (by omega))
    refine wpAny_bind ?_
    show wpAny _ _ (updateSeq P _) _ _ _
    have hasz : acc.size ≤ sizeLine := by
      have e1 : acc.toList.length = acc.size := by simp
      have e2 : (strValues done).length = done.length := by simp [strValues]
      rw [hacc] at e1; omega
    refine wpAny_updateSeq (hkp _ _ hP) rfl (wpAny_pure ⟨F.quiet_list_repr_loop _, ?_⟩) hasz
    have hpd : piled ((done ++ [(t, tk)]).map (·.1)) = piled (done.map (·.1)) + (t.length + 2) := by
      rw [List.map_append, piled_append]
      show _ + piled [t] = _
      rw [piled_cons, piled_nil]
    have e1 : ((i : Int) + 1) = ((i + 1 : Nat) : Int) := by omega
    have e2 : base + piled (done.map (·.1)) + (t.length + 2) = base + piled ((done ++ [(t, tk)]).map (·.1)) := by omega
    rw [e1, e2]
    refine ih (i + 1) _ oa na (acc.push (.str t tk)) _ (done ++ [(t, tk)]) (by omega) hlt (fun b o e => (Heap.get?_update_other _ _ (fun h : P = b => by rw [← h, hPf] at e; cases e)).trans (hkp _ _ (hk0 _ _ e))) ((Heap.get?_update_other _ _ (fun h : P = a => hne h.symm)).trans (hkp _ _ ha)) hda (Heap.get?_update_self _ (hkp _ _ hP) rfl) (by simp [hacc, strValues]) (by simp [hdone]) (by omega) fun z h'' u tk' hz hh => ?_
    exact hR z h'' u tk' hz fun b o hb e => hh b o hb ((Heap.get?_update_other _ _ (fun h : P = b => hb h.symm)).trans (hkp _ _ e))
theorem dots3 : ("[...]" : Str).length ≤ 5 := by decide +kernel
/-- list.__repr__ of a non-empty list, whatever is under way -/
theorem list_at {A : Around} {R : Result → Shared → Prop} {s : Shared} {a : Addr} {oa : Obj} {x : Value} {l : List Value} {na base : Nat} {ns : List Nat} (ha : s.heap.get? a = some oa) (hda : oa.data = .seq (x :: l).toArray na) (hu : A.units + (k + 1) < cLine)
    (hk0 : ∀ b o, h₀.get? b = some o → s.heap.get? b = some o) (hlen : ns.length = (x :: l).toArray.size) (hT : ∀ (i : Nat) (y : Value), (x :: l).toArray[i]? = some y → ∃ n, ns[i]? = some n ∧ Shows prog w h₀ k n y) (hsz : base + cst ns + 5 ≤ sizeLine)
    (hR : ∀ (t : Str) h' u tk, t.length ≤ cst ns + 5 → (∀ b o, s.heap.get? b = some o → h'.get? b = some o) → R (.ok (.ret (.str t u))) { s with heap := h', toks := tk }) :
    wpAny (model prog w) A.in1 (Builtin.listReprAt base ⟨[.ref a], []⟩) (fun fin s' => match fin with | .done f => R (.ok f) s' | .again c' => c'.quiet = true ∧ codeAny (model prog w) A c' R s') (fun e s' => R (.error e) s') s := by
  have hPf : h₀.get? s.heap.objs.size = none := by
    cases e : h₀.get? s.heap.objs.size with
    | none => rfl
    | some o => exact absurd (Heap.lt_size (hk0 _ _ e)) (Nat.lt_irrefl _)
  have main : wpAny (model prog w) A.in1 (do again (.builtin "list.__repr__.loop" ⟨[.ref a, rawInt 0, ← newList [], rawInt base], []⟩)) (fun fin s' => match fin with | .done f => R (.ok f) s' | .again c' => c'.quiet = true ∧ codeAny (model prog w) A c' R s') (fun e s' => R (.error e) s') s := by
    refine wpAny_bind (m := newList []) (wpAny_newObj_type ?_)
    refine wpAny_pure ⟨F.quiet_list_repr_loop _, ?_⟩
    exact loop_any (P := s.heap.objs.size) (done := []) (Nat.ne_of_lt (Heap.lt_size ha)) hu hPf hlen hT (by omega) _ 0 _ oa na #[] _ rfl (Nat.zero_le _) (fun b o e => Heap.get?_push_of_some _ (hk0 _ _ e)) (Heap.get?_push_of_some _ ha) hda (Heap.get?_push_size _ rfl) rfl rfl (Nat.zero_le _)
      fun t h' u tk ht hk => hR t h' u tk (by omega) fun b o e => hk b o (Nat.ne_of_lt (Heap.lt_size e)) (Heap.get?_push_of_some _ e)
  intro Γ p hΓ
  have h1 := main Γ p hΓ
  unfold Builtin.listReprAt
  simp [slotArgs, Builtin.List.listItems, seqItems?, Sem.wp_load_of (h := ha), hda, stack]
  show Sem.wp _ Γ (if (Γ.below.any _) = true then _ else _) _ _ p s
  split
  · have h2 : wpAny (model prog w) A.in1 (do rule "list.__repr__.in-itself"; retStr "[...]") (fun fin s' => match fin with | .done f => R (.ok f) s' | .again c' => c'.quiet = true ∧ codeAny (model prog w) A c' R s') (fun e s' => R (.error e) s') s := by
      refine wpAny_bind (wpAny_rule ?_)
      refine wpAny_bind (wpAny_mkStr (wpAny_pure ?_) (by decide +kernel))
      have d := dots3
      exact hR _ s.heap _ _ (by omega) fun _ _ e => e
    exact h2 Γ p hΓ
  · exact h1
/-- a list's object in the heap that was read -/
structure LstAt (h : Heap) (a : Addr) (xs : List Value) : Prop where
  ex : ∃ (o : Obj) (n : Nat), h.get? a = some o ∧ o.cls = .type "list" ∧ o.data = .seq xs.toArray n
structure TupAt (h : Heap) (a : Addr) (xs : List Value) : Prop where
  ex : ∃ (o : Obj) (n : Nat), h.get? a = some o ∧ o.cls = .type "tuple" ∧ o.data = .seq xs.toArray n
/-- the members and what each may come to -/
def Each (prog : Program) (w : World) (h₀ : Heap) (k : Nat) : List Value → List Nat → Prop := Paired fun x n => Shows prog w h₀ k n x
theorem Each.get : ∀ {xs : List Value} {ns : List Nat}, Each prog w h₀ k xs ns → ∀ (i : Nat) (y : Value), xs[i]? = some y → ∃ n, ns[i]? = some n ∧ Shows prog w h₀ k n y
  | _, _, .nil, i, y, e => by simp at e
  | _, _, .cons (b := n) h _, 0, y, e => ⟨n, rfl, (Option.some.inj e) ▸ h⟩
  | _, _, .cons _ t, i + 1, y, e => by
    obtain ⟨n, h1, h2⟩ := Each.get t i y (by simpa using e)
    exact ⟨n, by simpa using h1, h2⟩
theorem Each.len {xs : List Value} {ns : List Nat} (h : Each prog w h₀ k xs ns) : ns.length = xs.length := (Paired.length h).symm
theorem list_top {A : Around} {E : Value → Shared → Prop} {s : Shared} {Q : Value → Shared → Prop} {a : Addr} {xs : List Value} {ns : List Nat} (ha : LstAt h₀ a xs) (hT : Each prog w h₀ k xs ns) (hu : A.units + (k + 1) < cLine) (hk0 : ∀ b o, h₀.get? b = some o → s.heap.get? b = some o) (hsz : cst ns + 5 ≤ sizeLine)
    (hQ : ∀ (t : Str) h' u tk, t.length ≤ cst ns + 5 → (∀ b o, s.heap.get? b = some o → h'.get? b = some o) → Q (.str t u) { s with heap := h', toks := tk }) : wpAny (model prog w) A (pyReprObj (.ref a)) Q E s := by
  obtain ⟨o, n, ho, hc, hd⟩ := ha.ex
  have hTy : s.TypeIs (.ref a) "list" := ⟨o, hk0 _ _ ho, hc⟩
  cases xs with
  | nil => exact wpAny_pyReprObj_list_empty hTy (by omega) (hk0 _ _ ho) hd (hQ _ s.heap _ _ (Nat.le_trans (by decide +kernel : ("[]" : Str).length ≤ 5) (Nat.le_add_left _ _)) fun _ _ e => e)
  | cons x l =>
    unfold pyReprObj
    refine wpAny_bind (wpAny_cRoomFor (by omega) ?_)
    refine wpAny_bind (wpAny_specialOf (name := Str.ofString "__repr__") hTy F.slot_list_repr.lookup ?_)
    refine wpAny_bind (m := callSpecialIfBound? (.ref a) (Str.ofString "__repr__")) (wpAny_callSpecialIfBound?_slot (name := Str.ofString "__repr__") hTy F.slot_list_repr ?_)
    refine wpAny_call (codeAny_call_builtin F.slot_list_repr.plain F.entry_list_repr (F.slot_list_repr.check _ _ _ _ _ _ _ _ hTy (F.args_list_repr_1 _) ?_))
    refine list_at (k := k) (h₀ := h₀) (ns := ns) (R := callEnd _ _) (base := 0) (hk0 _ _ ho) hd hu hk0 (by rw [hT.len]; simp) (fun i y e => hT.get i y (by simpa using e)) (by omega) fun t h' u tk ht hk => ?_
    exact wpAny_bind (wpAny_isInstance (T := "str") (b := true) rfl isSubtype_str_str (wpAny_pure (hQ t h' u tk ht hk)))
theorem Shows.list {a : Addr} {xs : List Value} {ns : List Nat} (ha : LstAt h₀ a xs) (hT : Each prog w h₀ k xs ns) : Shows prog w h₀ (k + 1) (cst ns + 5) (.ref a) := by
  obtain ⟨o, n, ho, hc, hd⟩ := ha.ex
  intro b hb A E s Q hu hk0 hQ
  refine wpAny_pyReprUnder_ref (by omega) ?_
  cases xs with
  | nil => exact wpAny_pyReprObjUnder_list_empty ⟨o, hk0 _ _ ho, hc⟩ (by omega) (hk0 _ _ ho) hd ⟨_, _, rfl, hQ _ s.heap _ (Nat.le_trans (by decide +kernel : ("[]" : Str).length ≤ 5) (Nat.le_add_left _ _)) fun _ _ e => e⟩
  | cons x l =>
    refine wpAny_pyReprObjUnder_twin (twin := "list.__repr__.under") ⟨o, hk0 _ _ ho, hc⟩ F.slot_list_repr.toG rfl (by omega) ?_
    refine call_twin_plain F.plain_list_repr_under F.entry_list_repr_under F.check_list_repr_under ⟨o, hk0 _ _ ho, hc⟩ F.slot_list_repr.toG (F.args_list_repr_1 _) ?_
    refine list_at (k := k) (h₀ := h₀) (ns := ns) (R := callEnd _ _) (hk0 _ _ ho) hd hu hk0 (by rw [hT.len]; simp) (fun i y e => hT.get i y (by simpa using e)) (by omega) fun t h' u tk ht hk => ?_
    exact ⟨⟨_, _, rfl⟩, _, _, rfl, hQ t h' tk ht hk⟩
/-- the fold over a tuple's members -/
theorem fold_any {A : Around} {E : Value → Shared → Prop} (hu : A.units + k < cLine) : ∀ (l : List Value) (ns : List Nat) (acc : Array Str) (n : Nat) (s : Shared) (Q : (Array Str × Nat) → Shared → Prop), Each prog w h₀ k l ns → n + cst ns ≤ sizeLine → (∀ b o, h₀.get? b = some o → s.heap.get? b = some o) →
    (∀ (ts : List Str) h' tk, ts.length = l.length → piled ts ≤ cst ns → (∀ b o, s.heap.get? b = some o → h'.get? b = some o) → Q ⟨acc ++ ts.toArray, n + piled ts⟩ { s with heap := h', toks := tk }) → wpAny (model prog w) A (forIn l (⟨acc, n⟩ : (Array Str × Nat)) tupBody) Q E s := by
  intro l
  induction l with
  | nil =>
    intro ns acc n s Q hT hn _ h
    have h0 := h [] s.heap s.toks rfl (Nat.zero_le _) fun _ _ e => e
    simp only [List.forIn_nil]
    exact wpAny_pure (by simpa [piled] using h0)
  | cons x l ih =>
    intro ns acc n s Q hT hn hk0 h
    cases hT with
    | @cons _ c _ cs hx hl =>
      rw [cst_cons] at hn
      rw [List.forIn_cons]
      refine wpAny_bind (wpAny_bind (hx (n + 1) (by omega) _ _ _ _ hu hk0 fun t h' tk ht hkp => wpAny_pure ?_))
      refine ih cs (acc.push t) (n + (t.length + 2)) _ Q hl (by omega) (fun b o e => hkp _ _ (hk0 _ _ e)) fun ts h'' tk' hl' hp' hk2 => ?_
      have e : n + piled (t :: ts) = n + (t.length + 2) + piled ts := by rw [piled_cons]; omega
      have h1 := h (t :: ts) h'' tk' (by simp [hl']) (by rw [piled_cons, cst_cons]; omega) fun b o e => hk2 _ _ (hkp _ _ e)
      rw [e] at h1
      simpa using h1
theorem tupleText_le (ts : List Str) : (tupleText ts).length ≤ piled ts + 2 := fmt_text ts
theorem tup_rest {A : Around} {E : Value → Shared → Prop} {s : Shared} {Q : Fin → Shared → Prop} {a : Addr} {xs : List Value} {ns : List Nat} {base : Nat} (ha : TupAt h₀ a xs) (hT : Each prog w h₀ k xs ns) (hu : A.units + k < cLine) (hk0 : ∀ b o, h₀.get? b = some o → s.heap.get? b = some o) (hsz : base + cst ns + 5 ≤ sizeLine)
    (hQ : ∀ (t : Str) h' u tk, t.length ≤ cst ns + 5 → (∀ b o, s.heap.get? b = some o → h'.get? b = some o) → Q (.done (.ret (.str t u))) { s with heap := h', toks := tk }) : wpAny (model prog w) A (Builtin.tupleReprAt base ⟨[.ref a], []⟩) Q E s := by
  obtain ⟨o, n, ho, hc, hd⟩ := ha.ex
  rw [tuple_repr_tree]
  refine wpAny_bind (fmt_underWay fun c => ?_)
  cases c with
  | true =>
    refine PySem.W.KFB.if_so rfl ?_
    refine wpAny_bind (wpAny_rule ?_)
    refine wpAny_bind (wpAny_mkStr (wpAny_pure ?_) (by decide +kernel))
    exact hQ "(...)" s.heap _ _ (Nat.le_trans fmt_way (Nat.le_add_left _ _)) fun _ _ e => e
  | false =>
    refine PySem.W.KFB.if_not rfl ?_
    unfold tupleReprRest Builtin.Tuple.tupleItemsOf
    refine wpAny_bind (wpAny_bind (wpAny_seqItems (hk0 _ _ ho) hd (wpAny_pure ?_)))
    rw [← Array.forIn_toList]
    refine wpAny_bind (fold_any hu _ ns _ _ _ _ (by simpa using hT) (by omega) hk0 fun ts h' tk hl hp hkp => ?_)
    have ht := tupleText_le ts
    have hl2 : ts.length = xs.toArray.size := by simpa using hl
    have hz : (tupleText ts).length ≤ sizeLine := by omega
    refine wpAny_bind (wpAny_mkStr (wpAny_pure ?_) (by simpa [tupleText, hl2] using hz))
    have h1 := hQ (tupleText ts) h' tk (tk + 1) (by omega) hkp
    simpa [tupleText, hl2] using h1
theorem tup_top {A : Around} {E : Value → Shared → Prop} {s : Shared} {Q : Value → Shared → Prop} {a : Addr} {xs : List Value} {ns : List Nat} (ha : TupAt h₀ a xs) (hT : Each prog w h₀ k xs ns) (hu : A.units + (k + 1) < cLine) (hk0 : ∀ b o, h₀.get? b = some o → s.heap.get? b = some o) (hsz : cst ns + 5 ≤ sizeLine)
    (hQ : ∀ (t : Str) h' u tk, t.length ≤ cst ns + 5 → (∀ b o, s.heap.get? b = some o → h'.get? b = some o) → Q (.str t u) { s with heap := h', toks := tk }) : wpAny (model prog w) A (pyReprObj (.ref a)) Q E s := by
  obtain ⟨o, n, ho, hc, hd⟩ := id ha.ex
  have hTy : s.TypeIs (.ref a) "tuple" := ⟨o, hk0 _ _ ho, hc⟩
  unfold pyReprObj
  refine wpAny_bind (wpAny_cRoomFor (by omega) ?_)
  refine wpAny_bind (wpAny_specialOf (name := Str.ofString "__repr__") hTy F.slot_tuple_repr.lookup ?_)
  refine wpAny_bind (m := callSpecialIfBound? (.ref a) (Str.ofString "__repr__")) (wpAny_callSpecialIfBound?_slotG (name := Str.ofString "__repr__") hTy F.slot_tuple_repr ?_)
  refine wpAny_call (codeAny_call_builtin_own (Code.quiet_builtin _ (by decide +kernel)) F.entry_tuple_repr (F.slot_tuple_repr.check _ _ _ _ _ _ _ _ hTy (F.args_tuple_repr_1 _) (wpOwn_of_wpAny ?_)))
  refine tup_rest (base := 0) ha hT (by rw [units_under_tuple_repr]; omega) hk0 (by omega) fun t h' u tk ht hk => ?_
  exact wpAny_bind (wpAny_isInstance (T := "str") (b := true) rfl isSubtype_str_str (wpAny_pure (hQ t h' u tk ht hk)))
theorem Shows.tup {a : Addr} {xs : List Value} {ns : List Nat} (ha : TupAt h₀ a xs) (hT : Each prog w h₀ k xs ns) : Shows prog w h₀ (k + 1) (cst ns + 5) (.ref a) := by
  obtain ⟨o, n, ho, hc, hd⟩ := id ha.ex
  intro b hb A E s Q hu hk0 hQ
  refine wpAny_pyReprUnder_ref (by omega) ?_
  refine wpAny_pyReprObjUnder_twin (twin := "tuple.__repr__.under") ⟨o, hk0 _ _ ho, hc⟩ F.slot_tuple_repr rfl (by omega) ?_
  refine call_twin_own (F.quiet_tuple_repr_under _) F.entry_tuple_repr_under F.check_tuple_repr_under ⟨o, hk0 _ _ ho, hc⟩ F.slot_tuple_repr (F.args_tuple_repr_1 _) (wpOwn_of_wpAny ?_)
  refine tup_rest ha hT (by rw [units_under_tuple_repr_under]; omega) hk0 (by omega) fun t h' u tk ht hk => ?_
  exact ⟨⟨_, _, rfl⟩, _, _, rfl, hQ t h' tk ht hk⟩
end
end Kr

namespace Kr
open PySem PySem.Spec PyProof.Rows L2
mutual
def costD : PyData → Nat
  | .str x => 10 * x.length + 2
  | .list ds => costAll ds + 5
  | .tuple ds => costAll ds + 5
  | _ => 0
def costAll : List PyData → Nat
  | [] => 0
  | d :: ds => costD d + 2 + costAll ds
end
mutual
def okD : PyData → Bool
  | .str x => x.cps.toList.all fun c => decide (c < 1114112)
  | .list ds => okAll ds
  | .tuple ds => okAll ds
  | _ => false
def okAll : List PyData → Bool
  | [] => true
  | d :: ds => okD d && okAll ds
end
theorem repr_le {x : Str} (h : okD (.str x) = true) : (reprText x).length ≤ 10 * x.length + 2 := StrLaws.reprText_len x fun c hc => by
  have h' : x.cps.toList.all (fun c => decide (c < 1114112)) = true := by simpa only [okD] using h
  exact Nat.lt_trans (of_decide_eq_true (List.all_eq_true.mp h' c hc)) (by decide)
section
variable {X : Cx} {pins : List (Addr × Obj)} {σ : L2.St} {H : Hp} {s : Shared} {prog : Program} {w : World}
mutual
theorem shows_of (I : Inv X pins σ H s) : ∀ (d : PyData) (v : V) (u : Value), Dp X.K H v d → RelV v u → okD d = true → costD d ≤ sizeLine → Shows prog w s.heap d.depth (costD d) u
  | .str x, _, _, h, r, ok, hz => by
    cases h
    obtain ⟨t, rfl⟩ := r
    have h1 := repr_le ok
    have e : costD (.str x) = 10 * x.length + 2 := by simp only [costD]
    rw [e] at hz ⊢
    exact (Shows.str x t (by omega)).le h1
  | .list ds, _, _, h, r, ok, hz => by
    cases h with
    | lst hs ha =>
      cases r
      obtain ⟨its, rv, ⟨o, n, ho, hc, _, hd⟩, _⟩ := I.list hs
      have e : costD (.list ds) = costAll ds + 5 := by simp only [costD]
      rw [e] at hz ⊢
      obtain ⟨ns, en, hT⟩ := shows_all I ds _ its ha rv (by simpa only [okD] using ok) (by omega)
      rw [← en]
      exact Shows.list ⟨o, n, ho, hc, hd⟩ hT
  | .tuple ds, _, _, h, r, ok, hz => by
    cases h with
    | tup hs ha =>
      cases r
      obtain ⟨its, rv, ⟨o, ho, hc, n, hd⟩, _⟩ := I.tuple hs
      have e : costD (.tuple ds) = costAll ds + 5 := by simp only [costD]
      rw [e] at hz ⊢
      obtain ⟨ns, en, hT⟩ := shows_all I ds _ its ha rv (by simpa only [okD] using ok) (by omega)
      rw [← en]
      exact Shows.tup ⟨o, n, ho, hc, hd⟩ hT
  | .none, _, _, _, _, ok, _ => by simp [okD] at ok
  | .bool _, _, _, _, _, ok, _ => by simp [okD] at ok
  | .int _, _, _, _, _, ok, _ => by simp [okD] at ok
  | .dict _, _, _, _, _, ok, _ => by simp [okD] at ok
theorem shows_all (I : Inv X pins σ H s) : ∀ (ds : List PyData) (vs : List V) (us : List Value), DpAll X.K H vs ds → Vals vs us → okAll ds = true → costAll ds ≤ sizeLine → ∃ ns, cst ns = costAll ds ∧ Each prog w s.heap (PyData.depthAll ds) us ns
  | [], _, _, h, r, _, _ => by
    cases h
    cases r
    exact ⟨[], by simp [cst, costAll], .nil⟩
  | d :: ds, _, _, h, r, ok, hz => by
    cases h with
    | cons h1 h2 =>
      cases r with
      | cons r1 r2 =>
        have e : costAll (d :: ds) = costD d + 2 + costAll ds := by simp only [costAll]
        have o2 : (okD d && okAll ds) = true := by simpa only [okAll] using ok
        obtain ⟨oa, ob⟩ := Bool.and_eq_true_iff.mp o2
        have q1 := shows_of I d _ _ h1 r1 oa (by omega)
        obtain ⟨ns, en, q2⟩ := shows_all I ds _ _ h2 r2 ob (by omega)
        have hm : PyData.depthAll (d :: ds) = max d.depth (PyData.depthAll ds) := by simp only [PyData.depthAll]
        refine ⟨costD d :: ns, by rw [cst_cons, en, e], ?_⟩
        rw [hm]
        exact .cons (q1.unit (Nat.le_max_left _ _)) (Paired.mono (fun _ _ z => z.unit (Nat.le_max_right _ _)) q2)
end
end
/-- {x!r}: some text -/
def tFmtD (K : PySem.W.Frag) (te : TE) : TE := fun σ H Q => te σ H fun x H1 => ∃ d, Dp K H1 x d ∧ okD d = true ∧ costD d ≤ 1000000 ∧ d.depth ≤ 20 ∧ ∀ m : Str, m.length ≤ costD d → Q (.str m) H1
section
variable {X : Cx}
theorem pe_fmtD {e : Expr} {te : TE} {pos : Pos} {k : Nat} (hr : Room k X.A) (he : PE X e te) : PE X (.FormattedValue e 114 none pos) (tFmtD X.K te) := by
  refine ⟨fun pins s σ H Q I h => ?_⟩
  refine wpAny_FormattedValue_repr (thn (he.run pins s σ H _ I h) fun v s1 hv => ?_)
  obtain ⟨x, H1, I1, r1, d, hd, ok, hz, hdp, q⟩ := hv
  have hu := hr.units
  have hz' : costD d ≤ sizeLine := Nat.le_trans hz (by decide)
  have fin : ∀ (t : Str) (h' : Heap) (u tk : Nat), t.length ≤ costD d → (∀ b o, s1.heap.get? b = some o → h'.get? b = some o) → wpAny (model X.prog X.w) X.A (formatField (.str t u) Str.empty) (EP X pins σ Q) X.xe { s1 with heap := h', toks := tk } := fun t h' u tk ht hk =>
    wpAny_formatField_str ⟨.str t, H1, (I1.kept (t' := tk) hk).tok _, ⟨_, rfl⟩, q t ht⟩ ⟨.str t, H1, (I1.kept (t' := tk) hk).tok _, ⟨_, rfl⟩, q t ht⟩ (by omega)
  cases hd with
  | str y =>
    obtain ⟨t, rfl⟩ := r1
    have h1 := repr_le ok
    have e : costD (.str y) = 10 * y.length + 2 := by simp only [costD]
    exact pyReprObj_str (fin _ s1.heap _ _ (by omega) fun _ _ z => z) (by omega)
  | @lst a xs ds hs ha =>
    cases r1
    obtain ⟨its, rv, ⟨o, n, ho, hc, _, hdt⟩, _⟩ := I1.list hs
    have e : costD (.list ds) = costAll ds + 5 := by simp only [costD]
    obtain ⟨ns, en, hT⟩ := shows_all (prog := X.prog) (w := X.w) I1 ds _ its ha rv (by simpa only [okD] using ok) (by omega)
    have hdp' : PyData.depthAll ds + 1 ≤ 20 := by simpa only [PyData.depth] using hdp
    exact list_top ⟨o, n, ho, hc, hdt⟩ hT (by omega) (fun _ _ z => z) (by omega) fun t h' u tk ht hk => fin t h' u tk (by omega) hk
  | @tup a xs ds hs ha =>
    cases r1
    obtain ⟨its, rv, ⟨o, ho, hc, n, hdt⟩, _⟩ := I1.tuple hs
    have e : costD (.tuple ds) = costAll ds + 5 := by simp only [costD]
    obtain ⟨ns, en, hT⟩ := shows_all (prog := X.prog) (w := X.w) I1 ds _ its ha rv (by simpa only [okD] using ok) (by omega)
    have hdp' : PyData.depthAll ds + 1 ≤ 20 := by simpa only [PyData.depth] using hdp
    exact tup_top ⟨o, n, ho, hc, hdt⟩ hT (by omega) (fun _ _ z => z) (by omega) fun t h' u tk ht hk => fin t h' u tk (by omega) hk
  | non => simp [okD] at ok
  | bl b => simp [okD] at ok
  | int i => simp [okD] at ok
end
end Kr

/-! An own error as a value: made, asked for its class, its fields read. Texts times numbers. -/
namespace Ke
open PySem PySem.Spec PyProof.Rows L2 Kx Kr
theorem Same.tupS {K : PySem.W.Frag} {H H' : Hp} {a : Addr} {xs : List V} (e : Same H H') (h : SqT K H a xs) : SqT K H' a xs := by
  rcases h with (h | ⟨o, h⟩) | h
  · exact .inl (.inl (e _ _ h))
  · exact .inl (.inr ⟨o, e _ _ h⟩)
  · exact .inr h
mutual
theorem dp_same {K : PySem.W.Frag} {H H' : Hp} (e : Same H H') : ∀ (d : PyData) (v : V), Dp K H v d → Dp K H' v d
  | .none, _, h => by cases h; exact .non
  | .bool b, _, h => by cases h; exact .bl b
  | .int i, _, h => by cases h; exact .int i
  | .str x, _, h => by cases h; exact .str x
  | .list ds, _, h => by
    cases h with
    | lst hs ha => exact .lst (e.seq hs) (dpAll_same e ds _ ha)
  | .tuple ds, _, h => by
    cases h with
    | tup hs ha => exact .tup (Same.tupS e hs) (dpAll_same e ds _ ha)
  | .dict _, _, h => by cases h
theorem dpAll_same {K : PySem.W.Frag} {H H' : Hp} (e : Same H H') : ∀ (ds : List PyData) (vs : List V), DpAll K H vs ds → DpAll K H' vs ds
  | [], _, h => by cases h; exact .nil
  | d :: ds, _, h => by
    cases h with
    | cons h1 h2 => exact .cons (dp_same e d _ h1) (dpAll_same e ds _ h2)
end
mutual
theorem eqv_self : ∀ d : PyData, okD d = true → PyData.eqv d d = true
  | .str x, _ => by simp [PyData.eqv]
  | .list ds, h => by
    have h' : okAll ds = true := by simpa only [okD] using h
    have := eqvAll_self ds h'
    simpa [PyData.eqv] using this
  | .tuple ds, h => by
    have h' : okAll ds = true := by simpa only [okD] using h
    have := eqvAll_self ds h'
    simpa [PyData.eqv] using this
  | .none, h => by simp [okD] at h
  | .bool _, h => by simp [okD] at h
  | .int _, h => by simp [okD] at h
  | .dict _, h => by simp [okD] at h
theorem eqvAll_self : ∀ ds : List PyData, okAll ds = true → PyData.eqvAll ds ds = true
  | [], _ => by simp [PyData.eqvAll]
  | d :: ds, h => by
    have h' : (okD d && okAll ds) = true := by simpa only [okAll] using h
    obtain ⟨h1, h2⟩ := Bool.and_eq_true_iff.mp h'
    have e1 := eqv_self d h1
    have e2 := eqvAll_self ds h2
    simp [PyData.eqvAll, e1, e2]
end
/-! ### an error as a value -/
/-- an error of the class at C stands at a; its fields (at least) g -/
def ErrAt (C : Addr) (H : Hp) (a : Addr) (g : List (Str × V)) : Prop := (g = [] ∧ H a = some (exo a C none)) ∨ ∃ (d : Addr) (fs : List (Str × V)), H a = some (exo a C (some d)) ∧ H d = some (exd d fs) ∧ ∀ f v, g.lookup f = some v → fs.lookup f = some v
theorem ErrAt.same {C a : Addr} {H H' : Hp} {g : List (Str × V)} (h : ErrAt C H a g) (s : Same H H') : ErrAt C H' a g := by
  rcases h with ⟨e, h⟩ | ⟨d, fs, h1, h2, h3⟩
  · exact .inl ⟨e, s _ _ h⟩
  · exact .inr ⟨d, fs, s _ _ h1, s _ _ h2, h3⟩
/-- C.__init__ -/
def spErr (C : Addr) (cond : List V → Hp → Prop) (g : List V → List (Str × V)) : Sp := fun vs H Q _ => ∃ (a : Addr) (xs : List V), vs = .ref a :: xs ∧ cond xs H ∧ H a = some (exo a C none) ∧
  ∀ H', (∀ b o, H b = some o → b ≠ a → H' b = some o) → ErrAt C H' a (g xs) → Q .non H'
structure MkE (P : Program) (w : World) (K : PySem.W.Frag) (mg : Str → Option Value) (base : Heap) (x : Str) (C : Addr) (k : Nat) (ps : List Str) (cond : List V → Hp → Prop) (g : List V → List (Str × V)) : Prop where
  ex : ∃ (fI : Addr) (fd : FuncData), PySem.W.findIn K (.ref C) "__init__" = some (some (.ref fI)) ∧ PySem.W.typeIn K (.ref fI) = some (.type "function") ∧ FnOk P w K mg base CX0 k fI fd ps (spErr C cond g) ∧ Binds K fd ps []
  T : OexC K C
  g_ : mg x = some (.ref C)
section
variable {X : Cx} {x : Str} {C : Addr} {k : Nat} {ps : List Str} {cond : List V → Hp → Prop} {g : List V → List (Str × V)} {e : Expr} {es : List Expr} {ta : TA} {p pos : Pos}
theorem err_run {pins : List (Addr × Obj)} {σ : L2.St} {H1 : Hp} {s1 : Shared} {Q : VK} {vs : List V} {us : List Value} (M : MkE X.prog X.w X.K X.mg X.base x C k ps cond g) (hr : Room (k + 1) X.A) (I1 : Inv X pins σ H1 s1) (r1 : Vals vs us)
    (hz : vs.length ≤ 1000) (hc : ∀ H', Same H1 H' → cond vs H') (q : ∀ a H2, Same H1 H2 → ErrAt C H2 a (g vs) → Q (.ref a) H2) : wpAny (model X.prog X.w) X.A (call (.ref C) us) (EP X pins σ Q) X.xe s1 := by
  obtain ⟨fI, fd, iC, tI, F1, hb⟩ := M.ex
  obtain ⟨nm, qn, N, bs, bm, sn, sub, ab, col, dd, k0, k1, k2, k3, k5, hC, hbm⟩ := M.T.cls
  obtain ⟨hp, gs, dr, tk, os⟩ := s1
  have hsz : hp.objs.size ≤ hp.objs.size + 1 := Nat.le_succ _
  have hn : H1 (hp.objs.size + 1) = none := I1.hok.fresh hsz
  have kk : ∀ b o, hp.get? b = some o → ((hp.push (PySem.W.kdv_tup us)).push (PySem.HandSPX.excO C hp.objs.size)).get? b = some o := fun b o e => Heap.get?_push_of_some _ (Heap.get?_push_of_some _ e)
  have hget : ((hp.push (PySem.W.kdv_tup us)).push (PySem.HandSPX.excO C hp.objs.size)).get? (hp.objs.size + 1) = some (PySem.HandSPX.excO C hp.objs.size) := by heap_get
  have I2 : Inv X pins σ (upd H1 (hp.objs.size + 1) (exo (hp.objs.size + 1) C none)) ⟨(hp.push (PySem.W.kdv_tup us)).push (PySem.HandSPX.excO C hp.objs.size), gs, dr, tk, os⟩ :=
    I1.laid (t' := tk) (a := hp.objs.size + 1) (o := exo (hp.objs.size + 1) C none) (h' := (hp.push (PySem.W.kdv_tup us)).push (PySem.HandSPX.excO C hp.objs.size)) kk hsz (exo_ok hget)
  have hq : spErr C cond g (.ref (hp.objs.size + 1) :: vs) (upd H1 (hp.objs.size + 1) (exo (hp.objs.size + 1) C none)) (fun v H2 => v = .non ∧ Q (.ref (hp.objs.size + 1)) H2) (fun _ _ _ => False) :=
    ⟨_, vs, rfl, hc _ (same_upd hn), upd_same, fun H' hk he => ⟨rfl, q _ H' (fun b o hb => hk b o (by rw [upd_ne (ne_of_none hb hn)]; exact hb) (ne_of_none hb hn)) he⟩⟩
  have r2 : Vals (V.ref (hp.objs.size + 1) :: vs) (Value.ref (hp.objs.size + 1) :: us) := .cons rfl r1
  have hl : (Value.ref (hp.objs.size + 1) :: us ++ []).length = ps.length := by
    rw [List.append_nil]
    have e := r2.length
    rw [F1.len _ _ _ _ hq] at e
    exact e.symm
  have bind := hb _ (Value.ref (hp.objs.size + 1) :: us) I2.kIn hl
  rw [List.append_nil] at bind
  have hus : us.length ≤ sizeLine := by
    rw [← Paired.length r1, sizeLine_eq]
    omega
  refine wpAny_call (PySem.HandSPX.call_own F.excBase_ValueError (fun Y => PySem.HandSPX.refsVE_contains Y bm hbm) (I1.kIn _ _ hC) (PySem.W.looks_findIn I1.kIn iC) (fun self => PySem.W.bind_fn I1.kIn self tI) hus
    (codeAny_mono (F1.run _ X.stack _ _ ⟨Value.ref (hp.objs.size + 1) :: us, []⟩ (Value.ref (hp.objs.size + 1) :: us) _ _ (fun _ _ _ => False) (hr.make C us []) (I2.env0.make C us []) bind r2 hq) fun r s' hq' => ?_))
  cases r with
  | error er => exact pass0 pins σ _ _ er s' I2 hq'
  | ok fl =>
    cases fl with
    | ret u =>
      obtain ⟨v, H', J', rv, ev, q3⟩ := I2.after hq'
      subst ev
      exact ⟨rv, ⟨V.ref (hp.objs.size + 1), H', J', rfl, q3⟩⟩
    | next => exact False.elim hq'
    | brk => exact False.elim hq'
    | cont => exact False.elim hq'
def tErr (C : Addr) (cond : List V → Hp → Prop) (g : List V → List (Str × V)) (ta : TA) : TE := fun σ H Q => ta σ H fun vs H1 => vs.length ≤ 1000 ∧ (∀ H', Same H1 H' → cond vs H') ∧ ∀ a H2, Same H1 H2 → ErrAt C H2 a (g vs) → Q (.ref a) H2
theorem pe_err (M : MkE X.prog X.w X.K X.mg X.base x C k ps cond g) (hr : Room (k + 1) X.A) (hg : Gl X x) (ha : PA X (e :: es) ta) (hdb : (x == ("__debug__" : Str)) = false := by decide)
    (he : starEach (e :: es) X.env = (false, eval e X.env) :: starEach es X.env := by rfl) (hpl : (backTo pos (starEach es X.env)).any (·.1) = false := by rfl) : PE X (.Call (.Name x p) (e :: es) [] pos) (tErr C cond g ta) := by
  refine ⟨fun pins s σ H Q I h => ?_⟩
  refine wpAny_Call_Name_kw (ld_glob I hg M.g_ ?_ hdb)
  refine PySem.W.callWith_K (h₀ := X.base) I.ok.mod.kin M.T.kC (thn (ha.run pos pins s σ H _ I h) fun us s1 ⟨vs, H1, I1, r1, hz, hc, q⟩ => ⟨I1.kIn, ?_⟩) he hpl
  exact err_run M hr I1 r1 hz hc q
theorem pe_err0 (M : MkE X.prog X.w X.K X.mg X.base x C k ps cond g) (hr : Room (k + 1) X.A) (hg : Gl X x) (hdb : (x == ("__debug__" : Str)) = false := by decide) : PE X (.Call (.Name x p) [] [] pos) (tErr C cond g tNil) := by
  refine ⟨fun pins s σ H Q I h => ?_⟩
  refine wpAny_Call_Name_kw (ld_glob I hg M.g_ ?_ hdb)
  obtain ⟨hz, hc, q⟩ := h
  exact PySem.W.callWith_K0 I.kIn M.T.kC (err_run M hr I .nil hz hc q)
/-- isinstance(e, c), e an error of the class at C -/
def rIsO (K : PySem.W.Frag) (C : Addr) : List V → Hp → VK → Prop := fun xs H Q => ∃ (a : Addr) (g : List (Str × V)) (c : V) (cv : Value) (b : Bool), xs = [.ref a, c] ∧ ErrAt C H a g ∧ (∀ u, RelV c u → u = cv) ∧ PySem.W.kitOne K (.ref C) cv = some b ∧ Q (.bl b) H
theorem err_inst {C a : Addr} {H : Hp} {g : List (Str × V)} {pins : List (Addr × Obj)} {σ : L2.St} {s : Shared} (I : Inv X pins σ H s) (h : ErrAt C H a g) : ∃ oe od, PySem.W.InstAt s.heap a oe C od ∧ ∃ vs, oe.data = .fields vs := by
  rcases h with ⟨_, h⟩ | ⟨d, fs, h1, h2, _⟩
  · obtain ⟨t1, ho⟩ := exo_at I.hok h
    exact ⟨_, none, ⟨ho, rfl, rfl, trivial⟩, _, rfl⟩
  · obtain ⟨t1, ho⟩ := exo_at I.hok h1
    obtain ⟨mA, hns, rel⟩ := exd_at I.hok h2
    obtain ⟨od, hod, _⟩ := lookIn_ns hns
    exact ⟨_, some od, ⟨ho, rfl, rfl, hod⟩, _, rfl⟩
theorem call_isO (D : ExcC X.K C) : CallR X (.builtin "isinstance") (rIsO X.K C) := by
  intro pins s σ H xs us Q I r h
  obtain ⟨a, g, c, cv, b, rfl, he, hcv, e, q⟩ := h
  cases r with
  | cons rx rr =>
    cases rr with
    | cons rt rr =>
      cases rr
      cases rx
      have ec := hcv _ rt
      subst ec
      obtain ⟨oe, od, J, _⟩ := err_inst I he
      have hcl : (PySem.W.clsIn X.K C).isSome = true := by
        obtain ⟨cd, hc, _⟩ := PySem.W.any_some D.hd
        rw [hc]; rfl
      exact PySem.W.kia_one (PySem.W.kitx_exc hcl D.hg D.hk D.hs D.ha D.hn D.ht D.hm) I.kIn J e (fun z => nomatch z) fun tk => ⟨.bl b, H, I.kept (t' := tk) fun _ _ z => z, rfl, q⟩
/-- e.f -/
def tEf (K : PySem.W.Frag) (f : Str) (te : TE) : TE := fun σ H Q => te σ H fun x H1 => ∃ (a C : Addr) (g : List (Str × V)) (v : V), x = .ref a ∧ ErrAt C H1 a g ∧ XfC K C ∧ PySem.W.findIn K (.ref C) f = some none ∧ g.lookup f = some v ∧ Q v H1
theorem pe_ef {f : Str} {te : TE} (he : PE X e te) (hb : attributeBase e f X.env (eval e X.env) = eval e X.env := by rfl) : PE X (.Attribute e f pos) (tEf X.K f te) := by
  refine ⟨fun pins s σ H Q I h => ?_⟩
  refine attr_of hb (thn (he.run pins s σ H _ I h) fun u s1 hh => ?_)
  obtain ⟨x, H1, I1, rx, a, C, g, v, rfl, hE, T, hno, l, q⟩ := hh
  obtain rfl : u = Value.ref a := rx
  rcases hE with ⟨rfl, _⟩ | ⟨d, fs, h1, h2, h3⟩
  · cases l
  · obtain ⟨t1, ho⟩ := exo_at I1.hok h1
    obtain ⟨mA, hns, rel⟩ := exd_at I1.hok h2
    obtain ⟨od, hod, hl⟩ := lookIn_ns hns
    have hv := h3 f v l
    obtain ⟨u, hu, ru⟩ := RelO.some_of (v := v) (o := mA f) (by rw [← hv]; exact rel f)
    exact PySem.HandSPX.exc_get I1.kIn (od := some od) (x := a) ⟨ho, rfl, rfl, hod⟩ T.ga T.gg T.exC (PySem.W.findObj_own T.hdC hno rfl (by rw [hl, hu])) (handed_of ru) ⟨v, H1, I1.tok _, ru, q⟩
end
end Ke

namespace Ke
open PySem PySem.Spec PyProof.Rows L2 Kx Kr
/-- a text of few and plain signs -/
def Sht (z : Str) (n : Nat) : Prop := z.length ≤ n ∧ ∀ c ∈ z.cps.toList, c < 1114112
theorem Sht.le {z : Str} {n m : Nat} (h : Sht z n) (hn : n ≤ m) : Sht z m := ⟨Nat.le_trans h.1 hn, h.2⟩
theorem Sht.app {y z : Str} {n m : Nat} (h : Sht y n) (h' : Sht z m) : Sht (y ++ z) (n + m) := by
  refine ⟨?_, fun c hc => ?_⟩
  · have e : (y ++ z).length = y.length + z.length := Array.size_append
    rw [e]
    exact Nat.add_le_add h.1 h'.1
  · have hc' : c ∈ (y.cps ++ z.cps).toList := hc
    rw [Array.toList_append, List.mem_append] at hc'
    exact hc'.elim (h.2 c) (h'.2 c)
theorem Sht.sz {z : Str} {n : Nat} (h : Sht z n) (hn : n ≤ 100000) : z.length ≤ sizeLine := sz9 (Nat.le_trans h.1 hn)
theorem sht_of {z : Str} {n : Nat} (h1 : z.length ≤ n) (h2 : okD (.str z) = true) : Sht z n := by
  refine ⟨h1, fun c hc => ?_⟩
  have h' : z.cps.toList.all (fun c => decide (c < 1114112)) = true := by simpa only [okD] using h2
  exact of_decide_eq_true (List.all_eq_true.mp h' c hc)
theorem Sht.ok {z : Str} {n : Nat} (h : Sht z n) : okD (.str z) = true := by
  have h' : z.cps.toList.all (fun c => decide (c < 1114112)) = true := List.all_eq_true.mpr fun c hc => decide_eq_true (h.2 c hc)
  simpa only [okD] using h'
theorem rep_fold (x : Array Nat) : ∀ (n : Nat) (acc : Array Nat), ((List.replicate n x).foldl (· ++ ·) acc).size = acc.size + n * x.size ∧ ∀ c ∈ ((List.replicate n x).foldl (· ++ ·) acc).toList, c ∈ acc.toList ∨ c ∈ x.toList
  | 0, acc => ⟨by simp, fun c hc => .inl hc⟩
  | n + 1, acc => by
    rw [List.replicate_succ, List.foldl_cons]
    obtain ⟨h1, h2⟩ := rep_fold x n (acc ++ x)
    refine ⟨?_, fun c hc => ?_⟩
    · rw [h1, Array.size_append, Nat.succ_mul]
      omega
    · rcases h2 c hc with h | h
      · rw [Array.toList_append, List.mem_append] at h
        exact h
      · exact .inr h
/-- a text of one sign times a small number -/
def rRepS : R2 := fun x y H Q => ∃ (z : Str) (n : Int), x = .str z ∧ y = .int n ∧ z.length = 1 ∧ (∀ c ∈ z.cps.toList, c < 1114112) ∧ -1000 ≤ n ∧ n ≤ 1000 ∧ ∀ t : Str, Sht t n.toNat → Q (.str t) H
section
variable {X : Cx}
theorem op_repS : OpR X (binaryOp .Mult) rRepS := by
  intro pins s σ H x y v u Q I rx ry h
  obtain ⟨z, n, rfl, rfl, hz, hc, h1, h2, q⟩ := h
  obtain ⟨t, rfl⟩ := rx
  obtain ⟨t', rfl⟩ := ry
  have en : ((n.toNat : Nat) : Int) = n ∨ n < 0 := by omega
  refine PySem.P.mul_str (by rw [decide_eq_false (by omega), decide_eq_false (by omega)]; rfl) (fun hn _ => ?_) (fun hn _ => ?_) ?_
  · have hd : 1 ≤ (2 ^ 63 - 1 : Int) / n := by
      rw [Int.le_ediv_iff_mul_le (by omega)]
      omega
    rw [hz]
    have : ((1 : Nat) : Int) = 1 := rfl
    omega
  · rw [hz]
    exact decide_eq_false (Nat.not_lt.mpr (sz9 (by omega)))
  · by_cases hn : n < 1
    · rw [if_pos hn]
      refine ⟨by decide, .str Str.empty, H, I.tok _, ⟨_, rfl⟩, q _ ⟨Nat.zero_le _, ?_⟩⟩
      show ∀ c ∈ (Str.empty).cps.toList, c < 1114112
      decide +kernel
    · rw [if_neg hn]
      split
      · rename_i h1'
        exact ⟨.str z, H, I, ⟨t, rfl⟩, q _ ⟨by omega, hc⟩⟩
      · obtain ⟨e1, e2⟩ := rep_fold z.cps n.toNat #[]
        have hz' : z.cps.size = 1 := hz
        rw [hz'] at e1
        have e1' : ((List.replicate n.toNat z.cps).foldl (· ++ ·) #[]).size = n.toNat := by
          rw [e1]
          simp
        refine ⟨?_, .str _, H, I.tok _, ⟨_, rfl⟩, q _ ⟨Nat.le_of_eq e1', fun c hm => ?_⟩⟩
        · have hh : ((List.replicate n.toNat z.cps).foldl (· ++ ·) #[]).size ≤ sizeLine := by
            rw [e1']
            exact sz9 (by omega)
          exact hh
        · rcases e2 c hm with h | h
          · simp at h
          · exact hc c h
end
end Ke

/-! names by number, exactly; data of texts and of pairs of texts -/
namespace Kn
open PySem PySem.Spec PyProof.Rows L2 Kx Ke Kr
def repT (c n : Nat) : Str := ⟨(List.replicate n c).toArray⟩
theorem rep_foldl (c : Nat) : ∀ (n : Nat) (acc : Array Nat), (List.replicate n #[c]).foldl (· ++ ·) acc = acc ++ (List.replicate n c).toArray
  | 0, acc => by simp
  | n + 1, acc => by
    rw [List.replicate_succ, List.foldl_cons, rep_foldl c n, List.replicate_succ]
    apply Array.toList_inj.mp
    simp
/-- one sign times a number, exactly -/
def rRepE : R2 := fun x y H Q => ∃ (z : Str) (c : Nat) (n : Int), x = .str z ∧ y = .int n ∧ z.cps = #[c] ∧ -1000 ≤ n ∧ n ≤ 1000 ∧ Q (.str (repT c n.toNat)) H
theorem op_repE {X : Cx} : OpR X (binaryOp .Mult) rRepE := by
  intro pins s σ H x y v u Q I rx ry h
  obtain ⟨z, c, n, rfl, rfl, hz, h1, h2, q⟩ := h
  obtain ⟨t, rfl⟩ := rx
  obtain ⟨t', rfl⟩ := ry
  have hl : z.length = 1 := by show z.cps.size = 1; rw [hz]; rfl
  have hzE : z = ⟨#[c]⟩ := by cases z; cases hz; rfl
  refine PySem.P.mul_str (by rw [decide_eq_false (by omega), decide_eq_false (by omega)]; rfl) (fun hn _ => ?_) (fun hn _ => ?_) ?_
  · have hd : 1 ≤ (2 ^ 63 - 1 : Int) / n := by
      rw [Int.le_ediv_iff_mul_le (by omega)]
      omega
    rw [hl]
    have : ((1 : Nat) : Int) = 1 := rfl
    omega
  · rw [hl]
    exact decide_eq_false (Nat.not_lt.mpr (sz9 (by omega)))
  · by_cases hn : n < 1
    · rw [if_pos hn]
      have e : n.toNat = 0 := by omega
      rw [e] at q
      exact ⟨by decide, .str Str.empty, H, I.tok _, ⟨_, rfl⟩, q⟩
    · rw [if_neg hn]
      split
      · rename_i h1'
        have e : n = 1 := by
          rcases Bool.or_eq_true_iff.mp h1' with h | h
          · exact beq_iff_eq.mp h
          · exact absurd (beq_iff_eq.mp h) (by omega)
        subst e
        rw [hzE]
        exact ⟨.str ⟨#[c]⟩, H, I, ⟨t, rfl⟩, q⟩
      · have e : (⟨(List.replicate n.toNat z.cps).foldl (· ++ ·) #[]⟩ : Str) = repT c n.toNat := by
          rw [hz, rep_foldl]
          unfold repT
          simp
        rw [e]
        refine ⟨?_, .str _, H, I.tok _, ⟨_, rfl⟩, q⟩
        show (List.replicate n.toNat c).toArray.size ≤ sizeLine
        rw [List.size_toArray, List.length_replicate]
        exact sz9 (by omega)
/-! ### the names -/
def A26 : Str := "abcdefghijklmnopqrstuvwxyz"
def oneV (k st : Int) : Nat := A26.cps.toList.getD ((k * 7 + st / 4) % 26).toNat 0
def WS : List Str := ["write", "none", "read", "own", "close", "leads", "program", "to", "begin", "quit"]
def tS (n : Int) : Str := ((toString n : String) : Str)
def baseV (k st : Int) : Str := (⟨#[oneV k st]⟩ : Str) ++ tS (st / 4 % 10000)
def nameV (k st : Int) : Str :=
  if st % 4 = 1 ∧ st / 4 % 2 = 1 then WS.getD (k % 10).toNat "" ++ repT 50 (k / 10).toNat
  else if st % 4 = 3 ∧ st / 4 % 2 = 1 then repT 98 (k / 7).toNat ++ repT 97 (k % 7 + 1).toNat
  else if st % 4 = 1 then repT 113 (k % 3).toNat ++ ⟨#[oneV k st]⟩
  else if st % 4 = 2 then (if k % 4 = 3 then baseV k st ++ repT 120 (8 - ((baseV k st).length : Int)).toNat else baseV k st ++ repT 120 (k % 4).toNat)
  else if st % 4 = 3 then ("m" : Str) ++ tS (100 - 7 * k)
  else ⟨#[oneV k st]⟩
theorem a26_len : A26.cps.toList.length = 26 := by decide +kernel
theorem a26_nd : A26.cps.toList.Nodup := by decide +kernel
theorem a26_lt : ∀ c ∈ A26.cps.toList, c < 1114112 := by decide +kernel
theorem at_26 (k st : Int) : atI A26.cps.toList ((k * 7 + st / 4) % 26) = some (oneV k st) := by
  obtain ⟨j, hj⟩ : ∃ j : Nat, (k * 7 + st / 4) % 26 = (j : Int) := ⟨((k * 7 + st / 4) % 26).toNat, by omega⟩
  have hl : j < A26.cps.toList.length := by rw [a26_len]; omega
  unfold oneV
  rw [hj, Int.toNat_natCast]
  refine atI_nat ?_
  rw [List.getD_eq_getElem?_getD, List.getElem?_eq_getElem hl]
  rfl
theorem nd_inj {l : List Nat} (h : l.Nodup) {i j : Nat} (hi : i < l.length) (hj : j < l.length) (e : l[i] = l[j]) : i = j := by
  rcases Nat.lt_trichotomy i j with g | g | g
  · exact absurd e (List.pairwise_iff_getElem.mp h i j hi hj g)
  · exact g
  · exact absurd e.symm (List.pairwise_iff_getElem.mp h j i hj hi g)
theorem one_inj {k k' st : Int} (h0 : 0 ≤ k) (h1 : k < 16) (h0' : 0 ≤ k') (h1' : k' < 16) (h : oneV k st = oneV k' st) : k = k' := by
  have hl : ((k * 7 + st / 4) % 26).toNat < A26.cps.toList.length := by rw [a26_len]; omega
  have hl' : ((k' * 7 + st / 4) % 26).toNat < A26.cps.toList.length := by rw [a26_len]; omega
  unfold oneV at h
  rw [List.getD_eq_getElem?_getD, List.getD_eq_getElem?_getD, List.getElem?_eq_getElem hl, List.getElem?_eq_getElem hl'] at h
  have e := nd_inj a26_nd hl hl' h
  omega
theorem one_lt (k st : Int) : oneV k st < 1114112 := by
  have hl : ((k * 7 + st / 4) % 26).toNat < A26.cps.toList.length := by rw [a26_len]; omega
  unfold oneV
  rw [List.getD_eq_getElem?_getD, List.getElem?_eq_getElem hl]
  exact a26_lt _ (List.getElem_mem hl)
theorem app_cps (a b : Str) : (a ++ b).cps.toList = a.cps.toList ++ b.cps.toList := by
  show (a.cps ++ b.cps).toList = _
  rw [Array.toList_append]
theorem rep_cps (c n : Nat) : (repT c n).cps.toList = List.replicate n c := by
  unfold repT
  simp
theorem str_ext {a b : Str} (h : a.cps.toList = b.cps.toList) : a = b := by
  cases a
  cases b
  have := Array.toList_inj.mp h
  simp at this
  rw [this]
theorem digits_dig (n : Nat) : ∀ d ∈ Nat.toDigits 10 n, d.isDigit = true := fun d hd => Nat.isDigit_of_mem_toDigits (by decide) (by decide) hd
theorem tS_nat (n : Nat) : (tS (n : Int)).cps.toList = (Nat.toDigits 10 n).map Char.toNat := by
  have e : tS (n : Int) = ⟨((Nat.toDigits 10 n).map Char.toNat).toArray⟩ := text_ofNat n
  rw [e]
/-- the first sign of a number is a digit -/
theorem tS_head (n : Nat) : ∃ c r, (tS (n : Int)).cps.toList = c :: r ∧ 48 ≤ c ∧ c ≤ 57 := by
  rw [tS_nat]
  cases h : Nat.toDigits 10 n with
  | nil =>
    have := Nat.length_toDigits_pos (b := 10) (n := n)
    rw [h] at this
    simp at this
  | cons d r =>
    refine ⟨d.toNat, r.map Char.toNat, rfl, ?_⟩
    have hd := digits_dig n d (by rw [h]; exact List.mem_cons_self)
    simp only [Char.isDigit, Bool.and_eq_true, decide_eq_true_eq] at hd
    obtain ⟨a, b⟩ := hd
    exact ⟨a, b⟩
theorem tS_sht {n : Nat} (h : n < 10 ^ 10) : Sht (tS (n : Int)) 10 := by
  refine ⟨?_, fun c hc => ?_⟩
  · show (tS (n : Int)).cps.size ≤ 10
    rw [← Array.length_toList, tS_nat, List.length_map]
    exact digits10_le (by decide) h
  · rw [tS_nat] at hc
    obtain ⟨d, _, rfl⟩ := List.mem_map.mp hc
    have h2 : d.val.toNat < 0xd800 ∨ (0xdfff < d.val.toNat ∧ d.val.toNat < 0x110000) := d.valid
    show d.val.toNat < 1114112
    omega
/-- finite kinds -/
def ws10 (k : Nat) : Str := WS.getD (k % 10) "" ++ repT 50 (k / 10)
def ba (k : Nat) : Str := repT 98 (k / 7) ++ repT 97 (k % 7 + 1)
def m7 (k : Nat) : Str := ("m" : Str) ++ tS (100 - 7 * (k : Int))
def finB (f : Nat → Str) : Bool := (List.range 16).all fun a => decide ((f a).length ≤ 12) && decide (f a ≠ "zz9") && ((f a).cps.toList.all fun c => decide (c < 1114112)) && (List.range 16).all fun b => decide (f a = f b → a = b)
theorem fin_ws : finB ws10 = true := by decide +kernel
theorem fin_ba : finB ba = true := by decide +kernel
theorem fin_m7 : finB m7 = true := by decide +kernel
theorem fin_of {f : Nat → Str} (h : finB f = true) {a : Nat} (ha : a < 16) : Sht (f a) 12 ∧ f a ≠ "zz9" ∧ ∀ b, b < 16 → f a = f b → a = b := by
  have h1 := List.all_eq_true.mp h a (List.mem_range.mpr ha)
  simp only [Bool.and_eq_true] at h1
  obtain ⟨⟨⟨a1, a2⟩, a3⟩, a4⟩ := h1
  exact ⟨⟨of_decide_eq_true a1, fun c hc => of_decide_eq_true (List.all_eq_true.mp a3 c hc)⟩, of_decide_eq_true a2, fun b hb => of_decide_eq_true (List.all_eq_true.mp a4 b (List.mem_range.mpr hb))⟩
theorem sht_rep {c n : Nat} (h : c < 1114112) : Sht (repT c n) n := by
  refine ⟨?_, fun d hd => ?_⟩
  · show (repT c n).cps.size ≤ n
    rw [← Array.length_toList, rep_cps, List.length_replicate]
    exact Nat.le_refl _
  · rw [rep_cps] at hd
    rw [(List.mem_replicate.mp hd).2]
    exact h
theorem sht_one (k st : Int) : Sht (⟨#[oneV k st]⟩ : Str) 1 := ⟨Nat.le_refl _, fun d hd => by
  have e : d = oneV k st := by simpa using hd
  rw [e]
  exact one_lt k st⟩
theorem base_len (k st : Int) : Sht (baseV k st) 11 := by
  unfold baseV
  obtain ⟨m, hm⟩ : ∃ m : Nat, st / 4 % 10000 = (m : Int) := ⟨(st / 4 % 10000).toNat, by omega⟩
  rw [hm]
  exact (sht_one k st).app (tS_sht (n := m) (by omega))
theorem zz9 : ("zz9" : Str).cps.toList = [122, 122, 57] := by decide +kernel
theorem name_facts {k st : Int} (h0 : 0 ≤ k) (h1 : k < 16) : Sht (nameV k st) 20 ∧ nameV k st ≠ "zz9" ∧ ∀ k', 0 ≤ k' → k' < 16 → nameV k st = nameV k' st → k = k' := by
  obtain ⟨a, rfl⟩ : ∃ a : Nat, k = (a : Int) := ⟨k.toNat, by omega⟩
  have ha : a < 16 := by omega
  unfold nameV
  by_cases c1 : st % 4 = 1 ∧ st / 4 % 2 = 1
  · rw [if_pos c1]
    obtain ⟨f1, f2, f3⟩ := fin_of fin_ws ha
    have e : ∀ b : Nat, WS.getD ((b : Int) % 10).toNat "" ++ repT 50 ((b : Int) / 10).toNat = ws10 b := fun b => by
      unfold ws10
      rw [show ((b : Int) % 10).toNat = b % 10 by omega, show ((b : Int) / 10).toNat = b / 10 by omega]
    rw [e]
    refine ⟨f1.le (by decide), f2, fun k' g0 g1 h => ?_⟩
    obtain ⟨b, rfl⟩ : ∃ b : Nat, k' = (b : Int) := ⟨k'.toNat, by omega⟩
    rw [if_pos c1, e] at h
    have := f3 b (by omega) h
    omega
  rw [if_neg c1]
  by_cases c2 : st % 4 = 3 ∧ st / 4 % 2 = 1
  · rw [if_pos c2]
    obtain ⟨f1, f2, f3⟩ := fin_of fin_ba ha
    have e : ∀ b : Nat, repT 98 ((b : Int) / 7).toNat ++ repT 97 ((b : Int) % 7 + 1).toNat = ba b := fun b => by
      unfold ba
      rw [show ((b : Int) / 7).toNat = b / 7 by omega, show ((b : Int) % 7 + 1).toNat = b % 7 + 1 by omega]
    rw [e]
    refine ⟨f1.le (by decide), f2, fun k' g0 g1 h => ?_⟩
    obtain ⟨b, rfl⟩ : ∃ b : Nat, k' = (b : Int) := ⟨k'.toNat, by omega⟩
    rw [if_neg c1, if_pos c2, e] at h
    have := f3 b (by omega) h
    omega
  rw [if_neg c2]
  by_cases c3 : st % 4 = 1
  · rw [if_pos c3]
    have lt3 : ((a : Int) % 3).toNat ≤ 2 := by omega
    refine ⟨((sht_rep (by decide)).app (sht_one _ _)).le (by omega), fun h => ?_, fun k' g0 g1 h => ?_⟩
    · have h2 := congrArg (fun z : Str => z.cps.toList) h
      simp only [app_cps, rep_cps, zz9] at h2
      match ha3 : ((a : Int) % 3).toNat, lt3 with
      | 0, _ => rw [ha3] at h2; simp at h2
      | 1, _ => rw [ha3] at h2; simp at h2
      | 2, _ => rw [ha3] at h2; simp [List.replicate] at h2
    · rw [if_neg c1, if_neg c2, if_pos c3] at h
      have h2 := congrArg (fun z : Str => z.cps.toList.getLast?) h
      simp only [app_cps] at h2
      have h3 : oneV (a : Int) st = oneV k' st := by simpa using h2
      exact one_inj h0 h1 g0 g1 h3
  rw [if_neg c3]
  by_cases c4 : st % 4 = 2
  · rw [if_pos c4]
    have hb := base_len (a : Int) st
    have hd : ∀ b : Int, (baseV b st).cps.toList.head? = some (oneV b st) := fun b => by
      unfold baseV
      rw [app_cps]
      rfl
    have hz : ∀ x : Str, baseV (a : Int) st ++ x ≠ "zz9" := fun x h => by
      have h2 := congrArg (fun z : Str => z.cps.toList) h
      obtain ⟨m, hm⟩ : ∃ m : Nat, st / 4 % 10000 = (m : Int) := ⟨(st / 4 % 10000).toNat, by omega⟩
      obtain ⟨c, r, e, g1, g2⟩ := tS_head m
      simp only [baseV, app_cps, zz9, hm, e] at h2
      have h3 : c = 122 := by
        simp only [List.cons_append, List.nil_append] at h2
        injection h2 with _ h2
        injection h2 with h2 _
      omega
    have hi : ∀ (k' : Int) (x y : Str), 0 ≤ k' → k' < 16 → baseV (a : Int) st ++ x = baseV k' st ++ y → (a : Int) = k' := fun k' x y g0 g1 h => by
      have h2 := congrArg (fun z : Str => z.cps.toList.head?) h
      simp only [app_cps, List.head?_append, hd] at h2
      exact one_inj h0 h1 g0 g1 (by simpa using h2)
    refine ⟨?_, ?_, fun k' g0 g1 h => ?_⟩
    · split
      · exact (hb.app (sht_rep (c := 120) (by decide))).le (by omega)
      · exact (hb.app (sht_rep (c := 120) (by decide))).le (by omega)
    · split <;> exact hz _
    · rw [if_neg c1, if_neg c2, if_neg c3, if_pos c4] at h
      split at h <;> split at h <;> exact hi _ _ _ g0 g1 h
  rw [if_neg c4]
  by_cases c5 : st % 4 = 3
  · rw [if_pos c5]
    obtain ⟨f1, f2, f3⟩ := fin_of fin_m7 ha
    refine ⟨f1.le (by decide), f2, fun k' g0 g1 h => ?_⟩
    obtain ⟨b, rfl⟩ : ∃ b : Nat, k' = (b : Int) := ⟨k'.toNat, by omega⟩
    rw [if_neg c1, if_neg c2, if_neg c3, if_neg c4, if_pos c5] at h
    have := f3 b (by omega) h
    omega
  · rw [if_neg c5]
    refine ⟨(sht_one _ _).le (by decide), fun h => ?_, fun k' g0 g1 h => ?_⟩
    · have h2 := congrArg (fun z : Str => z.cps.toList) h
      rw [zz9] at h2
      simp at h2
    · rw [if_neg c1, if_neg c2, if_neg c3, if_neg c4, if_neg c5] at h
      have h2 := congrArg (fun z : Str => z.cps.toList) h
      exact one_inj h0 h1 g0 g1 (by simpa using h2)
/-! ### data -/
def tD (zs : List Str) : List PyData := zs.map PyData.str
def kPr (p : Str × Str) : PyData := .tuple [.str p.1, .str p.2]
theorem str_ok {z : Str} {n : Nat} (h : Sht z n) : PyData.strOk z = true := by
  unfold PyData.strOk
  rw [Array.all_eq_true']
  intro c hc
  exact decide_eq_true (h.2 c (by simpa using hc))
theorem eqv_txt (a b : Str) : PyData.eqv (.str a) (.str b) = decide (a = b) := by
  simp only [PyData.eqv]
  by_cases h : a = b
  · rw [h, decide_eq_true rfl]; exact beq_self_eq_true b
  · rw [decide_eq_false h]; exact beq_eq_false_iff_ne.mpr h
theorem eqv_txts : ∀ xs ys : List Str, PyData.eqvAll (tD xs) (tD ys) = decide (xs = ys)
  | [], [] => by simp [tD, PyData.eqvAll]
  | [], y :: ys => by simp [tD, PyData.eqvAll]
  | x :: xs, [] => by simp [tD, PyData.eqvAll]
  | x :: xs, y :: ys => by
    have h := eqv_txts xs ys
    simp only [tD] at h
    simp only [tD, List.map_cons, PyData.eqvAll, h, eqv_txt, List.cons.injEq, Bool.decide_and]
theorem eqv_pr (p q : Str × Str) : PyData.eqv (kPr p) (kPr q) = decide (p = q) := by
  simp only [kPr, PyData.eqv, PyData.eqvAll, Bool.and_true]
  have h1 := eqv_txt p.1 q.1
  have h2 := eqv_txt p.2 q.2
  simp only [PyData.eqv] at h1 h2
  rw [h1, h2, ← Bool.decide_and]
  exact decide_eq_decide.mpr (Prod.ext_iff.symm)
theorem eqv_prs : ∀ xs ys : List (Str × Str), PyData.eqvAll (xs.map kPr) (ys.map kPr) = decide (xs = ys)
  | [], [] => by simp [PyData.eqvAll]
  | [], y :: ys => by simp [PyData.eqvAll]
  | x :: xs, [] => by simp [PyData.eqvAll]
  | x :: xs, y :: ys => by simp only [List.map_cons, PyData.eqvAll, eqv_prs xs ys, eqv_pr, List.cons.injEq, Bool.decide_and]
theorem any_pr (xs : List (Str × Str)) (p : Str × Str) : ((xs.map kPr).any fun z => PyData.eqv z (kPr p)) = decide (p ∈ xs) := by
  rw [Bool.eq_iff_iff, List.any_map, List.any_eq_true, decide_eq_true_iff]
  constructor
  · rintro ⟨y, hy, e⟩
    simp only [Function.comp_apply, eqv_pr, decide_eq_true_eq] at e
    exact e ▸ hy
  · intro h
    exact ⟨p, h, by simp only [Function.comp_apply, eqv_pr, decide_true]⟩
theorem lay_txts : ∀ {xs : List Str} {n : Nat}, (∀ x ∈ xs, Sht x n) → PyData.canLayAll0 (tD xs) = true
  | [], _, _ => rfl
  | x :: xs, n, h => by
    have := lay_txts (xs := xs) (n := n) fun y hy => h y (List.mem_cons_of_mem _ hy)
    simp only [tD] at this
    simp only [tD, List.map_cons, PyData.canLayAll0, PyData.canLay0, str_ok (h x List.mem_cons_self), this]
    decide
theorem dep_txts : ∀ xs : List Str, PyData.depthAll (tD xs) = 0
  | [] => rfl
  | x :: xs => by
    have := dep_txts xs
    simp only [tD] at this
    simp only [tD, List.map_cons, PyData.depthAll, PyData.depth, this, Nat.max_self]
theorem shp_txts {xs : List Str} {n : Nat} (h : ∀ x ∈ xs, Sht x n) : SeqAt.shaped (.list (tD xs)) = true := by
  unfold SeqAt.shaped
  simp only [PyData.canLay0, PyData.depth, lay_txts h, dep_txts, Bool.true_and]
  decide
theorem lay_prs : ∀ {xs : List (Str × Str)} {n : Nat}, (∀ x ∈ xs, Sht x.1 n ∧ Sht x.2 n) → PyData.canLayAll0 (xs.map kPr) = true
  | [], _, _ => rfl
  | x :: xs, n, h => by
    have h1 := h x List.mem_cons_self
    have h2 := lay_prs (xs := xs) (n := n) fun y hy => h y (List.mem_cons_of_mem _ hy)
    simp only [List.map_cons, PyData.canLayAll0, kPr, PyData.canLay0, Bool.and_true]
    rw [str_ok h1.1, str_ok h1.2]
    simpa only [kPr, Bool.true_and] using h2
theorem dep_prs : ∀ xs : List (Str × Str), PyData.depthAll (xs.map kPr) ≤ 1
  | [] => by decide
  | x :: xs => by
    have := dep_prs xs
    simp only [List.map_cons, PyData.depthAll, kPr, PyData.depth] at this ⊢
    omega
theorem shp_prs {xs : List (Str × Str)} {n : Nat} (h : ∀ x ∈ xs, Sht x.1 n ∧ Sht x.2 n) : SeqAt.shaped (.list (xs.map kPr)) = true := by
  unfold SeqAt.shaped
  rw [Bool.and_eq_true]
  refine ⟨by simp only [PyData.canLay0, lay_prs h], decide_eq_true ?_⟩
  have := dep_prs xs
  simp only [PyData.depth]
  omega
theorem shp_pr {p : Str × Str} {n : Nat} (h : Sht p.1 n ∧ Sht p.2 n) : SeqAt.shaped (kPr p) = true := by
  unfold SeqAt.shaped
  simp only [kPr, PyData.canLay0, PyData.canLayAll0, PyData.depth, PyData.depthAll]
  rw [str_ok h.1, str_ok h.2]
  decide
theorem dp_txts {K : PySem.W.Frag} {H : Hp} : ∀ xs : List Str, DpAll K H (xs.map V.str) (tD xs)
  | [] => .nil
  | x :: r => .cons (.str x) (dp_txts r)
end Kn

/-! walks, a search by paths, a search by levels -/
namespace Kg
variable {α : Type} [DecidableEq α]
theorem nd_le : ∀ {l m : List α}, l.Nodup → (∀ x ∈ l, x ∈ m) → l.length ≤ m.length
  | [], m, _, _ => Nat.zero_le _
  | x :: l, m, h, hs => by
    obtain ⟨h1, h2⟩ := List.nodup_cons.mp h
    have hx : x ∈ m := hs x List.mem_cons_self
    have h3 := nd_le (l := l) (m := m.erase x) h2 fun y hy => (List.mem_erase_of_ne (fun e : y = x => h1 (by rw [← e]; exact hy))).mpr (hs y (List.mem_cons_of_mem _ hy))
    rw [List.length_erase_of_mem hx] at h3
    have := List.length_pos_of_mem hx
    rw [List.length_cons]
    omega
inductive Wk (arcs : List (α × α)) (s : α) : List α → α → Prop
  | one : Wk arcs s [s] s
  | snoc {p : List α} {x y : α} : Wk arcs s p x → (x, y) ∈ arcs → Wk arcs s (p ++ [y]) y
theorem Wk.last {arcs : List (α × α)} {s x : α} {p : List α} (h : Wk arcs s p x) : p.getLast? = some x := by
  cases h with
  | one => rfl
  | snoc h hm => simp
theorem Wk.pos {arcs : List (α × α)} {s x : α} {p : List α} (h : Wk arcs s p x) : 1 ≤ p.length := by
  cases h with
  | one => exact Nat.le_refl _
  | snoc h hm => simp
theorem Wk.head {arcs : List (α × α)} {s x : α} {p : List α} (h : Wk arcs s p x) : p.head? = some s := by
  induction h with
  | one => rfl
  | snoc h hm ih => rw [List.head?_append, ih]; rfl
theorem Wk.one_eq {arcs : List (α × α)} {s x : α} {p : List α} (h : Wk arcs s p x) (hl : p.length ≤ 1) : x = s := by
  cases h with
  | one => rfl
  | snoc h hm =>
    have := h.pos
    rw [List.length_append, List.length_singleton] at hl
    omega
theorem Wk.mem {arcs : List (α × α)} {s x : α} {p : List α} (h : Wk arcs s p x) : ∀ y ∈ p, y = s ∨ ∃ z, (z, y) ∈ arcs := by
  induction h with
  | one => intro y hy; exact .inl (List.mem_singleton.mp hy)
  | snoc h hm ih =>
    intro y hy
    rcases List.mem_append.mp hy with hy | hy
    · exact ih y hy
    · rw [List.mem_singleton.mp hy]
      exact .inr ⟨_, hm⟩
/-- arcs lead from each to the next -/
theorem Wk.arcs {arcs : List (α × α)} {s x : α} {p : List α} (h : Wk arcs s p x) : ∀ (i : Nat) (a b : α), p[i]? = some a → p[i + 1]? = some b → (a, b) ∈ arcs := by
  induction h with
  | one => intro i a b h1 h2; simp at h2
  | @snoc p x y h hm ih =>
    intro i a b h1 h2
    by_cases hi : i + 1 < p.length
    · rw [List.getElem?_append_left (by omega)] at h1
      rw [List.getElem?_append_left hi] at h2
      exact ih i a b h1 h2
    · have hlen := (List.getElem?_eq_some_iff.mp h2).1
      rw [List.length_append, List.length_singleton] at hlen
      have e : i + 1 = p.length := by omega
      rw [List.getElem?_append_right (by omega), show i + 1 - p.length = 0 by omega] at h2
      rw [List.getElem?_append_left (by omega)] at h1
      have hl := h.last
      rw [List.getLast?_eq_getElem?, show p.length - 1 = i by omega, h1] at hl
      have e1 : a = x := Option.some.inj hl
      have e2 : y = b := by simpa using h2
      rw [e1, ← e2]
      exact hm
def Sh (arcs : List (α × α)) (s : α) (goals p : List α) : Prop := (∃ g, g ∈ goals ∧ Wk arcs s p g) ∧ p.Nodup ∧ ∀ q h, Wk arcs s q h → h ∈ goals → p.length ≤ q.length
def NoW (arcs : List (α × α)) (s : α) (goals : List α) : Prop := ∀ q h, Wk arcs s q h → h ∉ goals
/-! ### by paths -/
structure BI (arcs : List (α × α)) (s : α) (goals : List α) (ps : List (List α)) (es : List α) (k : Nat) : Prop where
  len : es.length = ps.length
  wk : ∀ (i : Nat) (p : List α), ps[i]? = some p → ∃ e, es[i]? = some e ∧ Wk arcs s p e ∧ p.Nodup ∧ ∀ x ∈ p, x ∈ es
  nd : es.Nodup
  zero : ps[0]? = some [s]
  mono : ∀ (i j : Nat) (p q : List α), i ≤ j → ps[i]? = some p → ps[j]? = some q → p.length ≤ q.length
  far : ∀ (j : Nat) (p q : List α), ps[k]? = some p → ps[j]? = some q → q.length ≤ p.length + 1
  done : ∀ (i : Nat) (p : List α) (e : α), i < k → ps[i]? = some p → es[i]? = some e → e ∉ goals ∧ ∀ y, (e, y) ∈ arcs → ∃ (j : Nat) (q : List α), ps[j]? = some q ∧ es[j]? = some y ∧ q.length ≤ p.length + 1
  le : k ≤ ps.length
theorem bi_start (arcs : List (α × α)) (s : α) (goals : List α) : BI arcs s goals [[s]] [s] 0 where
  len := rfl
  wk := fun i p h => by
    match i, h with
    | 0, h =>
      have e : [s] = p := by simpa using h
      subst e
      exact ⟨s, rfl, .one, by simp, fun x hx => hx⟩
    | i + 1, h => simp at h
  nd := by simp
  zero := rfl
  mono := fun i j p q hij h1 h2 => by
    match i, j, h1, h2 with
    | 0, 0, h1, h2 => rw [h1] at h2; rw [Option.some.inj h2]; exact Nat.le_refl _
    | i + 1, _, h1, _ => simp at h1
    | 0, j + 1, _, h2 => simp at h2
  far := fun j p q h1 h2 => by
    match j, h2 with
    | 0, h2 => rw [h1] at h2; rw [Option.some.inj h2]; omega
    | j + 1, h2 => simp at h2
  done := fun i p e h => absurd h (Nat.not_lt_zero i)
  le := Nat.zero_le _
theorem BI.bound {arcs : List (α × α)} {s : α} {goals : List α} {ps : List (List α)} {es : List α} {k : Nat} (h : BI arcs s goals ps es k) : ps.length ≤ arcs.length + 1 := by
  rw [← h.len]
  have h1 := nd_le (l := es) (m := s :: arcs.map (·.2)) h.nd fun x hx => by
    obtain ⟨i, hi⟩ := List.mem_iff_getElem?.mp hx
    have hl := (List.getElem?_eq_some_iff.mp hi).1
    rw [h.len] at hl
    obtain ⟨e, h1, h2, h3, h4⟩ := h.wk i ps[i] (List.getElem?_eq_getElem hl)
    rw [hi] at h1
    rw [Option.some.inj h1]
    rcases h2.mem e (by have := h2.last; exact List.mem_of_getLast? this) with h | ⟨z, hz⟩
    · rw [h]; exact List.mem_cons_self
    · exact List.mem_cons_of_mem _ (List.mem_map.mpr ⟨_, hz, rfl⟩)
  rw [List.length_cons, List.length_map] at h1
  exact h1
theorem BI.path_le {arcs : List (α × α)} {s : α} {goals : List α} {ps : List (List α)} {es : List α} {k i : Nat} {p : List α} (h : BI arcs s goals ps es k) (hp : ps[i]? = some p) : p.length ≤ arcs.length + 1 := by
  obtain ⟨e, h1, h2, h3, h4⟩ := h.wk i p hp
  have := nd_le h3 h4
  rw [h.len] at this
  exact Nat.le_trans this h.bound
/-- one more path -/
theorem BI.add {arcs : List (α × α)} {s : α} {goals : List α} {ps : List (List α)} {es : List α} {k : Nat} {p0 : List α} {e0 y : α} (h : BI arcs s goals ps es k) (hp : ps[k]? = some p0) (he : es[k]? = some e0) (hy : y ∉ es) (ha : (e0, y) ∈ arcs) :
    BI arcs s goals (ps ++ [p0 ++ [y]]) (es ++ [y]) k := by
  obtain ⟨e1, g1, g2, g3, g4⟩ := h.wk k p0 hp
  have ee : e1 = e0 := Option.some.inj (g1.symm.trans he)
  subst ee
  have hk : k < ps.length := (List.getElem?_eq_some_iff.mp hp).1
  have old : ∀ {i : Nat} {q : List α}, (ps ++ [p0 ++ [y]])[i]? = some q → (i < ps.length ∧ ps[i]? = some q) ∨ (i = ps.length ∧ q = p0 ++ [y]) := fun {i q} hq => by
    by_cases hi : i < ps.length
    · rw [List.getElem?_append_left hi] at hq
      exact .inl ⟨hi, hq⟩
    · have hl := (List.getElem?_eq_some_iff.mp hq).1
      rw [List.length_append, List.length_singleton] at hl
      have e : i = ps.length := by omega
      rw [e, List.getElem?_append_right (Nat.le_refl _), Nat.sub_self] at hq
      exact .inr ⟨e, by simpa using hq.symm⟩
  refine ⟨by rw [List.length_append, List.length_append, h.len, List.length_singleton, List.length_singleton], fun i q hq => ?_, ?_, ?_, fun i j p q hij h1 h2 => ?_, fun j p q h1 h2 => ?_, fun i p e hi h1 h2 => ?_, by rw [List.length_append]; have := h.le; omega⟩
  · rcases old hq with ⟨hi, hq⟩ | ⟨rfl, rfl⟩
    · obtain ⟨e, a1, a2, a3, a4⟩ := h.wk i q hq
      exact ⟨e, by rw [List.getElem?_append_left (by rw [h.len]; exact hi)]; exact a1, a2, a3, fun x hx => List.mem_append_left _ (a4 x hx)⟩
    · refine ⟨y, by rw [← h.len]; simp, g2.snoc ha, ?_, fun x hx => ?_⟩
      · rw [List.nodup_append]
        refine ⟨g3, by simp, fun a ha' b hb e => ?_⟩
        rw [List.mem_singleton.mp hb] at e
        exact hy (e ▸ g4 a ha')
      · rcases List.mem_append.mp hx with hx | hx
        · exact List.mem_append_left _ (g4 x hx)
        · exact List.mem_append_right _ hx
  · rw [List.nodup_append]
    refine ⟨h.nd, by simp, fun a ha' b hb e => ?_⟩
    rw [List.mem_singleton.mp hb] at e
    exact hy (e ▸ ha')
  · rw [List.getElem?_append_left (by omega)]
    exact h.zero
  · rcases old h2 with ⟨hj, h2⟩ | ⟨rfl, rfl⟩
    · rcases old h1 with ⟨hi, h1⟩ | ⟨rfl, rfl⟩
      · exact h.mono i j p q hij h1 h2
      · omega
    · rw [List.length_append, List.length_singleton]
      rcases old h1 with ⟨hi, h1⟩ | ⟨_, rfl⟩
      · exact h.far i p0 p hp h1
      · rw [List.length_append, List.length_singleton]; exact Nat.le_refl _
  · rw [List.getElem?_append_left hk, hp] at h1
    rw [← Option.some.inj h1]
    rcases old h2 with ⟨hj, h2⟩ | ⟨rfl, rfl⟩
    · exact h.far j p0 q hp h2
    · rw [List.length_append, List.length_singleton]; exact Nat.le_refl _
  · rw [List.getElem?_append_left (by omega)] at h1
    rw [List.getElem?_append_left (by rw [h.len]; omega)] at h2
    obtain ⟨a1, a2⟩ := h.done i p e hi h1 h2
    refine ⟨a1, fun z hz => ?_⟩
    obtain ⟨j, q, b1, b2, b3⟩ := a2 z hz
    have hj := (List.getElem?_eq_some_iff.mp b1).1
    exact ⟨j, q, by rw [List.getElem?_append_left hj]; exact b1, by rw [List.getElem?_append_left (by rw [h.len]; exact hj)]; exact b2, b3⟩
/-- the next turn -/
theorem BI.next {arcs : List (α × α)} {s : α} {goals : List α} {ps : List (List α)} {es : List α} {k : Nat} {p0 : List α} {e0 : α} (h : BI arcs s goals ps es k) (hp : ps[k]? = some p0) (he : es[k]? = some e0) (hg : e0 ∉ goals) (ha : ∀ y, (e0, y) ∈ arcs → y ∈ es) :
    BI arcs s goals ps es (k + 1) := by
  have hk : k < ps.length := (List.getElem?_eq_some_iff.mp hp).1
  refine ⟨h.len, h.wk, h.nd, h.zero, h.mono, fun j p q h1 h2 => ?_, fun i p e hi h1 h2 => ?_, hk⟩
  · have a := h.far j p0 q hp h2
    have b := h.mono k (k + 1) p0 p (Nat.le_succ _) hp h1
    omega
  · by_cases hik : i < k
    · exact h.done i p e hik h1 h2
    · have e1 : i = k := by omega
      subst e1
      rw [hp] at h1
      rw [he] at h2
      rw [← Option.some.inj h1, ← Option.some.inj h2]
      refine ⟨hg, fun y hy => ?_⟩
      obtain ⟨j, hj⟩ := List.mem_iff_getElem?.mp (ha y hy)
      have hl := (List.getElem?_eq_some_iff.mp hj).1
      rw [h.len] at hl
      exact ⟨j, ps[j], List.getElem?_eq_getElem hl, hj, h.far j p0 _ hp (List.getElem?_eq_getElem hl)⟩
theorem BI.start0 {arcs : List (α × α)} {s : α} {goals : List α} {ps : List (List α)} {es : List α} {k : Nat} (h : BI arcs s goals ps es k) : es[0]? = some s := by
  obtain ⟨e, h1, h2, _⟩ := h.wk 0 [s] h.zero
  have := h2.one_eq (Nat.le_refl _)
  rw [this] at h1
  exact h1
theorem BI.found {arcs : List (α × α)} {s : α} {goals : List α} {ps : List (List α)} {es : List α} {k : Nat} {p : List α} {e : α} (h : BI arcs s goals ps es k) (hp : ps[k]? = some p) (he : es[k]? = some e) (hg : e ∈ goals) : Sh arcs s goals p := by
  obtain ⟨e1, g1, g2, g3, g4⟩ := h.wk k p hp
  have ee : e1 = e := Option.some.inj (g1.symm.trans he)
  subst ee
  refine ⟨⟨e1, hg, g2⟩, g3, ?_⟩
  have key : ∀ q x, Wk arcs s q x → (∃ (i : Nat) (p' : List α), i < k ∧ ps[i]? = some p' ∧ es[i]? = some x ∧ p'.length ≤ q.length) ∨ p.length ≤ q.length := by
    intro q x w
    induction w with
    | one =>
      by_cases h0 : k = 0
      · subst h0
        rw [h.zero] at hp
        rw [← Option.some.inj hp]
        exact .inr (Nat.le_refl _)
      · exact .inl ⟨0, [s], by omega, h.zero, h.start0, Nat.le_refl _⟩
    | @snoc q x y w hm ih =>
      rw [List.length_append, List.length_singleton]
      rcases ih with ⟨i, p', hi, h1, h2, h3⟩ | h3
      · obtain ⟨j, q', b1, b2, b3⟩ := (h.done i p' x hi h1 h2).2 y hm
        by_cases hj : j < k
        · exact .inl ⟨j, q', hj, b1, b2, by omega⟩
        · have := h.mono k j p q' (by omega) hp b1
          exact .inr (by omega)
      · exact .inr (by omega)
  intro q x w hx
  rcases key q x w with ⟨i, p', hi, h1, h2, h3⟩ | h3
  · exact absurd hx (h.done i p' x hi h1 h2).1
  · exact h3
theorem BI.none {arcs : List (α × α)} {s : α} {goals : List α} {ps : List (List α)} {es : List α} (h : BI arcs s goals ps es ps.length) : NoW arcs s goals := by
  have key : ∀ q x, Wk arcs s q x → ∃ (i : Nat) (p' : List α), i < ps.length ∧ ps[i]? = some p' ∧ es[i]? = some x := by
    intro q x w
    induction w with
    | one => exact ⟨0, [s], (List.getElem?_eq_some_iff.mp h.zero).1, h.zero, h.start0⟩
    | @snoc q x y w hm ih =>
      obtain ⟨i, p', hi, h1, h2⟩ := ih
      obtain ⟨j, q', b1, b2, b3⟩ := (h.done i p' x hi h1 h2).2 y hm
      exact ⟨j, q', (List.getElem?_eq_some_iff.mp b1).1, b1, b2⟩
  intro q x w
  obtain ⟨i, p', hi, h1, h2⟩ := key q x w
  exact (h.done i p' x hi h1 h2).1
/-! ### by levels -/
structure LI (arcs : List (α × α)) (s : α) (goals : List α) (k : Nat) (seen lev : List α) : Prop where
  s_in : s ∈ seen
  lv : ∀ x ∈ lev, x ∈ seen ∧ ∃ p, Wk arcs s p x ∧ p.length = k + 1
  old : ∀ x ∈ seen, x ∉ lev → x ∉ goals ∧ ∀ y, (x, y) ∈ arcs → y ∈ seen
  cov : ∀ p x, Wk arcs s p x → p.length ≤ k + 1 → x ∈ seen
  min : ∀ p x, Wk arcs s p x → p.length ≤ k → x ∉ goals
theorem li_start (arcs : List (α × α)) (s : α) (goals : List α) : LI arcs s goals 0 [s] [s] where
  s_in := List.mem_cons_self
  lv := fun x hx => by
    have e := List.mem_singleton.mp hx
    subst e
    exact ⟨hx, [x], .one, rfl⟩
  old := fun x h1 h2 => absurd h1 h2
  cov := fun p x w hl => by rw [w.one_eq hl]; exact List.mem_cons_self
  min := fun p x w hl => by have := w.pos; omega
theorem LI.next {arcs : List (α × α)} {s : α} {goals : List α} {k : Nat} {seen lev later : List α} (h : LI arcs s goals k seen lev) (hg : ∀ x ∈ lev, x ∉ goals) (ha : ∀ x ∈ lev, ∀ y, (x, y) ∈ arcs → y ∈ seen ++ later) (hl : ∀ y ∈ later, ∃ x ∈ lev, (x, y) ∈ arcs) :
    LI arcs s goals (k + 1) (seen ++ later) later := by
  have hs : ∀ x ∈ seen, x ∉ goals ∧ ∀ y, (x, y) ∈ arcs → y ∈ seen ++ later := fun x hx => by
    by_cases hv : x ∈ lev
    · exact ⟨hg x hv, ha x hv⟩
    · exact ⟨(h.old x hx hv).1, fun y hy => List.mem_append_left _ ((h.old x hx hv).2 y hy)⟩
  refine ⟨List.mem_append_left _ h.s_in, fun y hy => ?_, fun x hx hv => ?_, fun p x w hle => ?_, fun p x w hle => (hs x (h.cov p x w hle)).1⟩
  · obtain ⟨x, hx, hm⟩ := hl y hy
    obtain ⟨_, p, w, e⟩ := h.lv x hx
    exact ⟨List.mem_append_right _ hy, p ++ [y], w.snoc hm, by rw [List.length_append, e]; rfl⟩
  · rcases List.mem_append.mp hx with hx | hx
    · exact hs x hx
    · exact absurd hx hv
  · cases w with
    | one => exact List.mem_append_left _ h.s_in
    | @snoc p x y w hm =>
      rw [List.length_append, List.length_singleton] at hle
      exact (hs x (h.cov p x w (by omega))).2 _ hm
/-! ### the chain -/
theorem chain_walk {c : Nat → α} {arcs : List (α × α)} (inj : ∀ i j, i < 16 → j < 16 → c i = c j → i = j) (ha : ∀ x y, (x, y) ∈ arcs → ∃ i j, i < 16 ∧ j < 16 ∧ x = c i ∧ y = c j ∧ (j < i ∨ j = i + 1)) :
    ∀ {p : List α} {x : α}, Wk arcs (c 0) p x → ∃ m, m < 16 ∧ x = c m ∧ m + 1 ≤ p.length ∧ (p.length = m + 1 → p = (List.range (m + 1)).map c) := by
  intro p x w
  induction w with
  | one => exact ⟨0, by decide, rfl, Nat.le_refl _, fun _ => rfl⟩
  | @snoc p x y w hm ih =>
    obtain ⟨m, hm16, e, hl, hp⟩ := ih
    obtain ⟨i, j, hi, hj, e1, e2, hij⟩ := ha x y hm
    have : m = i := inj m i hm16 hi (e.symm.trans e1)
    subst this
    refine ⟨j, hj, e2, ?_, fun hlen => ?_⟩
    · rw [List.length_append, List.length_singleton]
      omega
    · rw [List.length_append, List.length_singleton] at hlen
      rcases hij with hij | hij
      · omega
      · subst hij
        rw [hp (by omega), List.range_succ (n := m + 1), List.map_append, e2]
        rfl
theorem chain_is {c : Nat → α} {arcs : List (α × α)} (hb : ∀ i, i + 1 < 16 → (c i, c (i + 1)) ∈ arcs) : ∀ m, m < 16 → Wk arcs (c 0) ((List.range (m + 1)).map c) (c m)
  | 0, _ => .one
  | m + 1, h => by
    rw [List.range_succ, List.map_append]
    exact (chain_is hb m (by omega)).snoc (hb m h)
theorem chain_short {c : Nat → α} {arcs : List (α × α)} (inj : ∀ i j, i < 16 → j < 16 → c i = c j → i = j) (ha : ∀ x y, (x, y) ∈ arcs → ∃ i j, i < 16 ∧ j < 16 ∧ x = c i ∧ y = c j ∧ (j < i ∨ j = i + 1)) (hb : ∀ i, i + 1 < 16 → (c i, c (i + 1)) ∈ arcs)
    {m : Nat} (hm : m < 16) {p : List α} (h : Sh arcs (c 0) [c m] p) : p = (List.range (m + 1)).map c := by
  obtain ⟨⟨g, hg, w⟩, _, hmin⟩ := h
  rw [List.mem_singleton.mp hg] at w
  obtain ⟨m', h1, h2, h3, h4⟩ := chain_walk inj ha w
  have : m = m' := inj m m' hm h1 h2
  subst this
  have := hmin _ _ (chain_is hb m hm) List.mem_cons_self
  rw [List.length_map, List.length_range] at this
  exact h4 (by omega)
theorem back_short {arcs : List (α × α)} {a b : α} (hab : a ≠ b) (ha : (a, b) ∈ arcs) {p : List α} (h : Sh arcs a [b] p) : p = [a, b] := by
  obtain ⟨⟨g, hg, w⟩, _, hmin⟩ := h
  rw [List.mem_singleton.mp hg] at w
  have h2 := hmin _ _ (Wk.one.snoc ha) List.mem_cons_self
  cases w with
  | one => exact absurd rfl hab
  | @snoc q x y w hm =>
    have h1 := w.pos
    simp only [List.length_append, List.length_cons, List.length_nil] at h2
    have hq : q.length = 1 := by omega
    have hh := w.head
    match q, hq, hh with
    | [z], _, hh =>
      have : z = a := by simpa using hh
      rw [this]
      rfl
end Kg

namespace Kx
open PySem PySem.Spec PyProof.Rows L2 NdefX Kr Ke Kn
def topS (i : Nat) : Stmt := PySem.Challenge.pw_letforget_k06_shortest_paths.main.body.getD i (.Pass ⟨0, 0, 0, 0⟩)
/-- the built-ins that are asked -/
structure TxS (mg : Str → Option Value) : Prop extends TB mg where
  m_isinstance : mg "isinstance" = none
  m_str : mg "str" = none
  m_list : mg "list" = none
abbrev s_draws_of : Stmt := topS 4
abbrev N_draws_of : List Str := ["_law_script", "_law_pool", "_law_cell", "_law_left", "_law_k"]
theorem sc_draws_of : FnScope N_draws_of ["_law_script"] (defScope s_draws_of) := ⟨rfl, rfl, rfl, by decide +kernel, rfl, by decide +kernel, by decide +kernel⟩
abbrev s_nth : Stmt := topS 5
abbrev N_nth : List Str := ["_law_pool", "_law_k"]
theorem sc_nth : FnScope N_nth ["_law_pool", "_law_k"] (defScope s_nth) := ⟨rfl, rfl, rfl, by decide +kernel, rfl, by decide +kernel, by decide +kernel⟩
section
variable {P : Program} {w : World} {K : PySem.W.Frag} {mg : Str → Option Value} {base : Heap}
theorem ok_draws_of {f : Addr} {fd : FuncData} (F : Fun K "_law_draws_of" "_law_draws_of" s_draws_of f fd) (T : TB mg) : FnOk P w K mg base CX0 1 f fd ["_law_script"] (spDraws K) := by
  refine F.ok sc_draws_of (fun vs H Q E h => ?_) (fun cdv A outer s H vs Q E hr h => ?_)
  · obtain ⟨a, ns, rfl, _⟩ := h
    rfl
  · obtain ⟨a, ns, rfl, hS, hlen, q⟩ := h
    refine ⟨_, (pss_cons (ps_set (i := 1) sc_draws_of.nd rfl (Or.inl rfl) (pe_lst pa_nil))
      (pss_cons (ps_for PassesOwn.never rfl (pi_list (pv 0)) (pg_name (i := 2) sc_draws_of.nd rfl (Or.inl rfl))
        (pss_one (ps_if (pt_cmpR op_lt (pe_callB call_len_seq (by rfl) T.m_len (by decide +kernel) (pa_cons (pv 1) pa_nil)) pe_int (nomark _))
          (pss_cons (ps_set (i := 3) sc_draws_of.nd rfl (Or.inl rfl) (pe_callB call_abs (by rfl) T.m_abs (by decide +kernel) (pa_cons (pe_callTy call_int1 (by rfl) T.m_int (by decide +kernel) (pa_cons (pv 2) pa_nil)) pa_nil)))
          (pss_one (ps_if (pt_cmpR op_lt (pv 3) (pe_op op_pow pe_int pe_int) (nomark _))
            (pss_one (ps_for PassesOwn.never rfl (pi_range1 (by rfl) T.m_range (pa_cons pe_int pa_nil)) (pg_name (i := 4) sc_draws_of.nd rfl (Or.inl rfl))
              (pss_cons (ps_set (i := 3) sc_draws_of.nd rfl (Or.inl rfl) (pe_op op_mod (pe_callTy call_int1 (by rfl) T.m_int (by decide +kernel) (pa_cons (pe_op op_add (pe_op op_add (pe_op op_mul (pv 3) pe_int) (pe_op op_mul pe_int (pv 4))) pe_int) pa_nil)) pe_int))
              (pss_one (ps_expr (pe_bm PySem.F.plainAttrs_list PySem.F.slot_list_append PySem.F.type_list_append mt_append (pv 1) (pa_cons (pv 3) pa_nil)))))))
            (pss_one (ps_for PassesOwn.never rfl (pi_range1 (by rfl) T.m_range (pa_cons pe_int pa_nil)) (pg_name (i := 4) sc_draws_of.nd rfl (Or.inl rfl))
              (pss_one (ps_if (pt_cmpR op_gt (pv 3) pe_int (nomark _))
                (pss_cons (ps_expr (pe_bm PySem.F.plainAttrs_list PySem.F.slot_list_append PySem.F.type_list_append mt_append (pv 1) (pa_cons (pe_op op_mod (pe_callTy call_int1 (by rfl) T.m_int (by decide +kernel) (pa_cons (pv 3) pa_nil)) pe_int) pa_nil)))
                (pss_one (ps_set (i := 3) sc_draws_of.nd rfl (Or.inl rfl) (pe_op op_fdiv (pv 3) pe_int))))
                pss_nil)))))))
          pss_nil)))
      (pss_cons (ps_if (pt_cmpR (op_eqD hr.units) (pv 1) (pe_lst pa_nil) (nomark _))
        (pss_one (ps_set (i := 1) sc_draws_of.nd rfl (Or.inl rfl) (pe_lst (pa_cons pe_int (pa_cons pe_int (pa_cons pe_int (pa_cons pe_int (pa_cons pe_int (pa_cons pe_int (pa_cons pe_int (pa_cons pe_int (pa_cons pe_int (pa_cons pe_int (pa_cons pe_int (pa_cons pe_int (pa_cons pe_int pa_nil))))))))))))))))
        pss_nil)
      (pss_one (ps_ret (pv 1)))))), ?_⟩
    refine ⟨Nat.zero_le _, fun o no => ?_⟩
    -- the loop over the script
    refine ⟨.ref a, rfl, a, rfl, ⟨_, (same_upd no).seq hS⟩, ?_⟩
    refine for_list (xs := ns.map V.int) (fun i σ H1 => ∃ x2 x3 x4 ms, σ = [some (.ref a), some (.ref o), x2, x3, x4] ∧ Same H H1 ∧ H1 o = some (.lst (ms.map V.int)) ∧ ms.length ≤ 132 ∧ (ms = [] ∨ 3 ≤ ms.length) ∧ ∀ v ∈ ms, inR v)
      ⟨none, none, none, [], rfl, same_upd no, upd_same, Nat.zero_le _, .inl rfl, fun v hv => nomatch hv⟩ ?_ ?_ ?_
    · rintro i σ H1 _ ⟨_, _, _, ms, _, sm, _⟩
      exact sm.seq hS
    · rintro i x σ H1 hx ⟨x2, x3, x4, ms, rfl, sm, eo, hm, h3, hrg⟩
      obtain ⟨n, rfl⟩ : ∃ n : Int, x = .int n := by
        rw [List.getElem?_map] at hx
        cases e : ns[i]? with
        | none => rw [e] at hx; cases hx
        | some n => rw [e] at hx; exact ⟨n, (Option.some.inj hx).symm⟩
      refine ⟨_, rfl, o, _, rfl, .inl (.inl (.inl eo)), _, _, rfl, rfl, _, rfl, iteB (fun h1 => ?_) (fun h1 => ?_)⟩
      · have hl72 : ms.length < 72 := by
          have := of_decide_eq_true h1
          rw [List.length_map] at this
          omega
        refine ⟨_, rfl, .inl ⟨n, rfl, n, rfl, ?_⟩⟩
        generalize hL : (if n < 0 then -n else n) = L
        have hL0 : 0 ≤ L := by rw [← hL]; split <;> omega
        refine ⟨_, rfl, _, _, rfl, rfl, ⟨by decide, by decide, by decide⟩, _, _, rfl, rfl, _, rfl, iteB (fun h2 => ?_) (fun h2 => ?_)⟩
        · have hL1 : L < 1000000000000000000 := by rw [← pe10]; exact of_decide_eq_true h2
          refine ⟨3, rfl, by decide, by decide, ?_⟩
          refine for_range (lo := 0) (n := 3) (fun i σ H2 => ∃ x4 L ms', σ = [some (.ref a), some (.ref o), some (.int n), some (.int L), x4] ∧ Same H H2 ∧ H2 o = some (.lst (ms'.map V.int)) ∧ ms'.length = ms.length + i ∧ (∀ v ∈ ms', inR v) ∧ 0 ≤ L ∧ L < 1000000000000000000) 
            ⟨x4, L, ms, rfl, sm, eo, rfl, hrg, hL0, hL1⟩ ?_ ?_
          · rintro i σ H2 hi ⟨x4, L, ms', rfl, sm2, eo2, hm2, hrg2, hLa, hLb⟩
            refine ⟨_, rfl, _, _, rfl, rfl, .inl ⟨by omega, by omega⟩, _, rfl, _, _, rfl, rfl, .inl ⟨by decide, by decide⟩, _, _, rfl, rfl, _, _, rfl, rfl, .inl ⟨_, rfl, _, _, rfl, rfl, (by show (0 : Int) < 65521; decide), ?_⟩⟩
            refine ⟨_, rfl, .inl ⟨rfl, _, .inl (.inl eo2)⟩, _, rfl, o, _, _, rfl, rfl, eo2, sl9 (by rw [List.length_map]; omega), ?_⟩
            have hvr : inR ((L * 30011 + 7919 * (0 + (i : Int)) + 977) % 65521) := by constructor <;> omega
            refine ⟨_, (L * 30011 + 7919 * (0 + (i : Int)) + 977) % 65521, ms' ++ [(L * 30011 + 7919 * (0 + (i : Int)) + 977) % 65521], rfl, same_mut sm2 no, ?_, by rw [List.length_append, List.length_singleton]; omega, rg_app hrg2 hvr, hvr.1, by have := hvr.2; omega⟩
            rw [upd_same, map_app]
          · rintro σ H2 ⟨x4, L, ms', rfl, sm2, eo2, hm2, hrg2, hLa, hLb⟩
            exact ⟨_, _, _, ms', rfl, sm2, eo2, by omega, .inr (by omega), hrg2⟩
        · have hL1 : 1000000000000000000 ≤ L := by
            have := of_decide_eq_false h2
            rw [pe10] at this
            omega
          refine ⟨60, rfl, by decide, by decide, ?_⟩
          refine for_range (lo := 0) (n := 60) (fun i σ H2 => ∃ x4 L ms', σ = [some (.ref a), some (.ref o), some (.int n), some (.int L), x4] ∧ Same H H2 ∧ H2 o = some (.lst (ms'.map V.int)) ∧ ms'.length ≤ ms.length + i ∧ (∀ v ∈ ms', inR v) ∧ 0 ≤ L ∧
              (i = 0 → 1000000000000000000 ≤ L) ∧ (i = 1 → 10000000000 ≤ L ∧ 1 ≤ ms'.length) ∧ (i = 2 → 100000 ≤ L ∧ 2 ≤ ms'.length) ∧ (3 ≤ i → 3 ≤ ms'.length)) 
            ⟨x4, L, ms, rfl, sm, eo, Nat.le_refl _, hrg, hL0, fun _ => hL1, by omega, by omega, by omega⟩ ?_ ?_
          · rintro i σ H2 hi ⟨x4, L, ms', rfl, sm2, eo2, hm2, hrg2, hLa, c0, c1, c2, c3⟩
            refine ⟨_, rfl, _, _, rfl, rfl, _, rfl, iteB (fun h4 => ?_) (fun h4 => ?_)⟩
            · refine ⟨_, rfl, .inl ⟨rfl, _, .inl (.inl eo2)⟩, _, rfl, .inl ⟨_, rfl, _, _, rfl, rfl, (by show (0 : Int) < 65536; decide), o, _, _, rfl, rfl, eo2, sl9 (by rw [List.length_map]; omega), ?_⟩⟩
              refine ⟨_, rfl, _, _, rfl, rfl, ⟨by decide, by decide⟩, ?_⟩
              have hvr : inR (L % 65536) := by constructor <;> omega
              refine ⟨_, L / 65536, ms' ++ [L % 65536], rfl, same_mut sm2 no, ?_, by rw [List.length_append, List.length_singleton]; omega, rg_app hrg2 hvr, by omega, by omega, ?_, ?_, ?_⟩
              · rw [upd_same, map_app]
              · intro e; rw [List.length_append, List.length_singleton]; have := c0 (by omega); constructor <;> omega
              · intro e; rw [List.length_append, List.length_singleton]; have := c1 (by omega); constructor <;> omega
              · intro e; rw [List.length_append, List.length_singleton]
                by_cases e2 : i = 2
                · have := c2 e2; omega
                · have := c3 (by omega); omega
            · have h4' : ¬ (0 < L) := of_decide_eq_false h4
              refine ⟨_, L, ms', rfl, sm2, eo2, by omega, hrg2, hLa, by omega, ?_, ?_, ?_⟩
              · intro e; have := c0 (by omega); omega
              · intro e; have := c1 (by omega); omega
              · intro e
                by_cases e2 : i = 2
                · have := c2 e2; omega
                · exact c3 (by omega)
          · rintro σ H2 ⟨x4, L, ms', rfl, sm2, eo2, hm2, hrg2, hLa, c0, c1, c2, c3⟩
            exact ⟨_, _, _, ms', rfl, sm2, eo2, by omega, .inr (c3 (by omega)), hrg2⟩
      · exact ⟨_, _, _, ms, rfl, sm, eo, hm, h3, hrg⟩
    · rintro σ H1 ⟨x2, x3, x4, ms, rfl, sm, eo, hm, h3, hrg⟩
      refine ⟨_, rfl, Nat.zero_le _, fun p np => ?_⟩
      have nop : o ≠ p := ne_of_none eo np
      refine ⟨_, .list [], .lst (.inl (.inl ((upd_ne nop).trans eo))) (dp_ints ms), .lst (.inl (.inl upd_same)) .nil, shp_ints ms, by decide, _, rfl, iteB (fun h1 => ?_) (fun h1 => ?_)⟩
      · refine ⟨by show 13 ≤ sizeLine; decide, fun r nr => ⟨_, rfl, ?_⟩⟩
        have s1 : Same H (upd H1 p (.lst [])) := sm.trans (same_upd np)
        refine q _ r [2, 10, 1, 0, 4, 0, 1052, 0, 148, 26, 132, 0, 20] (s1.trans (same_upd nr)) (s1.free nr) upd_same ⟨by decide, by decide, ?_⟩
        intro v hv
        simp only [List.mem_cons, List.not_mem_nil, or_false] at hv
        unfold inR
        omega
      · rw [eqv_nil] at h1
        have h3' : 3 ≤ ms.length := by
          rcases h3 with rfl | h3
          · simp at h1
          · exact h3
        refine ⟨_, rfl, ?_⟩
        refine q _ o ms (sm.trans (same_upd np)) no ((upd_ne nop).trans eo) ⟨h3', by omega, hrg⟩
theorem ok_nth {f : Addr} {fd : FuncData} (F : Fun K "_law_nth" "_law_nth" s_nth f fd) (T : TB mg) : FnOk P w K mg base CX0 1 f fd ["_law_pool", "_law_k"] (spNth K) := by
  refine F.ok sc_nth (fun vs H Q E h => ?_) (fun cdv A outer s H vs Q E hr h => ?_)
  · obtain ⟨p, ms, k, rfl, _⟩ := h
    rfl
  · obtain ⟨p, ms, k, rfl, hS, hP, hk0, hk1, q⟩ := h
    refine ⟨_, (pss_cons (ps_if (pt_cmpR op_lt (pv 1) (pe_callB call_len_seq (by rfl) T.m_len (by decide +kernel) (pa_cons (pv 0) pa_nil)) (nomark _))
        (pss_one (ps_ret (pe_ix ix_list (pv 0) (pv 1) (fun _ _ => rfl))))
        pss_nil)
      (pss_one (ps_ret (pe_op op_mod (pe_callTy call_int1 (by rfl) T.m_int (by decide +kernel) (pa_cons (pe_op op_add (pe_op op_mul (pe_ix ix_list (pv 0) (pe_op op_mod (pv 1) (pe_callB call_len_seq (by rfl) T.m_len (by decide +kernel) (pa_cons (pv 0) pa_nil))) (fun _ _ => rfl)) pe_int) (pe_op op_mul (pv 1) pe_int)) pa_nil)) pe_int)))), ?_⟩
    have hl : (ms.map V.int).length = ms.length := List.length_map _
    have hlo := hP.lo
    refine ⟨_, rfl, _, rfl, p, _, rfl, .inl hS, _, _, rfl, rfl, _, rfl, iteB (fun h1 => ?_) (fun h1 => ?_)⟩
    · have h1' : k < (ms.length : Int) := by have := of_decide_eq_true h1; rw [hl] at this; exact this
      refine ⟨_, rfl, _, rfl, p, _, k, _, rfl, rfl, hS, at_pool hk0 h1', ?_⟩
      have e : nthV ms k = ms.getD k.toNat 0 := if_pos h1'
      rw [← e]
      exact q
    · have h1' : ¬ k < (ms.length : Int) := by have := of_decide_eq_false h1; rw [hl] at this; exact this
      have hi : (k % (ms.length : Int)).toNat < ms.length := by
        have h0 := Int.emod_nonneg k (show (ms.length : Int) ≠ 0 by omega)
        have h1 := Int.emod_lt_of_pos k (show 0 < (ms.length : Int) by omega)
        omega
      have hv := (getD_rg hP.rg hi).2
      refine ⟨_, rfl, _, rfl, _, rfl, p, _, rfl, .inl hS, _, _, rfl, rfl, (by show (0 : Int) < (((ms.map V.int).length : Nat) : Int); rw [hl]; omega), ?_⟩
      rw [hl]
      refine ⟨p, _, _, _, rfl, rfl, hS, at_pool (Int.emod_nonneg k (by omega)) (Int.emod_lt_of_pos k (by omega)), _, _, rfl, rfl, .inr ⟨by decide, by decide⟩, _, rfl, _, _, rfl, rfl, .inl ⟨by omega, by omega⟩, _, _, rfl, rfl, .inl ⟨_, rfl, _, _, rfl, rfl, (by show (0 : Int) < 65521; decide), ?_⟩⟩
      have e : nthV ms k = (ms.getD (k % (ms.length : Int)).toNat 0 * 31 + k * 7919) % 65521 := if_neg h1'
      rw [e] at q
      exact q
end
end Kx

namespace Kx
open PySem PySem.Spec PyProof.Rows L2 NdefX Kr Ke Kn
abbrev s_named : Stmt := topS 6
abbrev N_named : List Str := ["_law_k", "_law_style", "_law_one", "_law_kind", "_law_words", "_law_base"]
theorem sc_named : FnScope N_named ["_law_k", "_law_style"] (defScope s_named) := ⟨rfl, rfl, rfl, by decide +kernel, rfl, by decide +kernel, by decide +kernel⟩
def spNamed : Sp := fun vs H Q _ => ∃ k st : Int, vs = [.int k, .int st] ∧ 0 ≤ k ∧ k < 16 ∧ 0 ≤ st ∧ st < 70000 ∧ ∀ H', Same H H' → Q (.str (nameV k st)) H'
theorem a26_len2 : A26.length ≤ 100000 := by decide +kernel
theorem small_log {i : Int} (h : i.natAbs < 20000) : i.natAbs.log2 < 1920 := by
  by_cases h0 : i.natAbs = 0
  · rw [h0]
    decide
  · exact (Nat.log2_lt h0).mpr (Nat.lt_of_lt_of_le h (by decide +kernel))
theorem ws_at {k : Int} (h0 : 0 ≤ k) : atI (WS.map V.str) (k % 10) = some (.str (WS.getD (k % 10).toNat "")) := by
  obtain ⟨j, hj⟩ : ∃ j : Nat, k % 10 = (j : Int) := ⟨(k % 10).toNat, by omega⟩
  rw [hj, Int.toNat_natCast]
  have hl : j < WS.length := by show j < 10; omega
  refine atI_nat ?_
  rw [List.getElem?_map, List.getElem?_eq_getElem hl, List.getD_eq_getElem?_getD, List.getElem?_eq_getElem hl]
  rfl
theorem ws_sht (j : Nat) : Sht (WS.getD j "") 8 := by
  by_cases hl : j < WS.length
  · rw [List.getD_eq_getElem?_getD, List.getElem?_eq_getElem hl]
    have h : ∀ z ∈ WS, z.length ≤ 8 ∧ ∀ c ∈ z.cps.toList, c < 1114112 := by decide +kernel
    exact h _ (List.getElem_mem hl)
  · rw [List.getD_eq_getElem?_getD, List.getElem?_eq_none (by omega)]
    exact ⟨by decide, by decide +kernel⟩
theorem sl {x y : Str} {n m : Nat} (h : Sht x n) (h' : Sht y m) (hn : n + m ≤ 100000) : x.length + y.length ≤ sizeLine := sz9 (by have := h.1; have := h'.1; omega)
theorem ifI {i j : Int} {A B : Prop} (h1 : i = j → A) (h2 : i ≠ j → B) : if decide (V.int i = V.int j) = true then A else B := by
  by_cases h : i = j
  · rw [if_pos (decide_eq_true (congrArg V.int h))]
    exact h1 h
  · rw [if_neg (fun e => h (by injection of_decide_eq_true e))]
    exact h2 h
section
variable {P : Program} {w : World} {K : PySem.W.Frag} {mg : Str → Option Value} {base : Heap}
theorem ok_named {f : Addr} {fd : FuncData} (F : Fun K "_law_named" "_law_named" s_named f fd) (T : TxS mg) : FnOk P w K mg base CX0 1 f fd ["_law_k", "_law_style"] spNamed := by
  refine F.ok sc_named (fun vs H Q E h => ?_) (fun cdv A outer s H vs Q E hr h => ?_)
  · obtain ⟨k, st, rfl, _⟩ := h
    rfl
  · obtain ⟨k, st, rfl, k0, k1, s0, s1, q⟩ := h
    refine ⟨_, (pss_cons (ps_set (i := 2) sc_named.nd rfl (Or.inl rfl) (pe_ix ix_str pe_str (pe_op op_mod (pe_callTy call_int1 (by rfl) T.m_int (by decide +kernel) (pa_cons (pe_op op_add (pe_op op_mul (pv 0) pe_int) (pe_op op_fdiv (pv 1) pe_int)) pa_nil)) pe_int) (fun _ _ => rfl)))
      (pss_cons (ps_set (i := 3) sc_named.nd rfl (Or.inl rfl) (pe_op op_mod (pe_callTy call_int1 (by rfl) T.m_int (by decide +kernel) (pa_cons (pv 1) pa_nil)) pe_int))
      (pss_cons (ps_if (PW.pt (pw_and (pt_cmpR op_eq (pv 3) pe_int (nomark _)) (pw_and1 (pt_cmpR op_eq (pe_op op_mod (pe_op op_fdiv (pe_callTy call_int1 (by rfl) T.m_int (by decide +kernel) (pa_cons (pv 1) pa_nil)) pe_int) pe_int) pe_int (nomark _)))))
        (pss_cons (ps_set (i := 4) sc_named.nd rfl (Or.inl rfl) (pe_lst (pa_cons pe_str (pa_cons pe_str (pa_cons pe_str (pa_cons pe_str (pa_cons pe_str (pa_cons pe_str (pa_cons pe_str (pa_cons pe_str (pa_cons pe_str (pa_cons pe_str pa_nil))))))))))))
        (pss_one (ps_ret (pe_op op_add_str (pe_ix ix_list (pv 4) (pe_op op_mod (pe_callTy call_int1 (by rfl) T.m_int (by decide +kernel) (pa_cons (pv 0) pa_nil)) pe_int) (fun _ _ => rfl)) (pe_op op_repE pe_str (pe_op op_fdiv (pe_callTy call_int1 (by rfl) T.m_int (by decide +kernel) (pa_cons (pv 0) pa_nil)) pe_int))))))
        pss_nil)
      (pss_cons (ps_if (PW.pt (pw_and (pt_cmpR op_eq (pv 3) pe_int (nomark _)) (pw_and1 (pt_cmpR op_eq (pe_op op_mod (pe_op op_fdiv (pe_callTy call_int1 (by rfl) T.m_int (by decide +kernel) (pa_cons (pv 1) pa_nil)) pe_int) pe_int) pe_int (nomark _)))))
        (pss_one (ps_ret (pe_op op_add_str (pe_op op_repE pe_str (pe_op op_fdiv (pe_callTy call_int1 (by rfl) T.m_int (by decide +kernel) (pa_cons (pv 0) pa_nil)) pe_int)) (pe_op op_repE pe_str (pe_op op_add (pe_op op_mod (pe_callTy call_int1 (by rfl) T.m_int (by decide +kernel) (pa_cons (pv 0) pa_nil)) pe_int) pe_int)))))
        pss_nil)
      (pss_cons (ps_if (pt_cmpR op_eq (pv 3) pe_int (nomark _))
        (pss_one (ps_ret (pe_op op_add_str (pe_op op_repE pe_str (pe_op op_mod (pe_callTy call_int1 (by rfl) T.m_int (by decide +kernel) (pa_cons (pv 0) pa_nil)) pe_int)) (pv 2))))
        pss_nil)
      (pss_cons (ps_if (pt_cmpR op_eq (pv 3) pe_int (nomark _))
        (pss_cons (ps_set (i := 5) sc_named.nd rfl (Or.inl rfl) (pe_op op_add_str (pv 2) (pe_callTy call_str_int (by rfl) T.m_str (by decide +kernel) (pa_cons (pe_op op_mod (pe_callTy call_int1 (by rfl) T.m_int (by decide +kernel) (pa_cons (pe_op op_fdiv (pv 1) pe_int) pa_nil)) pe_int) pa_nil))))
        (pss_cons (ps_if (pt_cmpR op_eq (pe_op op_mod (pe_callTy call_int1 (by rfl) T.m_int (by decide +kernel) (pa_cons (pv 0) pa_nil)) pe_int) pe_int (nomark _))
          (pss_one (ps_ret (pe_op op_add_str (pv 5) (pe_op op_repE pe_str (pe_op op_sub pe_int (pe_callB call_len_str (by rfl) T.m_len (by decide +kernel) (pa_cons (pv 5) pa_nil)))))))
          pss_nil)
        (pss_one (ps_ret (pe_op op_add_str (pv 5) (pe_op op_repE pe_str (pe_op op_mod (pe_callTy call_int1 (by rfl) T.m_int (by decide +kernel) (pa_cons (pv 0) pa_nil)) pe_int)))))))
        pss_nil)
      (pss_cons (ps_if (pt_cmpR op_eq (pv 3) pe_int (nomark _))
        (pss_one (ps_ret (pe_op op_add_str pe_str (pe_callTy call_str_int (by rfl) T.m_str (by decide +kernel) (pa_cons (pe_op op_sub pe_int (pe_op op_mul pe_int (pv 0))) pa_nil)))))
        pss_nil)
      (pss_one (ps_ret (pv 2)))))))))), ?_⟩
    have hc := at_26 k st
    have one := sht_one k st
    refine ⟨_, rfl, _, _, rfl, rfl, .inr ⟨by decide, by decide⟩, _, rfl, _, _, rfl, rfl, ⟨by decide, by decide⟩, _, _, rfl, rfl, .inl ⟨_, rfl, _, _, rfl, rfl, (by show (0 : Int) < 26; decide), A26, _, _, rfl, rfl, sz9 a26_len2, hc, ?_⟩⟩
    refine ⟨_, rfl, .inl ⟨_, rfl, _, _, rfl, rfl, (by show (0 : Int) < 4; decide), ?_⟩⟩
    have Wret : st % 4 = 1 ∧ st / 4 % 2 = 1 → nameV k st = WS.getD (k % 10).toNat "" ++ repT 50 (k / 10).toNat := fun c => if_pos c
    have c50 : ("2" : Str).cps = #[50] := by decide +kernel
    have c98 : ("b" : Str).cps = #[98] := by decide +kernel
    have c97 : ("a" : Str).cps = #[97] := by decide +kernel
    have c113 : ("q" : Str).cps = #[113] := by decide +kernel
    have c120 : ("x" : Str).cps = #[120] := by decide +kernel
    refine ⟨_, rfl, rfl, _, rfl, ifI (fun a1 => ?_) (fun a1 => ?_)⟩
    · refine ⟨_, rfl, .inl ⟨_, rfl, _, _, rfl, rfl, ⟨by decide, by decide⟩, _, _, rfl, rfl, (by show (0 : Int) < 2; decide), rfl, _, rfl, ifI (fun b1 => ?_) (fun b1 => ?_)⟩⟩
      · refine ⟨by show 10 ≤ sizeLine; decide, fun l nl => ?_⟩
        refine ⟨_, rfl, _, rfl, .inl ⟨_, rfl, _, _, rfl, rfl, (by show (0 : Int) < 10; decide), l, _, _, _, rfl, rfl, .inl (.inl upd_same), ws_at k0, ?_⟩⟩
        refine ⟨_, rfl, .inl ⟨_, rfl, _, _, rfl, rfl, ⟨by decide, by decide⟩, "2", 50, _, rfl, rfl, c50, by omega, by omega, _, _, rfl, rfl, sl (ws_sht _) (sht_rep (by decide)) (by omega), ?_⟩⟩
        have hq := q _ (same_upd (o := .lst (WS.map V.str)) nl)
        rw [Wret ⟨a1, b1⟩] at hq
        exact hq
      · refine ⟨_, rfl, rfl, _, rfl, ifI (fun h => absurd h (by omega)) (fun _ => ?_)⟩
        refine ⟨_, rfl, rfl, _, rfl, ifI (fun _ => ?_) (fun h => absurd a1 h)⟩
        refine ⟨_, rfl, .inl ⟨_, rfl, _, _, rfl, rfl, (by show (0 : Int) < 3; decide), "q", 113, _, rfl, rfl, c113, by omega, by omega, ?_⟩⟩
        refine ⟨_, rfl, _, _, rfl, rfl, sl (sht_rep (by decide)) one (by omega), ?_⟩
        have hq := q _ (Same.refl H)
        rw [show nameV k st = repT 113 (k % 3).toNat ++ ⟨#[oneV k st]⟩ by unfold nameV; rw [if_neg (fun h => b1 h.2), if_neg (by omega), if_pos a1]] at hq
        exact hq
    · refine ⟨_, rfl, rfl, _, rfl, ifI (fun a3 => ?_) (fun a3 => ?_)⟩
      · refine ⟨_, rfl, .inl ⟨_, rfl, _, _, rfl, rfl, ⟨by decide, by decide⟩, _, _, rfl, rfl, (by show (0 : Int) < 2; decide), rfl, _, rfl, ifI (fun b1 => ?_) (fun b1 => ?_)⟩⟩
        · refine ⟨_, rfl, .inl ⟨_, rfl, _, _, rfl, rfl, ⟨by decide, by decide⟩, "b", 98, _, rfl, rfl, c98, by omega, by omega, ?_⟩⟩
          refine ⟨_, rfl, .inl ⟨_, rfl, _, _, rfl, rfl, (by show (0 : Int) < 7; decide), _, _, rfl, rfl, "a", 97, _, rfl, rfl, c97, by omega, by omega, _, _, rfl, rfl, sl (sht_rep (by decide)) (sht_rep (by decide)) (by omega), ?_⟩⟩
          have hq := q _ (Same.refl H)
          rw [show nameV k st = repT 98 (k / 7).toNat ++ repT 97 (k % 7 + 1).toNat by unfold nameV; rw [if_neg (by omega), if_pos ⟨a3, b1⟩]] at hq
          exact hq
        · refine ⟨_, rfl, rfl, _, rfl, ifI (fun h => absurd h (by omega)) (fun _ => ?_)⟩
          refine ⟨_, rfl, rfl, _, rfl, ifI (fun h => absurd h (by omega)) (fun _ => ?_)⟩
          refine ⟨_, rfl, rfl, _, rfl, ifI (fun _ => ?_) (fun h => absurd a3 h)⟩
          obtain ⟨m, rfl⟩ : ∃ m : Nat, k = (m : Int) := ⟨k.toNat, by omega⟩
          have hs : Sht (m7 m) 12 := (fin_of fin_m7 (show m < 16 by omega)).1
          have hl2 : (tS (100 - 7 * (m : Int))).length ≤ 12 := by
            have h1 : (m7 m).length = ("m" : Str).length + (tS (100 - 7 * (m : Int))).length := Array.size_append
            have := hs.1
            omega
          refine ⟨_, rfl, _, _, rfl, rfl, .inl ⟨by decide, by decide⟩, _, _, rfl, rfl, _, rfl, small_log (by omega), _, _, rfl, rfl, sz9 (Nat.le_trans (Nat.add_le_add (show ("m" : Str).length ≤ 1 by decide +kernel) hl2) (by decide)), ?_⟩
          have hq := q _ (Same.refl H)
          rw [show nameV (m : Int) st = ("m" : Str) ++ tS (100 - 7 * (m : Int)) by unfold nameV; rw [if_neg (by omega), if_neg (fun h => b1 h.2), if_neg (by omega), if_neg (by omega), if_pos a3]] at hq
          exact hq
      · refine ⟨_, rfl, rfl, _, rfl, ifI (fun h => absurd h a1) (fun _ => ?_)⟩
        refine ⟨_, rfl, rfl, _, rfl, ifI (fun a2 => ?_) (fun a2 => ?_)⟩
        · have base := base_len k st
          have hb := base.1
          obtain ⟨m, hm⟩ : ∃ m : Nat, st / 4 % 10000 = (m : Int) := ⟨(st / 4 % 10000).toNat, by omega⟩
          have hsm : Sht (tS (st / 4 % 10000)) 10 := by rw [hm]; exact tS_sht (by omega)
          have hN : nameV k st = if k % 4 = 3 then baseV k st ++ repT 120 (8 - ((baseV k st).length : Int)).toNat else baseV k st ++ repT 120 (k % 4).toNat := by
            unfold nameV; rw [if_neg (by omega), if_neg (by omega), if_neg (by omega), if_pos a2]
          refine ⟨_, rfl, _, rfl, _, _, rfl, rfl, ⟨by decide, by decide⟩, .inl ⟨_, rfl, _, _, rfl, rfl, (by show (0 : Int) < 10000; decide), _, rfl, small_log (by omega), ?_⟩⟩
          refine ⟨_, _, rfl, rfl, sl one hsm (by omega), ?_⟩
          refine ⟨_, rfl, .inl ⟨_, rfl, _, _, rfl, rfl, (by show (0 : Int) < 4; decide), rfl, _, rfl, ifI (fun b2 => ?_) (fun b2 => ?_)⟩⟩
          · rw [if_pos b2] at hN
            refine ⟨_, rfl, _, rfl, baseV k st, rfl, base.sz (by omega), _, _, rfl, rfl, "x", 120, _, rfl, rfl, c120, by omega, by omega, baseV k st, _, rfl, rfl, sl (n := 11) (m := 11) base ((sht_rep (c := 120) (n := (8 - ((baseV k st).length : Int)).toNat) (by decide)).le (by omega)) (by omega), ?_⟩
            have hq := q _ (Same.refl H)
            rw [hN] at hq
            exact hq
          · rw [if_neg b2] at hN
            refine ⟨_, rfl, _, rfl, .inl ⟨_, rfl, _, _, rfl, rfl, (by show (0 : Int) < 4; decide), "x", 120, _, rfl, rfl, c120, by omega, by omega, baseV k st, _, rfl, rfl, sl base (sht_rep (by decide)) (by omega), ?_⟩⟩
            have hq := q _ (Same.refl H)
            rw [hN] at hq
            exact hq
        · refine ⟨_, rfl, rfl, _, rfl, ifI (fun h => absurd h a3) (fun _ => ?_)⟩
          refine ⟨_, rfl, ?_⟩
          have hq := q _ (Same.refl H)
          rw [show nameV k st = ⟨#[oneV k st]⟩ by unfold nameV; rw [if_neg (by omega), if_neg (by omega), if_neg a1, if_neg a2, if_neg a3]] at hq
          exact hq
end
end Kx

namespace Kx
open PySem PySem.Spec PyProof.Rows L2 NdefX Kr Ke Kn Kg
theorem hu65 {k : Nat} {A : Around} (r : Room k A) : A.units + 65 < cLine := by have := r.un; omega
/-! ### pairs in the heap -/
def PrAt (H : Hp) (x : V) (p : Str × Str) : Prop := ∃ t : Addr, x = .ref t ∧ H t = some (.tup [.str p.1, .str p.2])
theorem PrAt.same {H H' : Hp} (s : Same H H') {x : V} {p : Str × Str} (h : PrAt H x p) : PrAt H' x p := let ⟨t, e, g⟩ := h; ⟨t, e, s _ _ g⟩
theorem pd_mono {α β : Type} {F G : α → β → Prop} (h : ∀ a b, F a b → G a b) : ∀ {xs : List α} {ys : List β}, Paired F xs ys → Paired G xs ys
  | _, _, .nil => .nil
  | _, _, .cons a r => .cons (h _ _ a) (pd_mono h r)
theorem pd_len {α β : Type} {F : α → β → Prop} : ∀ {xs : List α} {ys : List β}, Paired F xs ys → xs.length = ys.length
  | _, _, .nil => rfl
  | _, _, .cons a r => by rw [List.length_cons, List.length_cons, pd_len r]
theorem pd_get {α β : Type} {F : α → β → Prop} : ∀ {xs : List α} {ys : List β}, Paired F xs ys → ∀ {i : Nat} {x : α}, xs[i]? = some x → ∃ y, ys[i]? = some y ∧ F x y
  | _, _, .nil, i, x, h => by simp at h
  | _, _, .cons (a := a) (b := b) f r, 0, x, h => ⟨b, rfl, by have e : a = x := by simpa using h
                                                              exact e ▸ f⟩
  | _, _, .cons f r, i + 1, x, h => by
    obtain ⟨y, h1, h2⟩ := pd_get r (i := i) (x := x) (by simpa using h)
    exact ⟨y, by simpa using h1, h2⟩
def Prs (H : Hp) (a : Addr) (arcs : List (Str × Str)) : Prop := ∃ xs, H a = some (.lst xs) ∧ Paired (PrAt H) xs arcs
theorem Prs.same {H H' : Hp} {a : Addr} {arcs : List (Str × Str)} (h : Prs H a arcs) (s : Same H H') : Prs H' a arcs := let ⟨xs, e, p⟩ := h; ⟨xs, s _ _ e, pd_mono (fun _ _ z => z.same s) p⟩
theorem dp_prs {K : PySem.W.Frag} {H : Hp} : ∀ {xs : List V} {arcs : List (Str × Str)}, Paired (PrAt H) xs arcs → DpAll K H xs (arcs.map kPr)
  | _, _, .nil => .nil
  | _, _, .cons h r => .cons (by
    obtain ⟨t, rfl, g⟩ := h
    exact .tup (.inl (.inl g)) (.cons (.str _) (.cons (.str _) .nil))) (dp_prs r)
/-- what arcs lead to -/
def tgt (arcs : List (Str × Str)) (x : Str) : List Str := (arcs.filter fun p => decide (p.1 = x)).map (·.2)
theorem tgt_snoc (arcs : List (Str × Str)) (p : Str × Str) (x : Str) : tgt (arcs ++ [p]) x = if p.1 = x then tgt arcs x ++ [p.2] else tgt arcs x := by
  unfold tgt
  by_cases h : p.1 = x
  · simp [List.filter_append, h]
  · simp [List.filter_append, h]
theorem tgt_mem {arcs : List (Str × Str)} {x y : Str} : y ∈ tgt arcs x ↔ (x, y) ∈ arcs := by
  unfold tgt
  rw [List.mem_map]
  constructor
  · rintro ⟨p, hp, rfl⟩
    obtain ⟨h1, h2⟩ := List.mem_filter.mp hp
    have e : p.1 = x := of_decide_eq_true h2
    rw [← e]
    exact h1
  · intro h
    exact ⟨(x, y), List.mem_filter.mpr ⟨h, decide_eq_true rfl⟩, rfl⟩
theorem tgt_len (arcs : List (Str × Str)) (x : Str) : (tgt arcs x).length ≤ arcs.length := by
  unfold tgt
  rw [List.length_map]
  exact List.length_filter_le _ _
/-- the dict of what leads on -/
structure OW (H0 H1 : Hp) (d : Addr) (kvs : List (Key × V)) (arcs : List (Str × Str)) : Prop where
  at_ : H1 d = some (.dK kvs)
  len : kvs.length ≤ arcs.length
  no : ∀ x : Str, valV kvs (.inr x) = none → tgt arcs x = []
  is : ∀ (x : Str) (v : V), valV kvs (.inr x) = some v → ∃ q : Addr, v = .ref q ∧ q ≠ d ∧ H0 q = none ∧ H1 q = some (.lst ((tgt arcs x).map V.str))
  inj : ∀ (x y : Str) (q : Addr), valV kvs (.inr x) = some (.ref q) → valV kvs (.inr y) = some (.ref q) → x = y
theorem OW.more {H0 H1 H2 : Hp} {d : Addr} {kvs : List (Key × V)} {arcs : List (Str × Str)} (h : OW H0 H1 d kvs arcs) (s : Same H1 H2) : OW H0 H2 d kvs arcs :=
  ⟨s _ _ h.at_, h.len, h.no, fun x v e => let ⟨q, a, b, c, g⟩ := h.is x v e; ⟨q, a, b, c, s _ _ g⟩, h.inj⟩
def spOnward : Sp := fun vs H Q _ => ∃ (a : Addr) (arcs : List (Str × Str)), vs = [.ref a] ∧ Prs H a arcs ∧ arcs.length ≤ 400 ∧ ∀ (d : Addr) kvs H', Same H H' → H d = none → OW H H' d kvs arcs → Q (.ref d) H'
abbrev s_onward : Stmt := topS 2
abbrev N_onward : List Str := ["arcs", "onward", "one", "other"]
theorem sc_onward : FnScope N_onward ["arcs"] (defScope s_onward) := ⟨rfl, rfl, rfl, by decide +kernel, rfl, by decide +kernel, by decide +kernel⟩
section
variable {P : Program} {w : World} {K : PySem.W.Frag} {mg : Str → Option Value} {base : Heap}
theorem ok_onward {f : Addr} {fd : FuncData} (F : Fun K "_onward" "_onward" s_onward f fd) : FnOk P w K mg base CX0 1 f fd ["arcs"] spOnward := by
  refine F.ok sc_onward (fun vs H Q E h => ?_) (fun cdv A outer s H vs Q E hr h => ?_)
  · obtain ⟨a, arcs, rfl, _⟩ := h
    rfl
  · obtain ⟨a, arcs, rfl, ⟨xs, ea, hp⟩, hlen, q⟩ := h
    refine ⟨_, (pss_cons (ps_set (i := 1) sc_onward.nd rfl (Or.inl rfl) pe_dnewK)
      (pss_cons (ps_for PassesOwn.never rfl (pi_list (pv 0)) (pg_tup rfl (pgs_cons (pg_name (i := 2) sc_onward.nd rfl (Or.inl rfl)) (pgs_cons (pg_name (i := 3) sc_onward.nd rfl (Or.inl rfl)) pgs_nil)))
        (pss_one (ps_expr (pe_bm PySem.F.plainAttrs_list PySem.F.slot_list_append PySem.F.type_list_append mt_append (pe_dsetd (pv 1) (pv 2) (pe_lst pa_nil) ⟨by rfl, by rfl, by rfl, by rfl⟩) (pa_cons (pv 3) pa_nil)))))
      (pss_one (ps_ret (pv 1))))), ?_⟩
    intro d nd
    refine ⟨_, rfl, a, rfl, ⟨_, .inl (.inl (same_upd nd _ _ ea))⟩, ?_⟩
    have hl := pd_len hp
    refine for_list (xs := xs) (fun i σ H1 => ∃ (x2 x3 : Option V) (kvs : List (Key × V)), σ = [some (.ref a), some (.ref d), x2, x3] ∧ Same H H1 ∧ OW H H1 d kvs (arcs.take i))
      ⟨none, none, [], rfl, same_upd nd, upd_same, Nat.zero_le _, fun x _ => rfl, fun x v e => (by cases e), fun x y q e => (by cases e)⟩ (fun i σ H1 _ ⟨_, _, _, _, sm, _⟩ => .inl (.inl (sm _ _ ea))) ?_ ?_
    · rintro i x σ H1 hx ⟨x2, x3, kvs, rfl, sm, ow⟩
      obtain ⟨⟨one, other⟩, hy, t, rfl, et⟩ := pd_get hp hx
      have hk : arcs.take (i + 1) = arcs.take i ++ [(one, other)] := by rw [List.take_add_one, hy]; rfl
      have hi : i < arcs.length := (List.getElem?_eq_some_iff.mp hy).1
      have hkl := ow.len
      rw [List.length_take] at hkl
      have hT : ∀ x, tgt (arcs.take (i + 1)) x = if one = x then tgt (arcs.take i) x ++ [other] else tgt (arcs.take i) x := fun x => by rw [hk, tgt_snoc]
      have hTl := tgt_len (arcs.take i) one
      rw [List.length_take] at hTl
      refine ⟨t, _, rfl, .inl (.inl (sm _ _ et)), rfl, ?_⟩
      refine ⟨_, _, rfl, _, _, rfl, rfl, ?_⟩
      refine ⟨_, rfl, d, rfl, .inl ⟨kvs, .inl ow.at_⟩, _, rfl, by show 0 ≤ sizeLine; decide, fun e ne => ?_⟩
      have hde : d ≠ e := ne_of_none ow.at_ ne
      refine ⟨kvs, .inr one, (upd_ne hde).trans ow.at_, rfl, sz8 (by omega), fun v hv => ?_, fun hv => ?_⟩
      · obtain ⟨l, rfl, h1, h2, h3⟩ := ow.is one v hv
        have hle : l ≠ e := ne_of_none h3 ne
        have h3' : (upd H1 e (.lst [])) l = some (.lst ((tgt (arcs.take i) one).map V.str)) := (upd_ne hle).trans h3
        refine ⟨.inl ⟨rfl, _, .inl (.inl h3')⟩, _, rfl, l, _, _, rfl, rfl, h3', sz8 (by rw [List.length_map]; omega), ?_⟩
        have sm2 : Same H (upd (upd H1 e (.lst [])) l (.lst ((tgt (arcs.take i) one).map V.str ++ [V.str other]))) := same_mut (sm.trans (same_upd ne)) h2
        refine ⟨_, _, kvs, rfl, sm2, (upd_ne (Ne.symm h1)).trans ((upd_ne hde).trans ow.at_), by rw [List.length_take]; omega, fun x hx => ?_, fun x v hx => ?_, ow.inj⟩
        · rw [hT]
          by_cases e1 : one = x
          · rw [← e1, hv] at hx
            cases hx
          · rw [if_neg e1]
            exact ow.no x hx
        · obtain ⟨l', rfl, g1, g2, g3⟩ := ow.is x v hx
          refine ⟨l', rfl, g1, g2, ?_⟩
          rw [hT]
          by_cases e1 : one = x
          · rw [← e1, hv] at hx
            have e2 : l = l' := by injection hx with hx; injection hx
            rw [if_pos e1, ← e2, upd_same, ← e1, List.map_append]
            rfl
          · have e2 : l' ≠ l := fun e2 => e1 (ow.inj one x l hv (e2 ▸ hx))
            rw [if_neg e1, upd_ne e2, upd_ne (ne_of_none g3 ne)]
            exact g3
      · have hee : (upd (upd H1 e (.lst [])) d (.dK (putK kvs (.inr one) (.ref e)))) e = some (.lst []) := (upd_ne (Ne.symm hde)).trans upd_same
        refine ⟨.inl ⟨rfl, _, .inl (.inl hee)⟩, _, rfl, e, _, _, rfl, rfl, hee, by decide, ?_⟩
        have he0 : H e = none := sm.free ne
        have sm2 : Same H (upd (upd (upd H1 e (.lst [])) d (.dK (putK kvs (.inr one) (.ref e)))) e (.lst ([] ++ [V.str other]))) := same_mut (same_mut (sm.trans (same_upd ne)) nd) he0
        refine ⟨_, _, _, rfl, sm2, (upd_ne hde).trans upd_same, ?_, fun x hx => ?_, fun x v hx => ?_, fun x y l hx hy' => ?_⟩
        · have := length_putK kvs (.inr one) (.ref e)
          rw [List.length_take]
          omega
        · rw [valV_put] at hx
          split at hx
          · cases hx
          · rename_i h1
            rw [hT, if_neg (fun e1 => h1 (by rw [e1]))]
            exact ow.no x hx
        · rw [valV_put] at hx
          split at hx
          · rename_i h1
            have h1' : x = one := by injection h1
            injection hx with hx
            refine ⟨e, hx.symm, Ne.symm hde, he0, ?_⟩
            rw [hT, if_pos h1'.symm, h1', ow.no one hv]
            exact upd_same
          · rename_i h1
            obtain ⟨l', rfl, g1, g2, g3⟩ := ow.is x v hx
            refine ⟨l', rfl, g1, g2, ?_⟩
            have hle : l' ≠ e := ne_of_none g3 ne
            rw [hT, if_neg (fun e1 => h1 (by rw [e1])), upd_ne hle, upd_ne g1, upd_ne hle]
            exact g3
        · rw [valV_put] at hx hy'
          split at hx
          · rename_i h1
            split at hy'
            · rename_i h2
              injection h1 with h1
              injection h2 with h2
              rw [h1, h2]
            · injection hx with hx
              injection hx with hx
              subst hx
              obtain ⟨l', e1, _, _, g3⟩ := ow.is y _ hy'
              injection e1 with e1
              subst e1
              rw [g3] at ne
              cases ne
          · split at hy'
            · injection hy' with hy'
              injection hy' with hy'
              subst hy'
              obtain ⟨l', e1, _, _, g3⟩ := ow.is x _ hx
              injection e1 with e1
              subst e1
              rw [g3] at ne
              cases ne
            · exact ow.inj x y l hx hy'
    · rintro σ H1 ⟨x2, x3, kvs, rfl, sm, ow⟩
      rw [hl, List.take_length] at ow
      exact ⟨_, rfl, q d kvs H1 sm nd ow⟩
end
end Kx

namespace Kx
open PySem PySem.Spec PyProof.Rows L2 NdefX Kr Ke Kn Kg StX
theorem txt_flat (zs : List Str) : (zs.map V.str).all flatV = true := by
  rw [List.all_eq_true]
  intro x hx
  obtain ⟨z, _, rfl⟩ := List.mem_map.mp hx
  rfl
theorem inV_txt (z : Str) (zs : List Str) : inV (.str z) (zs.map V.str) = decide (z ∈ zs) := by
  show (zs.map V.str).any (fun y => eqV y (.str z)) = _
  rw [List.any_map]
  by_cases h : z ∈ zs
  · rw [decide_eq_true h, List.any_eq_true]
    exact ⟨z, h, beq_self_eq_true z⟩
  · rw [decide_eq_false h, List.any_eq_false]
    intro y hy e
    have e' : (y == z) = true := e
    exact h (beq_iff_eq.mp e' ▸ hy)
theorem at_last {l : List Str} {e : Str} (h : l.getLast? = some e) : atI (l.map V.str) (-1) = some (.str e) := by
  have hne : l ≠ [] := fun z => by rw [z] at h; cases h
  have e2 : l = l.dropLast ++ [e] := by
    have h1 := List.dropLast_concat_getLast hne
    rw [List.getLast?_eq_some_getLast hne] at h
    rw [← Option.some.inj h]
    exact h1.symm
  rw [e2, List.map_append]
  exact atI_last _ _
theorem put_new {κ : Type} [DecidableEq κ] {kvs : List (κ × V)} {k : κ} {v : V} (h : valV kvs k = none) : putK kvs k v = kvs ++ [(k, v)] := by
  unfold putK
  rw [if_neg]
  rw [valV_any, h]
  exact Bool.noConfusion
/-- a path in the heap -/
def PhAt (H1 : Hp) (P : Addr) (H : Hp) (x : V) (p : List Str) : Prop := ∃ q : Addr, x = .ref q ∧ q ≠ P ∧ H1 q = none ∧ H q = some (.lst (p.map V.str))
/-- the search's state -/
structure SS (H1 : Hp) (P S : Addr) (H : Hp) (xs : List V) (ps : List (List Str)) (sv : List (Key × V)) (es : List Str) : Prop where
  same : Same H1 H
  pt : H P = some (.lst xs)
  ph : Paired (PhAt H1 P H) xs ps
  sn : H S = some (.dK sv)
  ks : sv.map (·.1) = es.map Sum.inr
theorem SS.val {H1 : Hp} {P S : Addr} {H : Hp} {xs : List V} {ps : List (List Str)} {sv : List (Key × V)} {es : List Str} (h : SS H1 P S H xs ps sv es) (y : Str) : (valV sv (.inr y)).isSome = decide (y ∈ es) := by
  cases e : valV sv (.inr y) with
  | none =>
    have := valV_not e
    rw [h.ks] at this
    rw [decide_eq_false (fun hy => this (List.mem_map.mpr ⟨y, hy, rfl⟩))]
    rfl
  | some v =>
    have := valV_in e
    rw [h.ks] at this
    obtain ⟨z, hz, e2⟩ := List.mem_map.mp this
    injection e2 with e2
    rw [decide_eq_true (e2 ▸ hz)]
    rfl
theorem SS.more {H1 : Hp} {P S : Addr} {H H' : Hp} {xs : List V} {ps : List (List Str)} {sv : List (Key × V)} {es : List Str} (h : SS H1 P S H xs ps sv es) (s : Same H H') : SS H1 P S H' xs ps sv es :=
  ⟨h.same.trans s, s _ _ h.pt, pd_mono (fun _ _ ⟨q, a, b, b', c⟩ => ⟨q, a, b, b', s _ _ c⟩) h.ph, s _ _ h.sn, h.ks⟩
/-- one more path, behind the mark that its end is seen -/
theorem SS.add {H1 : Hp} {P S : Addr} {H : Hp} {xs : List V} {ps : List (List Str)} {sv : List (Key × V)} {es : List Str} {y : Str} {p : List Str} {l : Addr} (h : SS H1 P S H xs ps sv es) (nP : H1 P = none) (nS : H1 S = none) (hPS : P ≠ S) (hy : y ∉ es)
    (nl : (upd H S (.dK (putK sv (.inr y) (.bl true)))) l = none) :
    SS H1 P S (upd (upd (upd H S (.dK (putK sv (.inr y) (.bl true)))) l (.lst (p.map V.str))) P (.lst (xs ++ [.ref l]))) (xs ++ [.ref l]) (ps ++ [p]) (putK sv (.inr y) (.bl true)) (es ++ [y]) := by
  have hn : valV sv (.inr y) = none := by
    have := h.val y
    rw [decide_eq_false hy] at this
    cases e : valV sv (.inr y) with
    | none => rfl
    | some v => rw [e] at this; cases this
  have s1 : Same H1 (upd H S (.dK (putK sv (.inr y) (.bl true)))) := same_mut h.same nS
  have hlP : l ≠ P := fun e => by
    rw [e, upd_ne hPS, h.pt] at nl
    cases nl
  have hlS : l ≠ S := fun e => by
    rw [e, upd_same] at nl
    cases nl
  refine ⟨same_mut (same_mut s1 (s1.free nl)) nP, upd_same, .snoc (pd_mono (fun x q hx => ?_) h.ph) ⟨l, rfl, hlP, s1.free nl, (upd_ne hlP).trans upd_same⟩, ?_, ?_⟩
  · obtain ⟨b, e1, e2, e4, e3⟩ := hx
    have hbS : b ≠ S := fun e => by
      rw [e, h.sn] at e3
      cases e3
    have hbl : b ≠ l := fun e => by
      rw [← e, upd_ne hbS, e3] at nl
      cases nl
    exact ⟨b, e1, e2, e4, by rw [upd_ne e2, upd_ne hbl, upd_ne hbS]; exact e3⟩
  · rw [upd_ne (Ne.symm hPS), upd_ne (Ne.symm hlS), upd_same]
  · rw [put_new hn, List.map_append, List.map_append, h.ks]
    rfl
def spSP : Sp := fun vs H Q _ => ∃ (a g : Addr) (s : Str) (arcs : List (Str × Str)) (goals : List Str), vs = [.ref a, .str s, .ref g] ∧ Prs H a arcs ∧ arcs.length ≤ 400 ∧ H g = some (.lst (goals.map V.str)) ∧
  (∀ (p : Addr) (path : List Str) H', Same H H' → H p = none → H' p = some (.lst (path.map V.str)) → Sh arcs s goals path → Q (.ref p) H') ∧ (∀ H', Same H H' → NoW arcs s goals → Q .non H')
abbrev s_shortest_path : Stmt := topS 1
abbrev N_shortest_path : List Str := ["arcs", "start", "goals", "onward", "paths", "seen", "at", "path", "name"]
theorem sc_shortest_path : FnScope N_shortest_path ["arcs", "start", "goals"] (defScope s_shortest_path) := ⟨rfl, rfl, rfl, by decide +kernel, rfl, by decide +kernel, by decide +kernel⟩
def muS (n : Nat) : L2.St → Hp → Nat := fun σ _ => match (σ[6]? : Option (Option V)) with
  | some (some (V.int i)) => n + 2 - i.toNat
  | _ => 0
section
variable {P : Program} {w : World} {K : PySem.W.Frag} {mg : Str → Option Value} {base : Heap}
theorem ok_shortest_path {f : Addr} {fd : FuncData} (F : Fun K "shortest_path" "shortest_path" s_shortest_path f fd) (T : TxS mg) (C_onward : Cal P w K mg base "_onward" 1 spOnward) : FnOk P w K mg base CX0 2 f fd ["arcs", "start", "goals"] spSP := by
  refine F.ok sc_shortest_path (fun vs H Q E h => ?_) (fun cdv A outer s H vs Q E hr h => ?_)
  · obtain ⟨a, g, s, arcs, goals, rfl, _⟩ := h
    rfl
  · obtain ⟨a, g, s, arcs, goals, rfl, hA, hlen, hg, qf, qn⟩ := h
    refine ⟨_, (pss_cons (ps_set (i := 3) sc_shortest_path.nd rfl (Or.inl rfl) (pe_cal C_onward (hr.mono (by decide)) (by rfl) (pa_cons (pv 0) pa_nil)))
      (pss_cons (ps_set (i := 4) sc_shortest_path.nd rfl (Or.inl rfl) (pe_lst (pa_cons (pe_lst (pa_cons (pv 1) pa_nil)) pa_nil)))
      (pss_cons (ps_set (i := 5) sc_shortest_path.nd rfl (Or.inl rfl) (pe_disp (pps_cons (pv 1) pe_bl pps_nil) (by rfl) (by rfl) (fun z => by cases z) (by decide)))
      (pss_cons (ps_set (i := 6) sc_shortest_path.nd rfl (Or.inl rfl) pe_int)
      (pss_cons (ps_while PassesOwn.never (pt_cmpR op_lt (pv 6) (pe_callB call_len_seq (by rfl) T.m_len (by decide +kernel) (pa_cons (pv 4) pa_nil)) (nomark _))
        (pss_cons (ps_set (i := 7) sc_shortest_path.nd rfl (Or.inl rfl) (pe_ix ix_list (pv 4) (pv 6) (fun _ _ => rfl)))
        (pss_cons (ps_if (pt_cmpR op_in_seq (pe_ix ix_list (pv 7) (pe_un un_neg pe_int) (fun _ _ => rfl)) (pv 2) (by rfl))
          (pss_one (ps_ret (pv 7)))
          pss_nil)
        (pss_cons (ps_for PassesOwn.never rfl (pi_list (pe_dget2 (hu_of hr) (pv 3) (pe_ix ix_list (pv 7) (pe_un un_neg pe_int) (fun _ _ => rfl)) (pe_lst pa_nil) ⟨by rfl, by rfl, by rfl, by rfl⟩)) (pg_name (i := 8) sc_shortest_path.nd rfl (Or.inl rfl))
          (pss_one (ps_if (pt_cmp (pc_dnotin (hu_of hr) (pv 8) (pv 5)))
            (pss_cons (ps_dput (hu_of hr) (pv 5) (pv 8) pe_bl rfl)
            (pss_one (ps_expr (pe_bm PySem.F.plainAttrs_list PySem.F.slot_list_append PySem.F.type_list_append mt_append (pv 4) (pa_cons (pe_lst (pa_star (pv 7) (pa_cons (pv 8) pa_nil))) pa_nil)))))
            pss_nil)))
        (pss_one (ps_set (i := 6) sc_shortest_path.nd rfl (Or.inl rfl) (pe_op op_add (pv 6) pe_int)))))))
      (pss_one (ps_ret pe_non))))))), ?_⟩
    refine ⟨_, rfl, a, arcs, rfl, hA, hlen, fun d kvs H1 s1 nd ow => ?_⟩
    refine ⟨_, rfl, by show 1 ≤ sizeLine; decide, fun l0 nl0 => ⟨by show 1 ≤ sizeLine; decide, fun P nP => ?_⟩⟩
    intro S nS
    refine ⟨_, rfl, upd_same, [(.inr s, .bl true)], rfl, by show 1 ≤ 15; decide, ?_⟩
    have nP1 : H1 P = none := (same_upd nl0).free nP
    have hl0P : l0 ≠ P := fun e => by rw [← e, upd_same] at nP; cases nP
    have nS2 := (same_upd nP).free nS
    have nS1 : H1 S = none := (same_upd nl0).free nS2
    have hPS : P ≠ S := fun e => by rw [← e, upd_same] at nS; cases nS
    have hl0S : l0 ≠ S := fun e => by rw [← e, upd_ne hl0P, upd_same] at nS; cases nS
    have hini : SS H1 P S (upd (upd (upd (upd H1 l0 (.lst [V.str s])) P (.lst [V.ref l0])) S (.dK [])) S (.dK (mergeK [] [(Sum.inr s, V.bl true)]))) [V.ref l0] [[s]] [(Sum.inr s, V.bl true)] [s] :=
      ⟨same_mut (same_mut ((same_upd nl0).trans (same_upd nP)) nS1) nS1, by rw [upd_ne hPS, upd_ne hPS, upd_same], .cons ⟨l0, rfl, hl0P, nl0, by rw [upd_ne hl0S, upd_ne hl0S, upd_ne hl0P, upd_same]; rfl⟩ .nil, upd_same, rfl⟩
    refine while_by (fun σ Hx => ∃ (k : Nat) (x7 x8 : Option V) (xs : List V) (ps : List (List Str)) (sv : List (Key × V)) (es : List Str), σ = [some (.ref a), some (.str s), some (.ref g), some (.ref d), some (.ref P), some (.ref S), some (.int (k : Int)), x7, x8] ∧ SS H1 P S Hx xs ps sv es ∧ BI arcs s goals ps es k)
      (muS arcs.length) ⟨0, none, none, _, [[s]], _, [s], rfl, hini, bi_start arcs s goals⟩ ?_ ?_
    · rintro σ Hx ⟨k, x7, x8, xs, ps, sv, es, rfl, ss, bi⟩
      have hxl := pd_len ss.ph
      have hbd := bi.bound
      refine ⟨_, rfl, _, rfl, P, _, rfl, .inl (.inl (.inl ss.pt)), _, _, rfl, rfl, _, rfl, iteB (fun hk => ?_) (fun hk => ?_)⟩
      · have hk' : k < ps.length := by have := of_decide_eq_true hk; omega
        obtain ⟨x, hx⟩ : ∃ x, xs[k]? = some x := ⟨xs[k]'(by omega), List.getElem?_eq_getElem (by omega)⟩
        obtain ⟨p0, hp0, q0, rfl, hqP, nq1, eq0⟩ := pd_get ss.ph hx
        obtain ⟨e0, he0, w0, nd0, sub0⟩ := bi.wk k p0 hp0
        have hlast := at_last w0.last
        refine ⟨_, rfl, _, rfl, P, _, (k : Int), _, rfl, rfl, .inl (.inl ss.pt), atI_nat hx, ?_⟩
        refine ⟨_, rfl, _, rfl, q0, _, _, _, rfl, rfl, .inl (.inl eq0), hlast, _, rfl, g, _, rfl, .inl (.inl (.inl (ss.same _ _ (s1 _ _ hg)))), rfl, txt_flat goals, _, rfl, ?_⟩
        rw [if_neg Bool.false_ne_true, inV_txt]
        refine iteB (fun hG => ?_) (fun hG => ?_)
        · exact ⟨_, rfl, qf q0 p0 Hx (s1.trans ss.same) (s1.free nq1) eq0 (bi.found hp0 he0 (of_decide_eq_true hG))⟩
        · have hG' : e0 ∉ goals := of_decide_eq_false hG
          have ow' := ow.more ss.same
          refine ⟨_, rfl, d, rfl, .inl ⟨kvs, .inl ow'.at_⟩, _, rfl, _, rfl, q0, _, _, _, rfl, rfl, .inl (.inl eq0), hlast, by show 0 ≤ sizeLine; decide, fun e ne => ?_⟩
          have se : Same Hx (upd Hx e (.lst [])) := same_upd ne
          obtain ⟨L, hL1, hL2, hLP⟩ : ∃ L : Addr, (valV kvs (.inr e0)).getD (.ref e) = .ref L ∧ (upd Hx e (.lst [])) L = some (.lst ((tgt arcs e0).map V.str)) ∧ L ≠ P := by
            cases ev : valV kvs (.inr e0) with
            | none => exact ⟨e, rfl, by rw [upd_same, ow'.no e0 ev]; rfl, fun h => by rw [h, ss.pt] at ne; cases ne⟩
            | some v =>
              obtain ⟨q, rfl, _, _, g3⟩ := ow'.is e0 v ev
              obtain ⟨q', e1, _, _, g4⟩ := ow.is e0 _ ev
              injection e1 with e1
              subst e1
              exact ⟨q, rfl, se _ _ g3, fun h => by rw [h, nP1] at g4; cases g4⟩
          refine ⟨_, DGet.k (k := .inr e0) (se _ _ ow'.at_), L, hL1, ⟨_, .inl (.inl hL2)⟩, ?_⟩
          refine for_list (xs := (tgt arcs e0).map V.str) (fun j σ Hz => ∃ (x8 : Option V) (xs : List V) (ps : List (List Str)) (sv : List (Key × V)) (es : List Str), σ = [some (.ref a), some (.str s), some (.ref g), some (.ref d), some (.ref P), some (.ref S), some (.int (k : Int)), some (.ref q0), x8] ∧
              SS H1 P S Hz xs ps sv es ∧ BI arcs s goals ps es k ∧ ps[k]? = some p0 ∧ es[k]? = some e0 ∧ (∀ y ∈ (tgt arcs e0).take j, y ∈ es) ∧ Hz q0 = some (.lst (p0.map V.str)) ∧ Hz L = some (.lst ((tgt arcs e0).map V.str)))
            ⟨x8, xs, ps, sv, es, rfl, ss.more se, bi, hp0, he0, fun y hy => by simp at hy, se _ _ eq0, hL2⟩ (fun j σ Hz _ ⟨_, _, _, _, _, _, _, _, _, _, _, _, eL⟩ => .inl (.inl eL)) ?_ ?_
          · rintro j x σ Hz hxj ⟨x8, xs, ps, sv, es, rfl, ss, bi, hp0, he0, hsub, eq0, eL⟩
            obtain ⟨y, hyj, rfl⟩ : ∃ y, (tgt arcs e0)[j]? = some y ∧ x = .str y := by
              rw [List.getElem?_map] at hxj
              cases ey : (tgt arcs e0)[j]? with
              | none => rw [ey] at hxj; cases hxj
              | some n => rw [ey] at hxj; exact ⟨n, rfl, (Option.some.inj hxj).symm⟩
            have hbd := bi.bound
            have hxl := pd_len ss.ph
            have hsl : sv.length = ps.length := by
              have := congrArg List.length ss.ks
              rw [List.length_map, List.length_map] at this
              rw [this, bi.len]
            have htk : (tgt arcs e0).take (j + 1) = (tgt arcs e0).take j ++ [y] := by rw [List.take_add_one, hyj]; rfl
            refine ⟨_, rfl, _, rfl, S, _, rfl, DGet.k (k := .inr y) ss.sn, _, rfl, ?_⟩
            rw [ss.val]
            refine iteB (fun hy => ?_) (fun hy => ?_)
            · have hy' : y ∉ es := by simpa using hy
              have hqS : q0 ≠ S := fun h => by rw [h, ss.sn] at eq0; cases eq0
              have hLS : L ≠ S := fun h => by rw [h, ss.sn] at eL; cases eL
              have hpl := bi.path_le hp0
              refine ⟨_, rfl, _, rfl, S, _, rfl, DPut.k (k := .inr y) ss.sn (sz8 (by omega)), ?_⟩
              have e4 : (upd Hz S (.dK (putK sv (.inr y) (.bl true)))) P = some (.lst xs) := (upd_ne hPS).trans ss.pt
              have e7 : (upd Hz S (.dK (putK sv (.inr y) (.bl true)))) q0 = some (.lst (p0.map V.str)) := (upd_ne hqS).trans eq0
              refine ⟨_, rfl, .inl ⟨rfl, _, .inl (.inl e4)⟩, _, rfl, q0, _, rfl, .inr (.inl (.inl e7)), _, rfl, sz9 (by rw [List.length_append, List.length_map]; show p0.length + 1 ≤ 100000; omega), fun l nl => ?_⟩
              have hlP : P ≠ l := ne_of_none e4 nl
              refine ⟨P, _, _, rfl, rfl, (upd_ne hlP).trans e4, sz8 (by omega), ?_⟩
              have hadd := ss.add (p := p0 ++ [y]) nP1 nS1 hPS hy' nl
              rw [List.map_append] at hadd
              have hk2 : k < ps.length := (List.getElem?_eq_some_iff.mp hp0).1
              refine ⟨_, _, _, _, _, rfl, hadd, bi.add hp0 he0 hy' (tgt_mem.mp (List.mem_of_getElem? hyj)), (List.getElem?_append_left hk2).trans hp0, (List.getElem?_append_left (by rw [bi.len]; exact hk2)).trans he0, fun z hz => ?_, ?_, ?_⟩
              · rw [htk] at hz
                rcases List.mem_append.mp hz with hz | hz
                · exact List.mem_append_left _ (hsub z hz)
                · exact List.mem_append_right _ hz
              · rw [upd_ne hqP, upd_ne (ne_of_none e7 nl)]
                exact e7
              · have e8 : (upd Hz S (.dK (putK sv (.inr y) (.bl true)))) L = some (.lst ((tgt arcs e0).map V.str)) := (upd_ne hLS).trans eL
                rw [upd_ne hLP, upd_ne (ne_of_none e8 nl)]
                exact e8
            · have hy' : y ∈ es := by simpa using hy
              refine ⟨_, xs, ps, sv, es, rfl, ss, bi, hp0, he0, fun z hz => ?_, eq0, eL⟩
              rw [htk] at hz
              rcases List.mem_append.mp hz with hz | hz
              · exact hsub z hz
              · rw [List.mem_singleton.mp hz]
                exact hy'
          · rintro σ Hz ⟨x8, xs, ps, sv, es, rfl, ss, bi, hp0, he0, hsub, eq0, eL⟩
            have bi' := bi.next hp0 he0 hG' (fun y hy => hsub y (by rw [List.length_map, List.take_length]; exact tgt_mem.mpr hy))
            have hk2 : k < ps.length := (List.getElem?_eq_some_iff.mp hp0).1
            have hbd := bi.bound
            refine ⟨_, rfl, _, _, rfl, rfl, ⟨k + 1, _, _, xs, ps, sv, es, rfl, ss, bi'⟩, ?_⟩
            show arcs.length + 2 - ((k : Int) + 1).toNat < arcs.length + 2 - (k : Int).toNat
            omega
      · have hk' : ¬ k < xs.length := by have := of_decide_eq_false hk; omega
        have hke : k = ps.length := by have := bi.le; omega
        subst hke
        exact qn Hx (s1.trans ss.same) bi.none
    · intro σ H Q Q' hQ h
      obtain ⟨v, e1, v2, e2, p, xs, e3, e4, i, j, e5, e6, k, e7, h⟩ := h
      exact ⟨v, e1, v2, e2, p, xs, e3, e4, i, j, e5, e6, k, e7, hQ _ _ h⟩
end
end Kx

namespace Kx
open PySem PySem.Spec PyProof.Rows L2 NdefX Kr Ke Kn Kg
/-! ### drawn names and arcs -/
def bitV (mask : Int) (j : Nat) : Bool := decide (mask / 2 ^ j % 2 = 1)
def pickV (mask : Int) (n : Nat) (st : Int) : List Str := ((List.range n).filter (bitV mask)).map fun j : Nat => nameV (j : Int) st
theorem pick_succ (mask : Int) (n : Nat) (st : Int) : pickV mask (n + 1) st = if bitV mask n = true then pickV mask n st ++ [nameV (n : Int) st] else pickV mask n st := by
  unfold pickV
  rw [List.range_succ, List.filter_append, List.map_append]
  by_cases h : bitV mask n = true
  · rw [if_pos h, List.filter_cons_of_pos h]
    rfl
  · rw [if_neg h, List.filter_cons_of_neg h]
    simp
theorem pick_len (mask : Int) (n : Nat) (st : Int) : (pickV mask n st).length ≤ n := by
  unfold pickV
  rw [List.length_map]
  have := List.length_filter_le (bitV mask) (List.range n)
  rw [List.length_range] at this
  exact this
theorem pick_mem {mask : Int} {n : Nat} {st : Int} {z : Str} (h : z ∈ pickV mask n st) : ∃ j, j < n ∧ z = nameV (j : Int) st := by
  unfold pickV at h
  obtain ⟨j, hj, e⟩ := List.mem_map.mp h
  exact ⟨j, List.mem_range.mp (List.mem_filter.mp hj).1, e.symm⟩
def spPicked : Sp := fun vs H Q _ => ∃ (mask : Int) (n : Nat) (st : Int), vs = [.int mask, .int (n : Int), .int st] ∧ 0 ≤ mask ∧ n ≤ 16 ∧ 0 ≤ st ∧ st < 70000 ∧ ∀ p H', Same H H' → H p = none → H' p = some (.lst ((pickV mask n st).map V.str)) → Q (.ref p) H'
abbrev s_picked : Stmt := topS 8
abbrev N_picked : List Str := ["_law_mask", "_law_many", "_law_style", "_law_picked_here", "_law_j"]
theorem sc_picked : FnScope N_picked ["_law_mask", "_law_many", "_law_style"] (defScope s_picked) := ⟨rfl, rfl, rfl, by decide +kernel, rfl, by decide +kernel, by decide +kernel⟩
/-- arcs between the first names -/
def Arcs (m : Nat) (st : Int) (arcs : List (Str × Str)) : Prop := ∀ p ∈ arcs, ∃ i j : Nat, i < m ∧ j < m ∧ p = (nameV (i : Int) st, nameV (j : Int) st)
def spArcs (K : PySem.W.Frag) : Sp := fun vs H Q _ => ∃ (p : Addr) (ms : List Int) (m : Nat) (st : Int), vs = [.ref p, .int (m : Int), .int st] ∧ SqL K H p (ms.map V.int) ∧ Pool ms ∧ 1 ≤ m ∧ m ≤ 16 ∧ 0 ≤ st ∧ st < 70000 ∧
  ∀ (a : Addr) (arcs : List (Str × Str)) H', Same H H' → H a = none → Prs H' a arcs → Arcs m st arcs → arcs.length ≤ 45 → arcs.Nodup → Q (.ref a) H'
abbrev s_arcs_of : Stmt := topS 7
abbrev N_arcs_of : List Str := ["_law_pool", "_law_many", "_law_style", "_law_arcs", "_law_k", "_law_draw", "_law_one", "_law_two", "_law_pair"]
theorem sc_arcs_of : FnScope N_arcs_of ["_law_pool", "_law_many", "_law_style"] (defScope s_arcs_of) := ⟨rfl, rfl, rfl, by decide +kernel, rfl, by decide +kernel, by decide +kernel⟩
theorem Arcs.sht {m : Nat} {st : Int} {arcs : List (Str × Str)} (h : Arcs m st arcs) (hm : m ≤ 16) : ∀ p ∈ arcs, Sht p.1 20 ∧ Sht p.2 20 := fun p hp => by
  obtain ⟨i, j, hi, hj, rfl⟩ := h p hp
  exact ⟨(name_facts (by omega) (by omega)).1, (name_facts (by omega) (by omega)).1⟩
theorem prs_more {H H' : Hp} {a : Addr} {xs : List V} {arcs : List (Str × Str)} (h : Paired (PrAt H) xs arcs) (s : Same H H') : Paired (PrAt H') xs arcs := pd_mono (fun _ _ z => z.same s) h
/-- the list itself may change: the pairs stand -/
theorem prs_mut {H : Hp} {a : Addr} {ys : List V} {o : HO} (ha : H a = some (.lst ys)) : ∀ {xs : List V} {arcs : List (Str × Str)}, Paired (PrAt H) xs arcs → Paired (PrAt (upd H a o)) xs arcs := fun h => pd_mono (fun x p ⟨t, e, g⟩ => ⟨t, e, by
  rw [upd_ne (fun z => by rw [z, ha] at g; cases g)]
  exact g⟩) h
section
variable {P : Program} {w : World} {K : PySem.W.Frag} {mg : Str → Option Value} {base : Heap}
theorem ok_picked {f : Addr} {fd : FuncData} (F : Fun K "_law_picked" "_law_picked" s_picked f fd) (T : TxS mg) (C_named : Cal P w K mg base "_law_named" 1 spNamed) : FnOk P w K mg base CX0 2 f fd ["_law_mask", "_law_many", "_law_style"] spPicked := by
  refine F.ok sc_picked (fun vs H Q E h => ?_) (fun cdv A outer s H vs Q E hr h => ?_)
  · obtain ⟨mask, n, st, rfl, _⟩ := h
    rfl
  · obtain ⟨mask, n, st, rfl, h0, hn, s0, s1, q⟩ := h
    refine ⟨_, (pss_cons (ps_set (i := 3) sc_picked.nd rfl (Or.inl rfl) (pe_lst pa_nil))
      (pss_cons (ps_for PassesOwn.never rfl (pi_range1 (by rfl) T.m_range (pa_cons (pv 1) pa_nil)) (pg_name (i := 4) sc_picked.nd rfl (Or.inl rfl))
        (pss_one (ps_if (pt_cmpR op_eq (pe_op op_mod (pe_callTy call_int1 (by rfl) T.m_int (by decide +kernel) (pa_cons (pe_op op_shr (pv 0) (pv 4)) pa_nil)) pe_int) pe_int (nomark _))
          (pss_one (ps_expr (pe_bm PySem.F.plainAttrs_list PySem.F.slot_list_append PySem.F.type_list_append mt_append (pv 3) (pa_cons (pe_cal C_named (hr.mono (by decide)) (by rfl) (pa_cons (pv 4) (pa_cons (pv 2) pa_nil))) pa_nil))))
          pss_nil)))
      (pss_one (ps_ret (pv 3))))), ?_⟩
    refine ⟨by show 0 ≤ sizeLine; decide, fun l nl => ?_⟩
    refine ⟨_, rfl, (n : Int), rfl, by omega, by omega, ?_⟩
    refine for_range (lo := 0) (n := ((n : Int)).toNat) (fun i σ H1 => ∃ x4 : Option V, σ = [some (.int mask), some (.int (n : Int)), some (.int st), some (.ref l), x4] ∧ Same H H1 ∧ H1 l = some (.lst ((pickV mask i st).map V.str)))
      ⟨none, rfl, same_upd nl, upd_same⟩ ?_ ?_
    · rintro i σ H1 hi ⟨x4, rfl, sm, el⟩
      have hi' : i < n := by omega
      have hpl := pick_len mask i st
      refine ⟨_, rfl, _, rfl, mask, _, rfl, rfl, by omega, .inl ⟨_, rfl, _, _, rfl, rfl, (by show (0 : Int) < 2; decide), rfl, _, rfl, ifI (fun hb => ?_) (fun hb => ?_)⟩⟩
      · have hb' : bitV mask i = true := decide_eq_true (by rw [show ((0 : Int) + (i : Int)).toNat = i by omega] at hb; exact hb)
        refine ⟨_, rfl, .inl ⟨rfl, _, .inl (.inl el)⟩, _, rfl, _, rfl, _, st, rfl, by omega, by omega, s0, s1, fun H2 s2 => ?_⟩
        have el2 := s2 _ _ el
        refine ⟨l, _, _, rfl, rfl, el2, sz8 (by rw [List.length_map]; omega), ?_⟩
        refine ⟨_, rfl, same_mut (sm.trans s2) nl, ?_⟩
        rw [upd_same, pick_succ, if_pos hb', List.map_append, Int.zero_add]
        rfl
      · have hb' : ¬ bitV mask i = true := fun h => hb (by
          have := of_decide_eq_true h
          rw [show ((0 : Int) + (i : Int)).toNat = i by omega]
          exact this)
        refine ⟨_, rfl, sm, ?_⟩
        rw [pick_succ, if_neg hb']
        exact el
    · rintro σ H1 ⟨x4, rfl, sm, el⟩
      exact ⟨_, rfl, q l H1 sm nl (by rw [Int.toNat_natCast] at el; exact el)⟩
theorem ok_arcs_of {f : Addr} {fd : FuncData} (F : Fun K "_law_arcs_of" "_law_arcs_of" s_arcs_of f fd) (T : TxS mg) (C_nth : Cal P w K mg base "_law_nth" 1 (spNth K)) (C_named : Cal P w K mg base "_law_named" 1 spNamed) : FnOk P w K mg base CX0 2 f fd ["_law_pool", "_law_many", "_law_style"] (spArcs K) := by
  refine F.ok sc_arcs_of (fun vs H Q E h => ?_) (fun cdv A outer s H vs Q E hr h => ?_)
  · obtain ⟨p, ms, m, st, rfl, _⟩ := h
    rfl
  · obtain ⟨p, ms, m, st, rfl, hS, hP, hm1, hm2, s0, s1, q⟩ := h
    refine ⟨_, (pss_cons (ps_set (i := 3) sc_arcs_of.nd rfl (Or.inl rfl) (pe_lst pa_nil))
      (pss_cons (ps_for PassesOwn.never rfl (pi_range1 (by rfl) T.m_range (pa_cons (pe_op op_mod (pe_callTy call_int1 (by rfl) T.m_int (by decide +kernel) (pa_cons (pe_ix ix_list (pv 0) pe_int (fun _ _ => rfl)) pa_nil)) pe_int) pa_nil)) (pg_name (i := 4) sc_arcs_of.nd rfl (Or.inl rfl))
        (pss_cons (ps_set (i := 5) sc_arcs_of.nd rfl (Or.inl rfl) (pe_cal C_nth (hr.mono (by decide)) (by rfl) (pa_cons (pv 0) (pa_cons (pe_op op_add pe_int (pv 4)) pa_nil))))
        (pss_cons (ps_set (i := 6) sc_arcs_of.nd rfl (Or.inl rfl) (pe_op op_mod (pe_op op_mod (pe_callTy call_int1 (by rfl) T.m_int (by decide +kernel) (pa_cons (pv 5) pa_nil)) pe_int) (pv 1)))
        (pss_cons (ps_set (i := 7) sc_arcs_of.nd rfl (Or.inl rfl) (pe_op op_mod (pe_op op_mod (pe_op op_fdiv (pe_callTy call_int1 (by rfl) T.m_int (by decide +kernel) (pa_cons (pv 5) pa_nil)) pe_int) pe_int) (pv 1)))
        (pss_cons (ps_set (i := 8) sc_arcs_of.nd rfl (Or.inl rfl) (pe_tup (pa_cons (pe_cal C_named (hr.mono (by decide)) (by rfl) (pa_cons (pv 6) (pa_cons (pv 2) pa_nil))) (pa_cons (pe_cal C_named (hr.mono (by decide)) (by rfl) (pa_cons (pv 7) (pa_cons (pv 2) pa_nil))) pa_nil))))
        (pss_one (ps_if (PW.pt (pw_and (pt_cmpR op_ne (pv 6) (pv 7) (nomark _)) (pw_and1 (pt_cmpR (op_notInD (hu65 hr)) (pv 8) (pv 3) (by rfl)))))
          (pss_one (ps_expr (pe_bm PySem.F.plainAttrs_list PySem.F.slot_list_append PySem.F.type_list_append mt_append (pv 3) (pa_cons (pv 8) pa_nil))))
          pss_nil)))))))
      (pss_one (ps_ret (pv 3))))), ?_⟩
    have hlo := hP.lo
    have r1 := (getD_rg hP.rg (i := 1) (by omega)).2
    obtain ⟨r1a, r1b⟩ := r1
    have r1a' : 0 ≤ ms.getD (Int.toNat 1) 0 := r1a
    refine ⟨by show 0 ≤ sizeLine; decide, fun l nl => ?_⟩
    have sl0 : Same H (upd H l (.lst [])) := same_upd nl
    refine ⟨_, rfl, p, _, 1, _, rfl, rfl, sl0.seq hS, at_pool (by decide) (by omega), .inl ⟨_, rfl, _, _, rfl, rfl, (by show (0 : Int) < 46; decide), _, rfl, by omega, by omega, ?_⟩⟩
    refine for_range (lo := 0) (n := (ms.getD (Int.toNat 1) 0 % 46).toNat) (fun i σ H1 => ∃ (x4 x5 x6 x7 x8 : Option V) (xs : List V) (arcs : List (Str × Str)), σ = [some (.ref p), some (.int (m : Int)), some (.int st), some (.ref l), x4, x5, x6, x7, x8] ∧ Same H H1 ∧ H1 l = some (.lst xs) ∧ Paired (PrAt H1) xs arcs ∧ Arcs m st arcs ∧ arcs.length ≤ i ∧ arcs.Nodup)
      ⟨none, none, none, none, none, [], [], rfl, sl0, upd_same, .nil, fun p hp => (by cases hp), Nat.le_refl _, by simp⟩ ?_ ?_
    · rintro i σ H1 hi ⟨x4, x5, x6, x7, x8, xs, arcs, rfl, sm, el, hp, hA, hal, hnd⟩
      have hi' : i < 46 := by omega
      have hd := nthV_rg hP (k := 3 + (0 + (i : Int))) (by omega)
      obtain ⟨hd0, hd1⟩ := hd
      refine ⟨_, rfl, _, rfl, _, _, rfl, rfl, p, ms, _, rfl, sm.seq hS, hP, by omega, by omega, ?_⟩
      generalize nthV ms (3 + (0 + (i : Int))) = dr at hd0 hd1 ⊢
      refine ⟨_, rfl, .inl ⟨_, rfl, _, _, rfl, rfl, (by show (0 : Int) < 16; decide), _, rfl, _, _, rfl, rfl, (by show (0 : Int) < (m : Int); omega), ?_⟩⟩
      refine ⟨_, rfl, .inl ⟨_, rfl, _, _, rfl, rfl, ⟨by decide, by decide⟩, _, _, rfl, rfl, (by show (0 : Int) < 16; decide), _, rfl, _, _, rfl, rfl, (by show (0 : Int) < (m : Int); omega), ?_⟩⟩
      have a0 := Int.emod_nonneg (dr % 16) (show (m : Int) ≠ 0 by omega)
      have a1 := Int.emod_lt_of_pos (dr % 16) (show 0 < (m : Int) by omega)
      have b0 := Int.emod_nonneg (dr / 16 % 16) (show (m : Int) ≠ 0 by omega)
      have b1 := Int.emod_lt_of_pos (dr / 16 % 16) (show 0 < (m : Int) by omega)
      obtain ⟨u, hu⟩ : ∃ u : Nat, dr % 16 % (m : Int) = (u : Int) := ⟨(dr % 16 % (m : Int)).toNat, by omega⟩
      obtain ⟨v, hv⟩ : ∃ v : Nat, dr / 16 % 16 % (m : Int) = (v : Int) := ⟨(dr / 16 % 16 % (m : Int)).toNat, by omega⟩
      rw [hu] at a0 a1
      rw [hv] at b0 b1
      simp only [hu, hv]
      refine ⟨_, rfl, _, rfl, (u : Int), st, rfl, by omega, by omega, s0, s1, fun H2 s2 => ?_⟩
      refine ⟨_, rfl, _, rfl, (v : Int), st, rfl, by omega, by omega, s0, s1, fun H3 s3 => ⟨by show 2 ≤ sizeLine; decide, fun t nt => ?_⟩⟩
      have s23 := s2.trans s3
      have st4 : Same H1 (upd H3 t (.tup [.str (nameV (u : Int) st), .str (nameV (v : Int) st)])) := s23.trans (same_upd nt)
      have el4 := st4 _ _ el
      have hpt : PrAt (upd H3 t (.tup [.str (nameV (u : Int) st), .str (nameV (v : Int) st)])) (.ref t) (nameV (u : Int) st, nameV (v : Int) st) := ⟨t, rfl, upd_same⟩
      have hA1 : Arcs m st (arcs ++ [(nameV (u : Int) st, nameV (v : Int) st)]) := fun q hq => by
        rcases List.mem_append.mp hq with hq | hq
        · exact hA q hq
        · exact ⟨u, v, by omega, by omega, List.mem_singleton.mp hq⟩
      have hsh := hA.sht hm2
      have hst4 : Paired (PrAt (upd H3 t (.tup [.str (nameV (u : Int) st), .str (nameV (v : Int) st)]))) xs arcs := pd_mono (fun _ _ z => z.same st4) hp
      refine ⟨_, rfl, _, rfl, rfl, _, rfl, iteB (fun hne => ?_) (fun hne => ?_)⟩
      · have hshp : SeqAt.shaped (kPr (nameV (u : Int) st, nameV (v : Int) st)) = true := shp_pr (n := 20) ⟨(name_facts (by omega) (by omega)).1, (name_facts (by omega) (by omega)).1⟩
        refine ⟨_, rfl, _, rfl, kPr (nameV (u : Int) st, nameV (v : Int) st), arcs.map kPr, .tup (.inl (.inl upd_same)) (.cons (.str _) (.cons (.str _) .nil)), .lst (.inl (.inl el4)) (dp_prs hst4), hshp, shp_prs hsh, _, rfl, ?_⟩
        rw [any_pr]
        refine iteB (fun hni => ?_) (fun hni => ?_)
        · have hni' : (nameV (u : Int) st, nameV (v : Int) st) ∉ arcs := by simpa using hni
          refine ⟨_, rfl, .inl ⟨rfl, _, .inl (.inl el4)⟩, _, rfl, l, _, _, rfl, rfl, el4, sz8 (by have := pd_len hp; omega), ?_⟩
          refine ⟨_, _, _, _, _, _, _, rfl, same_mut (sm.trans st4) nl, upd_same, .snoc (prs_mut el4 hst4) ⟨t, rfl, ?_⟩, hA1, by rw [List.length_append]; show arcs.length + 1 ≤ i + 1; omega, ?_⟩
          · rw [upd_ne (fun z => by rw [← z, upd_same] at el4; cases el4)]
            exact upd_same
          · rw [List.nodup_append]
            refine ⟨hnd, by simp, fun a ha b hb e => ?_⟩
            rw [List.mem_singleton.mp hb] at e
            exact hni' (e ▸ ha)
        · exact ⟨_, _, _, _, _, xs, arcs, rfl, sm.trans st4, el4, hst4, hA, by omega, hnd⟩
      · exact ⟨_, _, _, _, _, xs, arcs, rfl, sm.trans st4, el4, hst4, hA, by omega, hnd⟩
    · rintro σ H1 ⟨x4, x5, x6, x7, x8, xs, arcs, rfl, sm, el, hp, hA, hal, hnd⟩
      exact ⟨_, rfl, q l arcs H1 sm nl ⟨xs, el, hp⟩ hA (by omega) hnd⟩
end
end Kx

namespace Kx
open PySem PySem.Spec PyProof.Rows L2 NdefX Kr Ke Kn Kg
theorem str_get {zs : List Str} {j : Nat} {x : V} (h : (zs.map V.str)[j]? = some x) : ∃ y, zs[j]? = some y ∧ x = .str y := by
  rw [List.getElem?_map] at h
  cases e : zs[j]? with
  | none => rw [e] at h; cases h
  | some n => rw [e] at h; exact ⟨n, rfl, (Option.some.inj h).symm⟩
theorem take_one {α : Type} {zs : List α} {j : Nat} {y : α} (h : zs[j]? = some y) : zs.take (j + 1) = zs.take j ++ [y] := by
  rw [List.take_add_one, h]
  rfl
theorem cut_take {zs : List Str} {k : Nat} (h : k ≤ zs.length) : cutV (zs.map V.str) none (some (k : Int)) = (zs.take k).map V.str := by
  unfold cutV
  rw [HT.sIx_none, HT.sIx_nat, List.drop_zero, Nat.sub_zero, List.length_map, Nat.min_eq_left h, List.map_take]
theorem eqv_nil2 (p : List Str) : PyData.eqv (.list (tD p)) (.list []) = decide (p = []) := by
  have := eqv_txts p []
  simp only [PyData.eqv]
  exact this
def spSteps : Sp := fun vs H Q _ => ∃ (a g : Addr) (s : Str) (arcs : List (Str × Str)) (goals : List Str), vs = [.ref a, .str s, .ref g] ∧ Prs H a arcs ∧ arcs.length ≤ 50 ∧ H g = some (.lst (goals.map V.str)) ∧
  (∀ (k : Nat) H', Same H H' → (∃ p x, Wk arcs s p x ∧ x ∈ goals ∧ p.length = k + 1) → (∀ p x, Wk arcs s p x → x ∈ goals → k + 1 ≤ p.length) → k < 12 → Q (.int (k : Int)) H') ∧
  (∀ H', Same H H' → (∀ p x, Wk arcs s p x → x ∈ goals → 13 ≤ p.length) → Q .non H')
abbrev s_steps_to : Stmt := topS 9
abbrev N_steps_to : List Str := ["_law_arcs", "_law_start", "_law_goals", "_law_seen", "_law_level", "_law_k", "_law_name", "_law_later", "_law_arc"]
theorem sc_steps_to : FnScope N_steps_to ["_law_arcs", "_law_start", "_law_goals"] (defScope s_steps_to) := ⟨rfl, rfl, rfl, by decide +kernel, rfl, by decide +kernel, by decide +kernel⟩
def spIsPath : Sp := fun vs H Q _ => ∃ (t a g : Addr) (s x : Str) (arcs : List (Str × Str)) (goals p : List Str), vs = [.ref t, .ref a, .str s, .ref g] ∧ H t = some (.lst (p.map V.str)) ∧ Prs H a arcs ∧ (∀ q ∈ arcs, Sht q.1 20 ∧ Sht q.2 20) ∧ Sht s 20 ∧ H g = some (.lst (goals.map V.str)) ∧
  Wk arcs s p x ∧ x ∈ goals ∧ p.Nodup ∧ p.length ≤ 500 ∧ ∀ H', Same H H' → Q (.bl true) H'
abbrev s_is_path : Stmt := topS 10
abbrev N_is_path : List Str := ["_law_told", "_law_arcs", "_law_start", "_law_goals", "_law_k"]
theorem sc_is_path : FnScope N_is_path ["_law_told", "_law_arcs", "_law_start", "_law_goals"] (defScope s_is_path) := ⟨rfl, rfl, rfl, by decide +kernel, rfl, by decide +kernel, by decide +kernel⟩
section
variable {P : Program} {w : World} {K : PySem.W.Frag} {mg : Str → Option Value} {base : Heap}
theorem ok_steps_to {f : Addr} {fd : FuncData} (F : Fun K "_law_steps_to" "_law_steps_to" s_steps_to f fd) (T : TxS mg) : FnOk P w K mg base CX0 1 f fd ["_law_arcs", "_law_start", "_law_goals"] spSteps := by
  refine F.ok sc_steps_to (fun vs H Q E h => ?_) (fun cdv A outer s H vs Q E hr h => ?_)
  · obtain ⟨a, g, s, arcs, goals, rfl, _⟩ := h
    rfl
  · obtain ⟨a, g, s, arcs, goals, rfl, ⟨axs, ea, hp⟩, hlen, hg, qk, qn⟩ := h
    refine ⟨_, (pss_cons (ps_set (i := 3) sc_steps_to.nd rfl (Or.inl rfl) (pe_lst (pa_cons (pv 1) pa_nil)))
      (pss_cons (ps_set (i := 4) sc_steps_to.nd rfl (Or.inl rfl) (pe_lst (pa_cons (pv 1) pa_nil)))
      (pss_cons (ps_for PassesOwn.never rfl (pi_range1 (by rfl) T.m_range (pa_cons pe_int pa_nil)) (pg_name (i := 5) sc_steps_to.nd rfl (Or.inl rfl))
        (pss_cons (ps_for PassesOwn.never rfl (pi_list (pv 4)) (pg_name (i := 6) sc_steps_to.nd rfl (Or.inl rfl))
          (pss_one (ps_if (pt_cmpR op_in_seq (pv 6) (pv 2) (by rfl))
            (pss_one (ps_ret (pv 5)))
            pss_nil)))
        (pss_cons (ps_set (i := 7) sc_steps_to.nd rfl (Or.inl rfl) (pe_lst pa_nil))
        (pss_cons (ps_for PassesOwn.never rfl (pi_list (pv 0)) (pg_name (i := 8) sc_steps_to.nd rfl (Or.inl rfl))
          (pss_one (ps_if (PW.pt (pw_and (pt_cmpR op_in_seq (pe_ix ix_tup (pv 8) pe_int (fun _ _ => rfl)) (pv 4) (by rfl)) (pw_and1 (pt_cmpR op_notIn_seq (pe_ix ix_tup (pv 8) pe_int (fun _ _ => rfl)) (pv 3) (by rfl)))))
            (pss_cons (ps_expr (pe_bm PySem.F.plainAttrs_list PySem.F.slot_list_append PySem.F.type_list_append mt_append (pv 3) (pa_cons (pe_ix ix_tup (pv 8) pe_int (fun _ _ => rfl)) pa_nil)))
            (pss_one (ps_expr (pe_bm PySem.F.plainAttrs_list PySem.F.slot_list_append PySem.F.type_list_append mt_append (pv 7) (pa_cons (pe_ix ix_tup (pv 8) pe_int (fun _ _ => rfl)) pa_nil)))))
            pss_nil)))
        (pss_one (ps_set (i := 4) sc_steps_to.nd rfl (Or.inl rfl) (pv 7)))))))
      (pss_one (ps_ret pe_non))))), ?_⟩
    refine ⟨_, rfl, by show 1 ≤ sizeLine; decide, fun S nS => ?_⟩
    refine ⟨_, rfl, by show 1 ≤ sizeLine; decide, fun L0 nL0 => ?_⟩
    have hL0S : L0 ≠ S := fun e => by rw [e, upd_same] at nL0; cases nL0
    have sm0 : Same H (upd (upd H S (.lst [V.str s])) L0 (.lst [V.str s])) := (same_upd nS).trans (same_upd nL0)
    refine ⟨12, rfl, by decide, by decide, ?_⟩
    refine for_range (lo := 0) (n := 12) (fun i σ Hx => ∃ (x5 x6 x7 x8 : Option V) (L : Addr) (seen lev : List Str), σ = [some (.ref a), some (.str s), some (.ref g), some (.ref S), some (.ref L), x5, x6, x7, x8] ∧ Same H Hx ∧ Hx S = some (.lst (seen.map V.str)) ∧ Hx L = some (.lst (lev.map V.str)) ∧ L ≠ S ∧ LI arcs s goals i seen lev ∧ seen.length ≤ 1 + 50 * i)
      ⟨none, none, none, none, L0, [s], [s], rfl, sm0, (upd_ne (Ne.symm hL0S)).trans upd_same, upd_same, hL0S, li_start arcs s goals, Nat.le_refl _⟩ ?_ ?_
    · rintro i σ Hx hi ⟨x5, x6, x7, x8, L, seen, lev, rfl, sm, eS, eL, hLS, li, hsl⟩
      refine ⟨_, rfl, L, rfl, ⟨_, .inl (.inl eL)⟩, ?_⟩
      refine for_list (xs := lev.map V.str) (fun j σ Hy => ∃ x6 : Option V, σ = [some (.ref a), some (.str s), some (.ref g), some (.ref S), some (.ref L), some (.int (0 + (i : Int))), x6, x7, x8] ∧ Hy = Hx ∧ ∀ y ∈ lev.take j, y ∉ goals)
        ⟨x6, rfl, rfl, fun y hy => by simp at hy⟩ (fun j σ Hy _ ⟨_, _, e, _⟩ => by rw [e]; exact .inl (.inl eL)) ?_ ?_
      · rintro j x σ Hy hx ⟨x6, rfl, rfl, hng⟩
        obtain ⟨y, hy, rfl⟩ := str_get hx
        refine ⟨_, rfl, _, rfl, g, _, rfl, .inl (.inl (.inl (sm _ _ hg))), rfl, txt_flat goals, _, rfl, ?_⟩
        rw [if_neg Bool.false_ne_true, inV_txt]
        refine iteB (fun hG => ?_) (fun hG => ?_)
        · have hG' : y ∈ goals := of_decide_eq_true hG
          obtain ⟨_, p, wk, hpl⟩ := li.lv y (List.mem_of_getElem? hy)
          refine ⟨_, rfl, ?_⟩
          rw [Int.zero_add]
          refine qk i Hy sm ⟨p, y, wk, hG', hpl⟩ (fun p x wk hx => ?_) hi
          by_cases hle : p.length ≤ i
          · exact absurd hx (li.min p x wk hle)
          · omega
        · refine ⟨_, rfl, rfl, fun z hz => ?_⟩
          rw [take_one hy] at hz
          rcases List.mem_append.mp hz with hz | hz
          · exact hng z hz
          · rw [List.mem_singleton.mp hz]
            exact of_decide_eq_false hG
      · rintro σ Hy ⟨x6, rfl, rfl, hng⟩
        rw [List.length_map, List.take_length] at hng
        refine ⟨by show 0 ≤ sizeLine; decide, fun R nR => ?_⟩
        have sR : Same Hy (upd Hy R (.lst [])) := same_upd nR
        have hSR : S ≠ R := ne_of_none eS nR
        have hLR : L ≠ R := ne_of_none eL nR
        have nR0 : H R = none := sm.free nR
        refine ⟨_, rfl, a, rfl, ⟨_, .inl (.inl (sR _ _ (sm _ _ ea)))⟩, ?_⟩
        refine for_list (xs := axs) (fun j σ Hz => ∃ (x8 : Option V) (later : List Str), σ = [some (.ref a), some (.str s), some (.ref g), some (.ref S), some (.ref L), some (.int (0 + (i : Int))), x6, some (.ref R), x8] ∧ Same H Hz ∧ Hz S = some (.lst ((seen ++ later).map V.str)) ∧ Hz L = some (.lst (lev.map V.str)) ∧ Hz R = some (.lst (later.map V.str)) ∧
            (∀ x y, (x, y) ∈ arcs.take j → x ∈ lev → y ∈ seen ++ later) ∧ (∀ y ∈ later, ∃ x ∈ lev, (x, y) ∈ arcs) ∧ later.length ≤ j)
          ⟨x8, [], rfl, sm.trans sR, by rw [List.append_nil]; exact sR _ _ eS, sR _ _ eL, upd_same, fun x y h => by simp at h, fun y hy => (by cases hy), Nat.le_refl _⟩ (fun j σ Hz _ ⟨_, _, _, s2, _⟩ => .inl (.inl (s2 _ _ ea))) ?_ ?_
        · rintro j x σ Hz hx ⟨x8, later, rfl, s2, eS2, eL2, eR2, hc, hl, hll⟩
          obtain ⟨⟨u, v⟩, hj, t, rfl, et⟩ := pd_get hp hx
          have hj50 : j < arcs.length := (List.getElem?_eq_some_iff.mp hj).1
          have et2 := s2 _ _ et
          have hkeep : (u ∈ lev → v ∈ seen ++ later) → ∀ x y, (x, y) ∈ arcs.take (j + 1) → x ∈ lev → y ∈ seen ++ later := fun h x y hm hx => by
            rw [take_one hj] at hm
            rcases List.mem_append.mp hm with hm | hm
            · exact hc x y hm hx
            · have e := List.mem_singleton.mp hm
              injection e with e1 e2
              rw [e2]
              exact h (e1 ▸ hx)
          refine ⟨_, rfl, t, _, 0, _, rfl, rfl, .inl (.inl et2), atI_nat (j := 0) rfl, _, rfl, L, _, rfl, .inl (.inl (.inl eL2)), rfl, txt_flat lev, _, rfl, ?_⟩
          rw [if_neg Bool.false_ne_true, inV_txt]
          refine iteB (fun hu => ?_) (fun hu => ?_)
          · have hu' : u ∈ lev := of_decide_eq_true hu
            refine ⟨_, rfl, t, _, 1, _, rfl, rfl, .inl (.inl et2), atI_nat (j := 1) rfl, _, rfl, S, _, rfl, .inl (.inl (.inl eS2)), rfl, txt_flat _, _, rfl, ?_⟩
            rw [if_pos rfl, inV_txt]
            refine iteB (fun hv => ?_) (fun hv => ?_)
            · have hv' : v ∉ seen ++ later := by simpa using hv
              refine ⟨_, rfl, .inl ⟨rfl, _, .inl (.inl eS2)⟩, _, rfl, t, _, 1, _, rfl, rfl, .inl (.inl et2), atI_nat (j := 1) rfl, S, _, _, rfl, rfl, eS2, sz8 (by rw [List.length_map, List.length_append]; omega), ?_⟩
              have htS : t ≠ S := fun e => by rw [e, eS2] at et2; cases et2
              have et3 : (upd Hz S (.lst ((seen ++ later).map V.str ++ [V.str v]))) t = some (.tup [.str u, .str v]) := (upd_ne htS).trans et2
              have eR3 : (upd Hz S (.lst ((seen ++ later).map V.str ++ [V.str v]))) R = some (.lst (later.map V.str)) := (upd_ne (Ne.symm hSR)).trans eR2
              refine ⟨_, rfl, .inl ⟨rfl, _, .inl (.inl eR3)⟩, _, rfl, t, _, 1, _, rfl, rfl, .inl (.inl et3), atI_nat (j := 1) rfl, R, _, _, rfl, rfl, eR3, sz8 (by rw [List.length_map]; omega), ?_⟩
              refine ⟨_, later ++ [v], rfl, same_mut (same_mut s2 nS) nR0, ?_, ?_, ?_, ?_, ?_, by rw [List.length_append]; show later.length + 1 ≤ j + 1; omega⟩
              · rw [upd_ne hSR, upd_same, ← List.append_assoc, List.map_append (l₁ := seen ++ later)]
                rfl
              · rw [upd_ne hLR, upd_ne hLS]
                exact eL2
              · rw [upd_same, List.map_append]
                rfl
              · intro x y hm hx
                rw [take_one hj] at hm
                rw [← List.append_assoc]
                rcases List.mem_append.mp hm with hm | hm
                · exact List.mem_append_left _ (hc x y hm hx)
                · have e := List.mem_singleton.mp hm
                  injection e with e1 e2
                  rw [e2]
                  exact List.mem_append_right _ List.mem_cons_self
              · intro y hy
                rcases List.mem_append.mp hy with hy | hy
                · exact hl y hy
                · rw [List.mem_singleton.mp hy]
                  exact ⟨u, hu', List.mem_of_getElem? hj⟩
            · have hv' : v ∈ seen ++ later := of_decide_eq_true (by simpa only [Bool.not_eq_false'] using hv)
              exact ⟨_, later, rfl, s2, eS2, eL2, eR2, hkeep fun _ => hv', hl, by omega⟩
          · exact ⟨_, later, rfl, s2, eS2, eL2, eR2, hkeep fun h => absurd h (of_decide_eq_false hu), hl, by omega⟩
        · rintro σ Hz ⟨x8, later, rfl, s2, eS2, eL2, eR2, hc, hl, hll⟩
          have hal := pd_len hp
          rw [hal, List.take_length] at hc
          refine ⟨_, rfl, ⟨_, _, _, _, R, seen ++ later, later, rfl, s2, eS2, eR2, Ne.symm hSR, li.next hng (fun x hx y hy => hc x y hy hx) hl, ?_⟩⟩
          rw [List.length_append]
          omega
    · rintro σ Hx ⟨x5, x6, x7, x8, L, seen, lev, rfl, sm, eS, eL, hLS, li, hsl⟩
      refine qn Hx sm (fun p x wk hx => ?_)
      by_cases hle : p.length ≤ 12
      · exact absurd hx (li.min p x wk hle)
      · omega
theorem ok_is_path {f : Addr} {fd : FuncData} (F : Fun K "_law_is_path" "_law_is_path" s_is_path f fd) (T : TxS mg) : FnOk P w K mg base CX0 1 f fd ["_law_told", "_law_arcs", "_law_start", "_law_goals"] spIsPath := by
  refine F.ok sc_is_path (fun vs H Q E h => ?_) (fun cdv A outer s H vs Q E hr h => ?_)
  · obtain ⟨t, a, g, s, x, arcs, goals, p, rfl, _⟩ := h
    rfl
  · obtain ⟨t, a, g, s, x, arcs, goals, p, rfl, et, ⟨axs, ea, hp⟩, hsh, hs, hg, wk, hx, hnd, hpl, q⟩ := h
    refine ⟨_, (pss_cons (ps_if (PW.pt (pw_or (pt_not (pt_val (pe_callB call_isi (by rfl) T.m_isinstance (by decide +kernel) (pa_cons (pv 0) (pa_cons (pe_bltn (v := .ty "list") (by rfl) T.m_list (by decide +kernel) rfl) pa_nil))))) (pw_or (pt_cmpR (op_eqD hr.units) (pv 0) (pe_lst pa_nil) (nomark _)) (pw_or1 (pt_cmpR op_ne (pe_ix ix_list (pv 0) pe_int (fun _ _ => rfl)) (pv 2) (nomark _))))))
        (pss_one (ps_ret pe_bl))
        pss_nil)
      (pss_cons (ps_for PassesOwn.never rfl (pi_range2 (by rfl) T.m_range (pa_cons pe_int (pa_cons (pe_callB call_len_seq (by rfl) T.m_len (by decide +kernel) (pa_cons (pv 0) pa_nil)) pa_nil))) (pg_name (i := 4) sc_is_path.nd rfl (Or.inl rfl))
        (pss_one (ps_if (PW.pt (pw_or (pt_cmpR op_in_seq (pe_ix ix_list (pv 0) (pv 4) (fun _ _ => rfl)) (pe_slice sl_list (pv 0) po_none (po_some (pv 4))) rfl) (pw_or1 (pt_cmpR (op_notInD (hu65 hr)) (pe_tup (pa_cons (pe_ix ix_list (pv 0) (pe_op op_sub (pv 4) pe_int) (fun _ _ => rfl)) (pa_cons (pe_ix ix_list (pv 0) (pv 4) (fun _ _ => rfl)) pa_nil))) (pv 1) (by rfl)))))
          (pss_one (ps_ret pe_bl))
          pss_nil)))
      (pss_one (ps_ret (pe_and (pe_callB call_isi (by rfl) T.m_isinstance (by decide +kernel) (pa_cons (pe_ix ix_list (pv 0) (pe_un un_neg pe_int) (fun _ _ => rfl)) (pa_cons (pe_bltn (v := .ty "str") (by rfl) T.m_str (by decide +kernel) rfl) pa_nil))) (pe_one (pe_cmpR op_in_seq (pe_ix ix_list (pv 0) (pe_un un_neg pe_int) (fun _ _ => rfl)) (pv 3) (by rfl)))))))), ?_⟩
    have hshp : ∀ y ∈ p, Sht y 20 := fun y hy => by
      rcases wk.mem y hy with h | ⟨z, hz⟩
      · rw [h]; exact hs
      · exact (hsh _ hz).2
    have hpos := wk.pos
    have hhead : p[0]? = some s := by rw [← List.head?_eq_getElem?]; exact wk.head
    refine ⟨_, rfl, .ref t, .ty "list", .type "list", .type "list", true, rfl, .ty "list", .base (.lst et), kit_ty (by decide +kernel), _, rfl, ?_⟩
    refine iteF ?_
    refine ⟨_, rfl, by show 0 ≤ sizeLine; decide, fun e ne => ?_⟩
    have se : Same H (upd H e (.lst [])) := same_upd ne
    refine ⟨.list (tD p), .list [], .lst (.inl (.inl (se _ _ et))) (dp_txts p), .lst (.inl (.inl upd_same)) .nil, shp_txts hshp, by decide, _, rfl, ?_⟩
    rw [eqv_nil2, decide_eq_false (fun h => by rw [h] at hpos; simp at hpos)]
    refine iteF ?_
    refine ⟨_, rfl, t, _, 0, .str s, rfl, rfl, .inl (.inl (se _ _ et)), atI_nat (j := 0) (by rw [List.getElem?_map, hhead]; rfl), _, rfl, rfl, _, rfl, iteB (fun h => by simp at h) (fun _ => ?_)⟩
    refine ⟨_, rfl, t, _, rfl, .inl (.inl (.inl (se _ _ et))), 1, _, rfl, ⟨by decide, by decide, by rw [List.length_map]; omega, by rw [List.length_map]; omega⟩, ?_⟩
    refine for_range (lo := 1) (n := ((((p.map V.str).length : Nat) : Int) - 1).toNat) (fun i σ Hx => ∃ x4 : Option V, σ = [some (.ref t), some (.ref a), some (.str s), some (.ref g), x4] ∧ Same H Hx)
      ⟨none, rfl, se⟩ ?_ ?_
    · rintro i σ Hx hi ⟨x4, rfl, sm⟩
      rw [List.length_map] at hi
      have hi' : i + 1 < p.length := by omega
      have h1 : p[i]? = some p[i] := List.getElem?_eq_getElem (by omega)
      have h2 : p[i + 1]? = some p[i + 1] := List.getElem?_eq_getElem hi'
      have ik : (1 : Int) + (i : Int) = ((i + 1 : Nat) : Int) := by omega
      have et2 := sm _ _ et
      have a1 : atI (p.map V.str) (1 + (i : Int)) = some (.str p[i + 1]) := by rw [ik]; exact atI_nat (by rw [List.getElem?_map, h2]; rfl)
      have a0 : atI (p.map V.str) (1 + (i : Int) - 1) = some (.str p[i]) := by rw [show (1 : Int) + (i : Int) - 1 = ((i : Nat) : Int) by omega]; exact atI_nat (by rw [List.getElem?_map, h1]; rfl)
      refine ⟨_, rfl, _, rfl, t, _, _, _, rfl, rfl, .inl (.inl et2), a1, ?_⟩
      refine ⟨_, rfl, _, rfl, _, rfl, t, _, rfl, .inl (.inl et2), fun c nc => ?_⟩
      have sc : Same Hx (upd Hx c (.lst (cutV (p.map V.str) none (some (1 + (i : Int)))))) := same_upd nc
      have hcut : cutV (p.map V.str) none (some (1 + (i : Int))) = (p.take (i + 1)).map V.str := by rw [ik]; exact cut_take (by omega)
      refine ⟨c, _, rfl, .inl (.inl (.inl upd_same)), rfl, by rw [hcut]; exact txt_flat _, _, rfl, ?_⟩
      rw [if_neg Bool.false_ne_true, hcut, inV_txt, decide_eq_false (fun hm => ?_)]
      · refine iteF ?_
        refine ⟨_, rfl, _, rfl, _, _, rfl, rfl, t, _, _, _, rfl, rfl, .inl (.inl (by rw [← hcut]; exact sc _ _ et2)), a0, _, rfl, _, rfl, t, _, _, _, rfl, rfl, .inl (.inl (by rw [← hcut]; exact sc _ _ et2)), a1, by show 2 ≤ sizeLine; decide, fun d nd => ?_⟩
        have hmem : (p[i], p[i + 1]) ∈ arcs := wk.arcs i _ _ h1 h2
        have s5 : Same H (upd (upd Hx c (.lst ((p.take (i + 1)).map V.str))) d (.tup [.str p[i], .str p[i + 1]])) := (sm.trans (by rw [← hcut]; exact sc)).trans (same_upd nd)
        refine ⟨_, rfl, kPr (p[i], p[i + 1]), arcs.map kPr, .tup (.inl (.inl upd_same)) (.cons (.str _) (.cons (.str _) .nil)), .lst (.inl (.inl (s5 _ _ ea))) (dp_prs (pd_mono (fun _ _ z => z.same s5) hp)), shp_pr (hsh _ hmem), shp_prs hsh, _, rfl, ?_⟩
        rw [any_pr, decide_eq_true hmem]
        exact iteF ⟨_, rfl, s5⟩
      · obtain ⟨j, hj⟩ := List.mem_iff_getElem?.mp hm
        have hjl := (List.getElem?_eq_some_iff.mp hj).1
        rw [List.length_take] at hjl
        rw [List.getElem?_take_of_lt (by omega)] at hj
        have e := (List.getElem?_eq_some_iff.mp hj).2
        exact List.pairwise_iff_getElem.mp hnd j (i + 1) (by omega) hi' (by omega) e
    · rintro σ Hx ⟨x4, rfl, sm⟩
      have hlast := at_last wk.last
      refine ⟨_, rfl, _, rfl, t, _, _, _, rfl, rfl, .inl (.inl (sm _ _ et)), hlast, .str x, .ty "str", .type "str", .type "str", true, rfl, .ty "str", .base (.str x), kit_ty (by decide +kernel), _, rfl, ?_⟩
      rw [if_pos rfl]
      refine ⟨_, rfl, _, rfl, t, _, _, _, rfl, rfl, .inl (.inl (sm _ _ et)), hlast, _, rfl, g, _, rfl, .inl (.inl (.inl (sm _ _ hg))), rfl, txt_flat goals, ?_⟩
      rw [if_neg Bool.false_ne_true, inV_txt, decide_eq_true hx]
      exact q Hx sm
end
end Kx

namespace Kx
open PySem PySem.Spec PyProof.Rows L2 NdefX Kr Ke Kn Kg
theorem prs_push {H0 Hx : Hp} {l t : Addr} {xs : List V} {arcs : List (Str × Str)} {p : Str × Str} (sm : Same H0 Hx) (nl : H0 l = none) (el : Hx l = some (.lst xs)) (hp : Paired (PrAt Hx) xs arcs) (nt : Hx t = none) :
    (upd Hx t (.tup [.str p.1, .str p.2])) l = some (.lst xs) ∧ Same H0 (upd (upd Hx t (.tup [.str p.1, .str p.2])) l (.lst (xs ++ [.ref t]))) ∧ (upd (upd Hx t (.tup [.str p.1, .str p.2])) l (.lst (xs ++ [.ref t]))) l = some (.lst (xs ++ [.ref t])) ∧
      Paired (PrAt (upd (upd Hx t (.tup [.str p.1, .str p.2])) l (.lst (xs ++ [.ref t])))) (xs ++ [.ref t]) (arcs ++ [p]) := by
  have h1 : Same Hx (upd Hx t (.tup [.str p.1, .str p.2])) := same_upd nt
  have e1 := h1 _ _ el
  have hlt : t ≠ l := fun z => by rw [← z, upd_same] at e1; cases e1
  exact ⟨e1, same_mut (sm.trans h1) nl, upd_same, .snoc (prs_mut e1 (pd_mono (fun _ _ z => z.same h1) hp)) ⟨t, rfl, (upd_ne hlt).trans upd_same⟩⟩
def chV (ch : List Str) (i : Nat) : Str := ch.getD i ""
theorem ch_at {ch : List Str} {i : Nat} (h : i < ch.length) : (ch.map V.str)[i]? = some (.str (chV ch i)) := by
  unfold chV
  rw [List.getElem?_map, List.getD_eq_getElem?_getD, List.getElem?_eq_getElem h]
  rfl
def WideOk (ch : List Str) (arcs : List (Str × Str)) : Prop :=
  (∀ x y, (x, y) ∈ arcs → ∃ i j, i < 16 ∧ j < 16 ∧ x = chV ch i ∧ y = chV ch j ∧ (j < i ∨ j = i + 1)) ∧ (∀ i j, j < i → i < 16 → (chV ch i, chV ch j) ∈ arcs) ∧ ∀ i, i + 1 < 16 → (chV ch i, chV ch (i + 1)) ∈ arcs
def spWide : Sp := fun vs H Q _ => ∃ (c : Addr) (ch : List Str) (fi : Int), vs = [.ref c, .int fi] ∧ H c = some (.lst (ch.map V.str)) ∧ ch.length = 16 ∧ 0 ≤ fi ∧ fi < 70000 ∧
  ∀ (a : Addr) (arcs : List (Str × Str)) H', Same H H' → H a = none → Prs H' a arcs → WideOk ch arcs → arcs.length ≤ 300 → Q (.ref a) H'
abbrev s_wide : Stmt := topS 11
abbrev N_wide : List Str := ["_law_chain", "_law_first", "_law_wide_here", "_law_j", "_law_i", "_law_at"]
theorem sc_wide : FnScope N_wide ["_law_chain", "_law_first"] (defScope s_wide) := ⟨rfl, rfl, rfl, by decide +kernel, rfl, by decide +kernel, by decide +kernel⟩
structure ChainOk (ch : List Str) : Prop where
  len : ch.length = 16
  inj : ∀ i j, i < 16 → j < 16 → chV ch i = chV ch j → i = j
  sht : ∀ z ∈ ch, Sht z 20
theorem ch_take {ch : List Str} (n : Nat) (h : n ≤ ch.length) : (List.range n).map (chV ch) = ch.take n := by
  apply List.ext_getElem?
  intro i
  by_cases hi : i < n
  · rw [List.getElem?_map, List.getElem?_range hi, List.getElem?_take_of_lt hi, List.getElem?_eq_getElem (by omega)]
    unfold chV
    rw [Option.map_some, List.getD_eq_getElem?_getD, List.getElem?_eq_getElem (by omega)]
    rfl
  · rw [List.getElem?_eq_none (by rw [List.length_map, List.length_range]; omega), List.getElem?_eq_none (by rw [List.length_take]; omega)]
def spLong : Sp := fun vs H Q _ => ∃ (c : Addr) (ch : List Str) (fi la : Int), vs = [.ref c, .int fi, .int la] ∧ H c = some (.lst (ch.map V.str)) ∧ ChainOk ch ∧ 0 ≤ fi ∧ fi < 70000 ∧ 0 ≤ la ∧ la < 16 ∧ ∀ H', Same H H' → Q (.bl true) H'
abbrev s_long_right : Stmt := topS 12
abbrev N_long_right : List Str := ["_law_chain", "_law_first", "_law_last", "_law_wide_here", "_law_at"]
theorem sc_long_right : FnScope N_long_right ["_law_chain", "_law_first", "_law_last"] (defScope s_long_right) := ⟨rfl, rfl, rfl, by decide +kernel, rfl, by decide +kernel, by decide +kernel⟩
theorem eqv_lst (p q : List Str) : PyData.eqv (.list (tD p)) (.list (tD q)) = decide (p = q) := by
  have := eqv_txts p q
  simp only [PyData.eqv]
  exact this
section
variable {P : Program} {w : World} {K : PySem.W.Frag} {mg : Str → Option Value} {base : Heap}
theorem ok_wide {f : Addr} {fd : FuncData} (F : Fun K "_law_wide" "_law_wide" s_wide f fd) (T : TxS mg) : FnOk P w K mg base CX0 1 f fd ["_law_chain", "_law_first"] spWide := by
  refine F.ok sc_wide (fun vs H Q E h => ?_) (fun cdv A outer s H vs Q E hr h => ?_)
  · obtain ⟨c, ch, fi, rfl, _⟩ := h
    rfl
  · obtain ⟨c, ch, fi, rfl, ec, hl, f0, f1, q⟩ := h
    refine ⟨_, (pss_cons (ps_set (i := 2) sc_wide.nd rfl (Or.inl rfl) (pe_lst pa_nil))
      (pss_cons (ps_for PassesOwn.never rfl (pi_range1 (by rfl) T.m_range (pa_cons pe_int pa_nil)) (pg_name (i := 3) sc_wide.nd rfl (Or.inl rfl))
        (pss_one (ps_for PassesOwn.never rfl (pi_range1 (by rfl) T.m_range (pa_cons (pv 3) pa_nil)) (pg_name (i := 4) sc_wide.nd rfl (Or.inl rfl))
          (pss_one (ps_expr (pe_bm PySem.F.plainAttrs_list PySem.F.slot_list_append PySem.F.type_list_append mt_append (pv 2) (pa_cons (pe_tup (pa_cons (pe_ix ix_list (pv 0) (pv 3) (fun _ _ => rfl)) (pa_cons (pe_ix ix_list (pv 0) (pv 4) (fun _ _ => rfl)) pa_nil))) pa_nil)))))))
      (pss_cons (ps_for PassesOwn.never rfl (pi_range1 (by rfl) T.m_range (pa_cons pe_int pa_nil)) (pg_name (i := 3) sc_wide.nd rfl (Or.inl rfl))
        (pss_cons (ps_set (i := 5) sc_wide.nd rfl (Or.inl rfl) (pe_op op_mod (pe_callTy call_int1 (by rfl) T.m_int (by decide +kernel) (pa_cons (pe_op op_add (pv 3) (pv 1)) pa_nil)) pe_int))
        (pss_one (ps_expr (pe_bm PySem.F.plainAttrs_list PySem.F.slot_list_append PySem.F.type_list_append mt_append (pv 2) (pa_cons (pe_tup (pa_cons (pe_ix ix_list (pv 0) (pv 5) (fun _ _ => rfl)) (pa_cons (pe_ix ix_list (pv 0) (pe_op op_add (pv 5) pe_int) (fun _ _ => rfl)) pa_nil))) pa_nil))))))
      (pss_one (ps_ret (pv 2)))))), ?_⟩
    refine ⟨by show 0 ≤ sizeLine; decide, fun l nl => ?_⟩
    let Ok : List (Str × Str) → Prop := fun arcs => ∀ x y, (x, y) ∈ arcs → ∃ i j, i < 16 ∧ j < 16 ∧ x = chV ch i ∧ y = chV ch j ∧ (j < i ∨ j = i + 1)
    have okA : ∀ {arcs : List (Str × Str)} {i j : Nat}, Ok arcs → i < 16 → j < 16 → (j < i ∨ j = i + 1) → Ok (arcs ++ [(chV ch i, chV ch j)]) := fun {arcs i j} h hi hj hij x y hm => by
      rcases List.mem_append.mp hm with hm | hm
      · exact h x y hm
      · have e := List.mem_singleton.mp hm
        injection e with e1 e2
        exact ⟨i, j, hi, hj, e1, e2, hij⟩
    refine ⟨16, rfl, by decide, by decide, ?_⟩
    refine for_range (lo := 0) (n := 16) (fun i σ H1 => ∃ (x3 x4 x5 : Option V) (xs : List V) (arcs : List (Str × Str)), σ = [some (.ref c), some (.int fi), some (.ref l), x3, x4, x5] ∧ Same H H1 ∧ H1 l = some (.lst xs) ∧ Paired (PrAt H1) xs arcs ∧ Ok arcs ∧ arcs.length ≤ 16 * i ∧ ∀ a b, b < a → a < i → (chV ch a, chV ch b) ∈ arcs)
      ⟨none, none, none, [], [], rfl, same_upd nl, upd_same, .nil, fun x y h => (by cases h), Nat.le_refl _, fun a b _ h => absurd h (Nat.not_lt_zero _)⟩ ?_ ?_
    · rintro i σ H1 hi ⟨x3, x4, x5, xs, arcs, rfl, sm, el, hp, ok, hal, hc⟩
      refine ⟨_, rfl, (0 : Int) + (i : Int), rfl, by omega, by omega, ?_⟩
      refine for_range (lo := 0) (n := ((0 : Int) + (i : Int)).toNat) (fun j σ H2 => ∃ (x4 : Option V) (xs : List V) (arcs : List (Str × Str)), σ = [some (.ref c), some (.int fi), some (.ref l), some (.int (0 + (i : Int))), x4, x5] ∧ Same H H2 ∧ H2 l = some (.lst xs) ∧ Paired (PrAt H2) xs arcs ∧ Ok arcs ∧ arcs.length ≤ 16 * i + j ∧ (∀ a b, b < a → a < i → (chV ch a, chV ch b) ∈ arcs) ∧ ∀ b, b < j → (chV ch i, chV ch b) ∈ arcs)
        ⟨x4, xs, arcs, rfl, sm, el, hp, ok, by omega, hc, fun b h => absurd h (Nat.not_lt_zero _)⟩ ?_ ?_
      · rintro j σ H2 hj ⟨x4, xs, arcs, rfl, s2, el, hp, ok, hal, hc, hd⟩
        have hj' : j < i := by omega
        have ec2 := s2 _ _ ec
        have ei : atI (ch.map V.str) (0 + (i : Int)) = some (.str (chV ch i)) := by rw [Int.zero_add]; exact atI_nat (ch_at (by omega))
        have ej : atI (ch.map V.str) (0 + (j : Int)) = some (.str (chV ch j)) := by rw [Int.zero_add]; exact atI_nat (ch_at (by omega))
        refine ⟨_, rfl, .inl ⟨rfl, _, .inl (.inl el)⟩, _, rfl, _, rfl, c, _, _, _, rfl, rfl, .inl (.inl ec2), ei, _, rfl, _, rfl, c, _, _, _, rfl, rfl, .inl (.inl ec2), ej, by show 2 ≤ sizeLine; decide, fun t nt => ?_⟩
        obtain ⟨p1, p2, p3, p4⟩ := prs_push (p := (chV ch i, chV ch j)) s2 nl el hp nt
        refine ⟨l, _, _, rfl, rfl, p1, sz8 (by have := pd_len hp; omega), ?_⟩
        refine ⟨_, _, _, rfl, p2, p3, p4, okA ok hi (by omega) (.inl hj'), by rw [List.length_append]; show arcs.length + 1 ≤ _; omega, fun a b h1 h2 => List.mem_append_left _ (hc a b h1 h2), fun b hb => ?_⟩
        by_cases e : b = j
        · rw [e]; exact List.mem_append_right _ List.mem_cons_self
        · exact List.mem_append_left _ (hd b (by omega))
      · rintro σ H2 ⟨x4, xs, arcs, rfl, s2, el, hp, ok, hal, hc, hd⟩
        refine ⟨_, _, _, xs, arcs, rfl, s2, el, hp, ok, by omega, fun a b h1 h2 => ?_⟩
        by_cases e : a = i
        · rw [e]; exact hd b (by omega)
        · exact hc a b h1 (by omega)
    · rintro σ H1 ⟨x3, x4, x5, xs, arcs, rfl, sm, el, hp, ok, hal, hc⟩
      refine ⟨15, rfl, by decide, by decide, ?_⟩
      refine for_range (lo := 0) (n := 15) (fun i σ H2 => ∃ (x3 x4 x5 : Option V) (xs : List V) (arcs : List (Str × Str)), σ = [some (.ref c), some (.int fi), some (.ref l), x3, x4, x5] ∧ Same H H2 ∧ H2 l = some (.lst xs) ∧ Paired (PrAt H2) xs arcs ∧ Ok arcs ∧ arcs.length ≤ 256 + i ∧ (∀ a b, b < a → a < 16 → (chV ch a, chV ch b) ∈ arcs) ∧ ∀ j : Nat, j < i → (chV ch (((j : Int) + fi) % 15).toNat, chV ch ((((j : Int) + fi) % 15).toNat + 1)) ∈ arcs)
        ⟨x3, x4, x5, xs, arcs, rfl, sm, el, hp, ok, by omega, hc, fun j h => absurd h (Nat.not_lt_zero _)⟩ ?_ ?_
      · rintro i σ H2 hi ⟨x3, x4, x5, xs, arcs, rfl, s2, el, hp, ok, hal, hc, hd⟩
        have ec2 := s2 _ _ ec
        obtain ⟨u, hu⟩ : ∃ u : Nat, ((i : Int) + fi) % 15 = (u : Int) := ⟨(((i : Int) + fi) % 15).toNat, by omega⟩
        have hu15 : u < 15 := by omega
        refine ⟨_, rfl, _, rfl, _, _, rfl, rfl, .inl ⟨_, rfl, _, _, rfl, rfl, (by show (0 : Int) < 15; decide), ?_⟩⟩
        have e1 : atI (ch.map V.str) ((0 + (i : Int) + fi) % 15) = some (.str (chV ch u)) := by rw [Int.zero_add, hu]; exact atI_nat (ch_at (by omega))
        have e2 : atI (ch.map V.str) ((0 + (i : Int) + fi) % 15 + 1) = some (.str (chV ch (u + 1))) := by rw [Int.zero_add, hu]; exact atI_nat (j := u + 1) (ch_at (by omega))
        refine ⟨_, rfl, .inl ⟨rfl, _, .inl (.inl el)⟩, _, rfl, _, rfl, c, _, _, _, rfl, rfl, .inl (.inl ec2), e1, _, rfl, _, rfl, _, _, rfl, rfl, c, _, _, _, rfl, rfl, .inl (.inl ec2), e2, by show 2 ≤ sizeLine; decide, fun t nt => ?_⟩
        obtain ⟨p1, p2, p3, p4⟩ := prs_push (p := (chV ch u, chV ch (u + 1))) s2 nl el hp nt
        refine ⟨l, _, _, rfl, rfl, p1, sz8 (by have := pd_len hp; omega), ?_⟩
        refine ⟨_, _, _, _, _, rfl, p2, p3, p4, okA ok (by omega) (by omega) (.inr rfl), by rw [List.length_append]; show arcs.length + 1 ≤ _; omega, fun a b h1 h2 => List.mem_append_left _ (hc a b h1 h2), fun j hj => ?_⟩
        by_cases e : j = i
        · rw [e, hu, Int.toNat_natCast]; exact List.mem_append_right _ List.mem_cons_self
        · exact List.mem_append_left _ (hd j (by omega))
      · rintro σ H2 ⟨x3, x4, x5, xs, arcs, rfl, s2, el, hp, ok, hal, hc, hd⟩
        refine ⟨_, rfl, q l arcs H2 s2 nl ⟨xs, el, hp⟩ ⟨ok, hc, fun i hi => ?_⟩ (by omega)⟩
        have h := hd (((i : Int) - fi) % 15).toNat (by omega)
        have e : (((((i : Int) - fi) % 15).toNat : Nat) : Int) = ((i : Int) - fi) % 15 := by omega
        rw [e, show ((((i : Int) - fi) % 15 + fi) % 15).toNat = i by omega] at h
        exact h
theorem ok_long_right {f : Addr} {fd : FuncData} (F : Fun K "_law_long_right" "_law_long_right" s_long_right f fd) (T : TxS mg) (C_wide : Cal P w K mg base "_law_wide" 1 spWide) (C_shortest_path : Cal P w K mg base "shortest_path" 2 spSP) : FnOk P w K mg base CX0 3 f fd ["_law_chain", "_law_first", "_law_last"] spLong := by
  refine F.ok sc_long_right (fun vs H Q E h => ?_) (fun cdv A outer s H vs Q E hr h => ?_)
  · obtain ⟨c, ch, fi, la, rfl, _⟩ := h
    rfl
  · obtain ⟨c, ch, fi, la, rfl, ec, ok, f0, f1, l0, l1, q⟩ := h
    refine ⟨_, (pss_cons (ps_set (i := 3) sc_long_right.nd rfl (Or.inl rfl) (pe_cal C_wide (hr.mono (by decide)) (by rfl) (pa_cons (pv 0) (pa_cons (pv 1) pa_nil))))
      (pss_cons (ps_for PassesOwn.never rfl (pi_list (pe_lst (pa_cons pe_int (pa_cons (pv 2) pa_nil)))) (pg_name (i := 4) sc_long_right.nd rfl (Or.inl rfl))
        (pss_one (ps_if (pt_cmpR (op_neD hr.units) (pe_cal C_shortest_path (hr.mono (by decide)) (by rfl) (pa_cons (pe_callTy call_list_of (by rfl) T.m_list (by decide +kernel) (pa_cons (pv 3) pa_nil)) (pa_cons (pe_ix ix_list (pv 0) pe_int (fun _ _ => rfl)) (pa_cons (pe_lst (pa_cons (pe_ix ix_list (pv 0) (pv 4) (fun _ _ => rfl)) pa_nil)) pa_nil)))) (pe_slice sl_list (pv 0) po_none (po_some (pe_op op_add (pv 4) pe_int))) (nomark _))
          (pss_one (ps_ret pe_bl))
          pss_nil)))
      (pss_one (ps_ret (pe_cmpR (op_eqD hr.units) (pe_cal C_shortest_path (hr.mono (by decide)) (by rfl) (pa_cons (pe_callTy call_list_of (by rfl) T.m_list (by decide +kernel) (pa_cons (pv 3) pa_nil)) (pa_cons (pe_ix ix_list (pv 0) pe_int (fun _ _ => rfl)) (pa_cons (pe_lst (pa_cons (pe_ix ix_list (pv 0) pe_int (fun _ _ => rfl)) pa_nil)) pa_nil)))) (pe_lst (pa_cons (pe_ix ix_list (pv 0) pe_int (fun _ _ => rfl)) (pa_cons (pe_ix ix_list (pv 0) pe_int (fun _ _ => rfl)) pa_nil))) (nomark _)))))), ?_⟩
    have hl := ok.len
    refine ⟨_, rfl, _, rfl, c, ch, fi, rfl, ec, hl, f0, f1, fun a arcs H1 s1 na hA hW hal => ?_⟩
    have hch : ∀ {i : Nat}, i < 16 → Sht (chV ch i) 20 := fun {i} hi => ok.sht _ (by unfold chV; rw [List.getD_eq_getElem?_getD, List.getElem?_eq_getElem (by omega)]; exact List.getElem_mem _)
    refine ⟨_, rfl, by show 2 ≤ sizeLine; decide, fun r nr => ⟨r, rfl, ⟨_, .inl (.inl upd_same)⟩, ?_⟩⟩
    have s2 : Same H (upd H1 r (.lst [.int 15, .int la])) := s1.trans (same_upd nr)
    have s2' : Same H1 (upd H1 r (.lst [.int 15, .int la])) := same_upd nr
    have er : (upd H1 r (.lst [.int 15, .int la])) r = some (.lst [.int 15, .int la]) := upd_same
    generalize upd H1 r (.lst [.int 15, .int la]) = Hr at s2 s2' er ⊢
    refine for_list (xs := [.int 15, .int la]) (fun i σ Hx => ∃ x4 : Option V, σ = [some (.ref c), some (.int fi), some (.int la), some (.ref a), x4] ∧ Same Hr Hx)
      ⟨none, rfl, Same.refl _⟩ (fun i σ Hx _ ⟨_, _, sm⟩ => .inl (.inl (sm _ _ er))) ?_ ?_
    · rintro i x σ Hx hx ⟨x4, rfl, sm⟩
      obtain ⟨m, hm, rfl⟩ : ∃ m : Nat, m < 16 ∧ x = .int (m : Int) := by
        match i, hx with
        | 0, hx => exact ⟨15, by decide, (Option.some.inj hx).symm⟩
        | 1, hx => exact ⟨la.toNat, by omega, by rw [Int.toNat_of_nonneg l0]; exact (Option.some.inj hx).symm⟩
        | i + 2, hx => simp at hx
      obtain ⟨axs, ea, hp⟩ := hA.same (s2'.trans sm)
      have ec3 := sm _ _ (s2 _ _ ec)
      refine ⟨_, rfl, a, _, rfl, .inl (.inl (.inl ea)), fun b nb => ?_⟩
      have sb : Same Hx (upd Hx b (.lst axs)) := same_upd nb
      refine ⟨_, rfl, c, _, 0, _, rfl, rfl, .inl (.inl (sb _ _ ec3)), atI_nat (j := 0) (ch_at (by omega)), ?_⟩
      refine ⟨_, rfl, _, rfl, c, _, _, _, rfl, rfl, .inl (.inl (sb _ _ ec3)), atI_nat (ch_at (by omega)), by show 1 ≤ sizeLine; decide, fun g ng => ?_⟩
      have sg := sb.trans (same_upd (o := .lst [V.str (chV ch m)]) ng)
      have ebb : (upd (upd Hx b (.lst axs)) g (.lst [V.str (chV ch m)])) b = some (.lst axs) := (same_upd ng) _ _ upd_same
      refine ⟨b, g, chV ch 0, arcs, [chV ch m], rfl, ⟨axs, ebb, pd_mono (fun _ _ z => z.same sg) hp⟩, by omega, upd_same, fun p path H5 s5 np ep hsh => ?_, fun H5 s5 hno => ?_⟩
      · have hpath := chain_short ok.inj hW.1 hW.2.2 hm hsh
        rw [ch_take _ (by omega)] at hpath
        have ec5 := s5 _ _ (sg _ _ ec3)
        refine ⟨_, rfl, _, rfl, _, _, rfl, rfl, _, rfl, c, _, rfl, .inl (.inl ec5), fun k nk => ?_⟩
        have hcut : cutV (ch.map V.str) none (some ((m : Int) + 1)) = (ch.take (m + 1)).map V.str := cut_take (k := m + 1) (by omega)
        have ep6 := (same_upd (o := .lst (cutV (ch.map V.str) none (some ((m : Int) + 1)))) nk) _ _ ep
        have hsh2 : ∀ y ∈ ch.take (m + 1), Sht y 20 := fun y hy => ok.sht y (List.mem_of_mem_take hy)
        refine ⟨.list (tD path), .list (tD (ch.take (m + 1))), .lst (.inl (.inl ep6)) (dp_txts path), .lst (.inl (.inl (by rw [upd_same, hcut]))) (dp_txts _), by rw [hpath]; exact shp_txts hsh2, shp_txts hsh2, _, rfl, ?_⟩
        rw [eqv_lst, decide_eq_true hpath]
        exact iteF ⟨_, rfl, ((sm.trans sg).trans s5).trans (same_upd nk)⟩
      · exact absurd List.mem_cons_self (hno _ _ (chain_is hW.2.2 m hm))
    · rintro σ Hx ⟨x4, rfl, sm⟩
      obtain ⟨axs, ea, hp⟩ := hA.same (s2'.trans sm)
      have ec3 := sm _ _ (s2 _ _ ec)
      refine ⟨_, rfl, a, _, rfl, .inl (.inl (.inl ea)), fun b nb => ?_⟩
      have sb : Same Hx (upd Hx b (.lst axs)) := same_upd nb
      refine ⟨_, rfl, c, _, 15, _, rfl, rfl, .inl (.inl (sb _ _ ec3)), atI_nat (j := 15) (ch_at (by omega)), ?_⟩
      refine ⟨_, rfl, c, _, 0, _, rfl, rfl, .inl (.inl (sb _ _ ec3)), atI_nat (j := 0) (ch_at (by omega)), by show 1 ≤ sizeLine; decide, fun g ng => ?_⟩
      have sg := sb.trans (same_upd (o := .lst [V.str (chV ch 0)]) ng)
      have ebb : (upd (upd Hx b (.lst axs)) g (.lst [V.str (chV ch 0)])) b = some (.lst axs) := (same_upd ng) _ _ upd_same
      have hne : chV ch 15 ≠ chV ch 0 := fun e => absurd (ok.inj 15 0 (by decide) (by decide) e) (by decide)
      have h150 := hW.2.1 15 0 (by decide) (by decide)
      refine ⟨b, g, chV ch 15, arcs, [chV ch 0], rfl, ⟨axs, ebb, pd_mono (fun _ _ z => z.same sg) hp⟩, by omega, upd_same, fun p path H5 s5 np ep hsh => ?_, fun H5 s5 hno => ?_⟩
      · have hpath := back_short hne h150 hsh
        have ec5 := s5 _ _ (sg _ _ ec3)
        refine ⟨_, rfl, c, _, 15, _, rfl, rfl, .inl (.inl ec5), atI_nat (j := 15) (ch_at (by omega)), _, rfl, c, _, 0, _, rfl, rfl, .inl (.inl ec5), atI_nat (j := 0) (ch_at (by omega)), by show 2 ≤ sizeLine; decide, fun k nk => ?_⟩
        have hsh2 : ∀ y ∈ [chV ch 15, chV ch 0], Sht y 20 := fun y hy => by
          rcases List.mem_cons.mp hy with rfl | hy
          · exact hch (by decide)
          · rw [List.mem_singleton.mp hy]; exact hch (by decide)
        refine ⟨.list (tD path), .list (tD [chV ch 15, chV ch 0]), .lst (.inl (.inl ((same_upd nk) _ _ ep))) (dp_txts path), .lst (.inl (.inl upd_same)) (dp_txts [chV ch 15, chV ch 0]), by rw [hpath]; exact shp_txts hsh2, shp_txts hsh2, ?_⟩
        rw [eqv_lst, decide_eq_true hpath]
        exact q _ ((((s2.trans sm).trans sg).trans s5).trans (same_upd nk))
      · exact absurd List.mem_cons_self (hno _ _ (Wk.one.snoc h150))
end
end Kx

namespace Kx
open PySem PySem.Spec PyProof.Rows L2 NdefX Kr Ke Kn Kg
abbrev s_law : Stmt := topS 13
abbrev N_law : List Str := ["_law_script", "_law_pool", "_law_many", "_law_style", "_law_chain", "_law_arcs", "_law_start", "_law_goals", "_law_ends", "_law_least", "_law_handed", "_law_passed", "_law_told", "_law_j"]
theorem sc_law : FnScope N_law ["_law_script"] (defScope s_law) := ⟨rfl, rfl, rfl, by decide +kernel, rfl, by decide +kernel, by decide +kernel⟩
def spLaw (K : PySem.W.Frag) : Sp := fun vs H Q _ => ∃ (a : Addr) (ns : List Int), vs = [.ref a] ∧ SqL K H a (ns.map V.int) ∧ ns.length ≤ 63 ∧ ∀ H', Q (.bl true) H'
def chain (st : Int) : List Str := "zz9" :: (List.range 15).map fun j : Nat => nameV (j : Int) st
theorem chain_ok (st : Int) : ChainOk (chain st) where
  len := by unfold chain; rw [List.length_cons, List.length_map, List.length_range]
  sht := fun z hz => by
    unfold chain at hz
    rcases List.mem_cons.mp hz with rfl | hz
    · exact ⟨by decide +kernel, by decide +kernel⟩
    · obtain ⟨j, hj, rfl⟩ := List.mem_map.mp hz
      have := List.mem_range.mp hj
      exact (name_facts (by omega) (by omega)).1
  inj := fun i j hi hj h => by
    have e : ∀ n : Nat, n + 1 < 16 → chV (chain st) (n + 1) = nameV (n : Int) st := fun n hn => by
      unfold chV chain
      rw [List.getD_eq_getElem?_getD, List.getElem?_cons_succ, List.getElem?_map, List.getElem?_range (by omega)]
      rfl
    have e0 : chV (chain st) 0 = "zz9" := rfl
    match i, j, hi, hj with
    | 0, 0, _, _ => rfl
    | 0, j + 1, _, hj =>
      rw [e0, e j hj] at h
      exact absurd h.symm (name_facts (k := (j : Int)) (by omega) (by omega)).2.1
    | i + 1, 0, hi, _ =>
      rw [e0, e i hi] at h
      exact absurd h (name_facts (k := (i : Int)) (by omega) (by omega)).2.1
    | i + 1, j + 1, hi, hj =>
      rw [e i hi, e j hj] at h
      have := (name_facts (k := (i : Int)) (st := st) (by omega) (by omega)).2.2 (j : Int) (by omega) (by omega) h
      omega
theorem path_short {m : Nat} {st : Int} {arcs : List (Str × Str)} {s x : Str} {p : List Str} (hA : Arcs m st arcs) (w : Wk arcs s p x) (hn : p.Nodup) : p.length ≤ m + 1 := by
  have h := nd_le (m := s :: (List.range m).map fun j : Nat => nameV (j : Int) st) hn fun y hy => by
    rcases w.mem y hy with h | ⟨z, hz⟩
    · rw [h]; exact List.mem_cons_self
    · obtain ⟨i, j, hi, hj, e⟩ := hA _ hz
      injection e with e1 e2
      rw [e2]
      exact List.mem_cons_of_mem _ (List.mem_map.mpr ⟨j, List.mem_range.mpr hj, rfl⟩)
  rw [List.length_cons, List.length_map, List.length_range] at h
  exact h
def Lst (H : Hp) (x : V) : Prop := ∃ (q : Addr) (zs : List Str), x = .ref q ∧ H q = some (.lst (zs.map V.str)) ∧ ∀ z ∈ zs, Sht z 20
theorem cutV_map (zs : List Str) (lo hi : Option Int) : ∃ ys : List Str, cutV (zs.map V.str) lo hi = ys.map V.str ∧ ∀ y ∈ ys, y ∈ zs := by
  unfold cutV
  rw [← List.map_drop, ← List.map_take]
  exact ⟨_, rfl, fun y hy => List.mem_of_mem_drop (List.mem_of_mem_take hy)⟩
theorem eqv_lprs (p q : List (Str × Str)) : PyData.eqv (.list (p.map kPr)) (.list (q.map kPr)) = decide (p = q) := by
  have := eqv_prs p q
  simp only [PyData.eqv]
  exact this
section
variable {P : Program} {w : World} {K : PySem.W.Frag} {mg : Str → Option Value} {base : Heap}
theorem ok_law {f : Addr} {fd : FuncData} (F : Fun K "law" "law" s_law f fd) (T : TxS mg) (C_draws_of : Cal P w K mg base "_law_draws_of" 1 (spDraws K)) (C_named : Cal P w K mg base "_law_named" 1 spNamed) (C_arcs_of : Cal P w K mg base "_law_arcs_of" 2 (spArcs K)) (C_picked : Cal P w K mg base "_law_picked" 2 spPicked)
    (C_steps_to : Cal P w K mg base "_law_steps_to" 1 spSteps) (C_is_path : Cal P w K mg base "_law_is_path" 1 spIsPath) (C_long_right : Cal P w K mg base "_law_long_right" 3 spLong) (C_shortest_path : Cal P w K mg base "shortest_path" 2 spSP) : FnOk P w K mg base CX0 4 f fd ["_law_script"] (spLaw K) := by
  refine F.ok sc_law (fun vs H Q E h => ?_) (fun cdv A outer s H vs Q E hr h => ?_)
  · obtain ⟨a, ns, rfl, _⟩ := h
    rfl
  · obtain ⟨a, ns, rfl, hS, hlen, q⟩ := h
    refine ⟨_, (pss_cons (ps_set (i := 1) sc_law.nd rfl (Or.inl rfl) (pe_cal C_draws_of (hr.mono (by decide)) (by rfl) (pa_cons (pv 0) pa_nil)))
      (pss_cons (ps_set (i := 2) sc_law.nd rfl (Or.inl rfl) (pe_op op_add pe_int (pe_op op_mod (pe_callTy call_int1 (by rfl) T.m_int (by decide +kernel) (pa_cons (pe_ix ix_list (pv 1) pe_int (fun _ _ => rfl)) pa_nil)) pe_int)))
      (pss_cons (ps_set (i := 3) sc_law.nd rfl (Or.inr rfl) (pe_op op_fdiv (pe_callTy call_int1 (by rfl) T.m_int (by decide +kernel) (pa_cons (pe_ix ix_list (pv 1) pe_int (fun _ _ => rfl)) pa_nil)) pe_int))
      (pss_cons (ps_set (i := 4) sc_law.nd rfl (Or.inl rfl) (pe_op op_cat (pe_lst (pa_cons pe_str pa_nil)) (pe_lc (own := [("_law_j", 13)]) (g := gName 13) (tt := tYes) rfl sc_law.nd (pi_range1 (by rfl) T.m_range (pa_cons pe_int pa_nil)) (blkOk_by (own := [("_law_j", 13)]) (N := N_law) (sc := defScope s_law) (by decide +kernel)) (fun _ _ _ _ _ => pg_name (i := 13) sc_law.nd rfl (Or.inl rfl)) (fun _ _ _ _ _ => pts_nil) (fun _ _ _ _ _ => (pe_cal C_named (hr.mono (by decide)) (by rfl) (pa_cons (pv 13) (pa_cons (pv 3) pa_nil)))))))
      (pss_cons (ps_if (pt_not (pt_val (pe_cal C_long_right (hr.mono (by decide)) (by rfl) (pa_cons (pv 4) (pa_cons (pe_callTy call_int1 (by rfl) T.m_int (by decide +kernel) (pa_cons (pe_ix ix_list (pv 1) pe_int (fun _ _ => rfl)) pa_nil)) (pa_cons (pe_op op_mod (pe_callTy call_int1 (by rfl) T.m_int (by decide +kernel) (pa_cons (pe_ix ix_list (pv 1) pe_int (fun _ _ => rfl)) pa_nil)) pe_int) pa_nil))))))
        (pss_one (ps_ret pe_bl))
        pss_nil)
      (pss_cons (ps_set (i := 5) sc_law.nd rfl (Or.inl rfl) (pe_cal C_arcs_of (hr.mono (by decide)) (by rfl) (pa_cons (pv 1) (pa_cons (pv 2) (pa_cons (pv 3) pa_nil)))))
      (pss_cons (ps_set (i := 6) sc_law.nd rfl (Or.inl rfl) (pe_cal C_named (hr.mono (by decide)) (by rfl) (pa_cons (pe_op op_mod (pe_op op_mod (pe_callTy call_int1 (by rfl) T.m_int (by decide +kernel) (pa_cons (pe_ix ix_list (pv 1) pe_int (fun _ _ => rfl)) pa_nil)) pe_int) (pe_op op_add (pv 2) pe_int)) (pa_cons (pv 3) pa_nil))))
      (pss_cons (ps_set (i := 7) sc_law.nd rfl (Or.inl rfl) (pe_cal C_picked (hr.mono (by decide)) (by rfl) (pa_cons (pe_op op_fdiv (pe_callTy call_int1 (by rfl) T.m_int (by decide +kernel) (pa_cons (pe_ix ix_list (pv 1) pe_int (fun _ _ => rfl)) pa_nil)) pe_int) (pa_cons (pe_op op_add (pv 2) pe_int) (pa_cons (pv 3) pa_nil)))))
      (pss_cons (ps_for PassesOwn.never rfl (pi_list (pe_lst (pa_cons (pv 7) (pa_cons (pe_slice sl_list (pv 7) po_none (po_some pe_int)) (pa_cons (pe_lst pa_nil) (pa_cons (pe_lst (pa_cons (pv 6) pa_nil)) (pa_cons (pe_revL (pv 7)) pa_nil))))))) (pg_name (i := 8) sc_law.nd rfl (Or.inl rfl))
        (C8.pss_cut (ps_set (i := 9) sc_law.nd rfl (Or.inl rfl) (pe_cal C_steps_to (hr.mono (by decide)) (by rfl) (pa_cons (pv 5) (pa_cons (pv 6) (pa_cons (pv 8) pa_nil)))))
        (pss_cons (ps_set (i := 10) sc_law.nd rfl (Or.inl rfl) (pe_callTy call_list_of (by rfl) T.m_list (by decide +kernel) (pa_cons (pv 5) pa_nil)))
        (pss_cons (ps_set (i := 11) sc_law.nd rfl (Or.inl rfl) (pe_callTy call_list_of (by rfl) T.m_list (by decide +kernel) (pa_cons (pv 8) pa_nil)))
        (C8.pss_cut (ps_set (i := 12) sc_law.nd rfl (Or.inl rfl) (pe_cal C_shortest_path (hr.mono (by decide)) (by rfl) (pa_cons (pv 10) (pa_cons (pv 6) (pa_cons (pv 11) pa_nil)))))
        (pss_cons (ps_if (PW.pt (pw_or (pt_cmpR (op_neD hr.units) (pv 10) (pv 5) (nomark _)) (pw_or1 (pt_cmpR (op_neD hr.units) (pv 11) (pv 8) (nomark _)))))
          (pss_one (ps_ret pe_bl))
          pss_nil)
        (pss_cons (ps_if (PW.pt (pw_and (pt_cmpR op_isN (pv 9) pe_non (nomark _)) (pw_and1 (pt_cmpR op_notN (pv 12) pe_non (nomark _)))))
          (pss_one (ps_ret pe_bl))
          pss_nil)
        (pss_one (ps_if (pt_cmpR op_notN (pv 9) pe_non (nomark _))
          (pss_one (ps_if (PW.pt (pw_or (pt_not (pt_val (pe_cal C_is_path (hr.mono (by decide)) (by rfl) (pa_cons (pv 12) (pa_cons (pv 5) (pa_cons (pv 6) (pa_cons (pv 8) pa_nil))))))) (pw_or1 (pt_cmpR op_ne (pe_callB call_len_seq (by rfl) T.m_len (by decide +kernel) (pa_cons (pv 12) pa_nil)) (pe_op op_add (pv 9) pe_int) (nomark _)))))
            (pss_one (ps_ret pe_bl))
            pss_nil))
          pss_nil)))))))))
      (pss_one (ps_ret pe_bl))))))))))), ?_⟩
    refine ⟨_, rfl, a, ns, rfl, hS, hlen, fun H1 p ms sm np ep hP => ?_⟩
    have hlo := hP.lo
    have r0 := (getD_rg hP.rg (i := 0) (by omega)).2
    have r1 := (getD_rg hP.rg (i := 1) (by omega)).2
    have r2 := (getD_rg hP.rg (i := 2) (by omega)).2
    obtain ⟨r0a, r0b⟩ := r0
    obtain ⟨r1a, r1b⟩ := r1
    obtain ⟨r2a, r2b⟩ := r2
    have a0 : atI (ms.map V.int) 0 = some (.int (ms.getD 0 0)) := at_pool (by decide) (by omega)
    have a1 : atI (ms.map V.int) 1 = some (.int (ms.getD 1 0)) := at_pool (by decide) (by omega)
    have a2 : atI (ms.map V.int) 2 = some (.int (ms.getD 2 0)) := at_pool (by decide) (by omega)
    generalize ms.getD 0 0 = d0 at *
    generalize ms.getD 1 0 = d1 at *
    generalize ms.getD 2 0 = d2 at *
    refine ⟨_, rfl, p, _, 0, _, rfl, rfl, .inl (.inl ep), a0, .inl ⟨_, rfl, _, _, rfl, rfl, (by show (0 : Int) < 10; decide), _, _, rfl, rfl, ?_⟩⟩
    refine ⟨_, rfl, p, _, 0, _, rfl, rfl, .inl (.inl ep), a0, .inl ⟨_, rfl, _, _, rfl, rfl, ⟨by decide, by decide⟩, ?_⟩⟩
    obtain ⟨m, hm⟩ : ∃ m : Nat, 1 + d0 % 10 = (m : Int) := ⟨(1 + d0 % 10).toNat, by omega⟩
    have hm1 : 1 ≤ m ∧ m ≤ 10 := by omega
    have hst : 0 ≤ d0 / 10 ∧ d0 / 10 < 70000 := by omega
    simp only [hm]
    generalize d0 / 10 = st at hst ⊢
    refine ⟨by show 1 ≤ sizeLine; decide, fun z0 nz0 => ?_⟩
    refine ⟨15, rfl, by decide, by decide, fun D nD => ?_⟩
    have sz0 : Same H1 (upd H1 z0 (.lst [V.str "zz9"])) := same_upd nz0
    refine lc_range (lo := 0) (n := Int.toNat 15) (fun i Hx => Same (upd H1 z0 (.lst [V.str "zz9"])) Hx ∧ Hx D = some (.lst (((List.range i).map fun j : Nat => nameV (j : Int) st).map V.str)))
      ⟨same_upd nD, upd_same⟩ ?_ ?_
    · rintro i Hx hi ⟨sx, eD⟩
      have hi15 : i < 15 := hi
      refine ⟨rfl, _, rfl, _, rfl, 0 + (i : Int), st, rfl, by omega, by omega, hst.1, hst.2, fun H2 s2 => ?_⟩
      refine ⟨_, s2 _ _ eD, sz8 (by rw [List.length_map, List.length_map, List.length_range]; omega), same_mut (sx.trans s2) nD, ?_⟩
      rw [upd_same, List.range_succ, List.map_append, List.map_append, Int.zero_add]
      rfl
    rintro Hx ⟨sx, eD⟩
    have ez : Hx z0 = some (.lst [V.str "zz9"]) := sx _ _ upd_same
    refine ⟨z0, D, _, _, rfl, rfl, ez, eD, sz9 (by show 1 + _ ≤ _; rw [List.length_map, List.length_map, List.length_range]; decide), fun c nc => ?_⟩
    have sc : Same Hx (upd Hx c (.lst ((chain st).map V.str))) := same_upd nc
    have ec : (upd Hx c (.lst ((chain st).map V.str))) c = some (.lst ((chain st).map V.str)) := upd_same
    have sH : Same H1 (upd Hx c (.lst ((chain st).map V.str))) := (sz0.trans sx).trans sc
    show _
    have ep2 := sH _ _ ep
    refine ⟨_, rfl, _, rfl, p, _, 2, _, rfl, rfl, .inl (.inl ep2), a2, .inl ⟨_, rfl, _, rfl, p, _, 1, _, rfl, rfl, .inl (.inl ep2), a1, .inl ⟨_, rfl, _, _, rfl, rfl, (by show (0 : Int) < 16; decide), ?_⟩⟩⟩
    refine ⟨c, chain st, d2, d1 % 16, rfl, ec, chain_ok st, r2a, by omega, by omega, by omega, fun H4 s4 => ⟨_, rfl, iteF ?_⟩⟩
    have ep4 := s4 _ _ ep2
    refine ⟨_, rfl, _, rfl, _, rfl, p, ms, m, st, rfl, .inl (.inl ep4), hP, hm1.1, by omega, hst.1, hst.2, fun ar arcs H5 s5 nar hPrs hA hal hnd => ?_⟩
    have ep5 := s5 _ _ ep4
    have k0 := Int.emod_nonneg (d2 % 11) (show (m : Int) + 1 ≠ 0 by omega)
    have k1 := Int.emod_lt_of_pos (d2 % 11) (show 0 < (m : Int) + 1 by omega)
    refine ⟨_, rfl, p, _, 2, _, rfl, rfl, .inl (.inl ep5), a2, .inl ⟨_, rfl, _, _, rfl, rfl, (by show (0 : Int) < 11; decide), _, rfl, _, _, rfl, rfl, _, _, rfl, rfl, (by show (0 : Int) < (m : Int) + 1; omega), _, rfl, _, st, rfl, k0, by omega, hst.1, hst.2, fun H6 s6 => ?_⟩⟩
    have hs20 := (name_facts (k := d2 % 11 % ((m : Int) + 1)) (st := st) k0 (by omega)).1
    have hsN : ∃ u : Nat, u < 16 ∧ nameV (d2 % 11 % ((m : Int) + 1)) st = nameV (u : Int) st := ⟨(d2 % 11 % ((m : Int) + 1)).toNat, by omega, by rw [Int.toNat_of_nonneg k0]⟩
    have ep6 := s6 _ _ ep5
    refine ⟨_, rfl, p, _, 2, _, rfl, rfl, .inl (.inl ep6), a2, .inl ⟨_, rfl, _, _, rfl, rfl, ⟨by decide, by decide⟩, _, rfl, _, _, rfl, rfl, _, rfl, d2 / 11, m + 1, st, rfl, by omega, by omega, hst.1, hst.2, fun gl H7 s7 ngl egl => ?_⟩⟩
    generalize nameV (d2 % 11 % ((m : Int) + 1)) st = start at hs20 hsN ⊢
    have hgS : ∀ z ∈ pickV (d2 / 11) (m + 1) st, Sht z 20 := fun z hz => by
      obtain ⟨j, hj, rfl⟩ := pick_mem hz
      exact (name_facts (by omega) (by omega)).1
    generalize pickV (d2 / 11) (m + 1) st = goals at egl hgS ⊢
    have hPrs7 := (hPrs.same s6).same s7
    refine ⟨_, rfl, _, rfl, 1, rfl, gl, _, rfl, .inl (.inl egl), fun g1 ng1 => ?_⟩
    refine ⟨by show 0 ≤ sizeLine; decide, fun g2 ng2 => ?_⟩
    refine ⟨_, rfl, by show 1 ≤ sizeLine; decide, fun g3 ng3 => ?_⟩
    have G1 := same_upd (o := .lst (cutV (goals.map V.str) none (some 1))) ng1
    have G2 := G1.trans (same_upd (o := .lst []) ng2)
    have G3 := G2.trans (same_upd (o := .lst [V.str start]) ng3)
    refine ⟨_, rfl, gl, _, rfl, .inl (.inl (G3 _ _ egl)), fun g4 ng4 => ?_⟩
    have G4 := G3.trans (same_upd (o := .lst (goals.map V.str).reverse) ng4)
    refine ⟨by show 5 ≤ sizeLine; decide, fun E nE => ⟨E, rfl, ⟨_, .inl (.inl upd_same)⟩, ?_⟩⟩
    have hL5 : ∀ x ∈ [V.ref gl, V.ref g1, V.ref g2, V.ref g3, V.ref g4], Lst (upd (upd (upd (upd (upd H7 g1 (.lst (cutV (goals.map V.str) none (some 1)))) g2 (.lst [])) g3 (.lst [V.str start])) g4 (.lst (goals.map V.str).reverse)) E (.lst [V.ref gl, V.ref g1, V.ref g2, V.ref g3, V.ref g4])) x := by
      have t1 := (same_upd (o := .lst []) ng2)
      have t2 := (same_upd (o := .lst [V.str start]) ng3)
      have t3 := (same_upd (o := .lst (goals.map V.str).reverse) ng4)
      have t4 := (same_upd (o := .lst [V.ref gl, V.ref g1, V.ref g2, V.ref g3, V.ref g4]) nE)
      obtain ⟨zs, hz1, hz2⟩ := cutV_map goals none (some 1)
      intro x hx
      simp only [List.mem_cons, List.not_mem_nil, or_false] at hx
      rcases hx with rfl | rfl | rfl | rfl | rfl
      · exact ⟨gl, goals, rfl, t4 _ _ (G4 _ _ egl), hgS⟩
      · exact ⟨g1, zs, rfl, t4 _ _ (t3 _ _ (t2 _ _ (t1 _ _ (by rw [upd_same, hz1])))), fun z hz => hgS z (hz2 z hz)⟩
      · exact ⟨g2, [], rfl, t4 _ _ (t3 _ _ (t2 _ _ upd_same)), fun z hz => (by cases hz)⟩
      · exact ⟨g3, [start], rfl, t4 _ _ (t3 _ _ upd_same), fun z hz => by rw [List.mem_singleton.mp hz]; exact hs20⟩
      · exact ⟨g4, goals.reverse, rfl, t4 _ _ (by rw [upd_same, List.map_reverse]), fun z hz => hgS z (List.mem_reverse.mp hz)⟩
    have hPrsE := hPrs7.same (G4.trans (same_upd (o := .lst [V.ref gl, V.ref g1, V.ref g2, V.ref g3, V.ref g4]) nE))
    have eE : (upd (upd (upd (upd (upd H7 g1 (.lst (cutV (goals.map V.str) none (some 1)))) g2 (.lst [])) g3 (.lst [V.str start])) g4 (.lst (goals.map V.str).reverse)) E (.lst [V.ref gl, V.ref g1, V.ref g2, V.ref g3, V.ref g4])) E = some (.lst [V.ref gl, V.ref g1, V.ref g2, V.ref g3, V.ref g4]) := upd_same
    generalize upd (upd (upd (upd (upd H7 g1 (.lst (cutV (goals.map V.str) none (some 1)))) g2 (.lst [])) g3 (.lst [V.str start])) g4 (.lst (goals.map V.str).reverse)) E (.lst [V.ref gl, V.ref g1, V.ref g2, V.ref g3, V.ref g4]) = HE at hL5 hPrsE eE ⊢
    have hsA := hA.sht (by omega)
    let mk : Option V → Option V → Option V → Option V → Option V → L2.St := fun x8 x9 x10 x11 x12 => [some (.ref a), some (.ref p), some (.int (m : Int)), some (.int st), some (.ref c), some (.ref ar), some (.str start), some (.ref gl), x8, x9, x10, x11, x12, none]
    refine for_list (xs := [V.ref gl, V.ref g1, V.ref g2, V.ref g3, V.ref g4]) (fun i σ Hx => ∃ x8 x9 x10 x11 x12 : Option V, σ = mk x8 x9 x10 x11 x12 ∧ Same HE Hx)
      ⟨none, none, none, none, none, rfl, Same.refl _⟩ (fun i σ Hx _ ⟨_, _, _, _, _, _, sx⟩ => .inl (.inl (sx _ _ eE))) ?_ ?_
    · rintro i x σ Hx hx ⟨x8, x9, x10, x11, x12, rfl, sx⟩
      obtain ⟨e, zs, rfl, ee, hz⟩ := hL5 x (List.mem_of_getElem? hx)
      refine ⟨fun σ H' => ∃ y9 : V, σ = mk (some (.ref e)) (some y9) x10 x11 x12 ∧ Same HE H' ∧ ((∃ k : Nat, y9 = .int (k : Int) ∧ (∃ p x, Wk arcs start p x ∧ x ∈ zs ∧ p.length = k + 1) ∧ ∀ p x, Wk arcs start p x → x ∈ zs → k + 1 ≤ p.length) ∨ (y9 = .non ∧ ∀ p x, Wk arcs start p x → x ∈ zs → 13 ≤ p.length)), ?_, ?_⟩
      · exact ⟨_, rfl, _, rfl, _, rfl, ar, e, start, arcs, zs, rfl, hPrsE.same sx, by omega, sx _ _ ee, fun k H' s' hk1 hk2 _ => ⟨_, rfl, sx.trans s', .inl ⟨k, rfl, hk1, hk2⟩⟩, fun H' s' h => ⟨_, rfl, sx.trans s', .inr ⟨rfl, h⟩⟩⟩
      rintro σ Ha ⟨y9, rfl, sa, hleast⟩
      obtain ⟨axs, ear, hpr⟩ := hPrsE.same sa
      refine ⟨_, rfl, ar, _, rfl, .inl (.inl (.inl ear)), fun h1 nh1 => ?_⟩
      have sb : Same Ha (upd Ha h1 (.lst axs)) := same_upd nh1
      refine ⟨_, rfl, e, _, rfl, .inl (.inl (.inl (sb _ _ (sa _ _ ee)))), fun h2 nh2 => ?_⟩
      have sc2 : Same (upd Ha h1 (.lst axs)) (upd (upd Ha h1 (.lst axs)) h2 (.lst (zs.map V.str))) := same_upd nh2
      have eh1 : (upd (upd Ha h1 (.lst axs)) h2 (.lst (zs.map V.str))) h1 = some (.lst axs) := sc2 _ _ upd_same
      have eh2 : (upd (upd Ha h1 (.lst axs)) h2 (.lst (zs.map V.str))) h2 = some (.lst (zs.map V.str)) := upd_same
      have sab : Same Ha (upd (upd Ha h1 (.lst axs)) h2 (.lst (zs.map V.str))) := sb.trans sc2
      generalize upd (upd Ha h1 (.lst axs)) h2 (.lst (zs.map V.str)) = Hb at eh1 eh2 sab ⊢
      refine ⟨fun σ H' => ∃ y12 : V, σ = mk (some (.ref e)) (some y9) (some (.ref h1)) (some (.ref h2)) (some y12) ∧ Same Hb H' ∧ ((∃ (t : Addr) (path : List Str), y12 = .ref t ∧ H' t = some (.lst (path.map V.str)) ∧ Sh arcs start zs path) ∨ (y12 = .non ∧ NoW arcs start zs)), ?_, ?_⟩
      · exact ⟨_, rfl, _, rfl, _, rfl, h1, h2, start, arcs, zs, rfl, ⟨axs, eh1, pd_mono (fun _ _ z => z.same sab) hpr⟩, by omega, eh2, fun t path H' s' nt et hsh => ⟨_, rfl, s', .inl ⟨t, path, rfl, et, hsh⟩⟩, fun H' s' h => ⟨_, rfl, s', .inr ⟨rfl, h⟩⟩⟩
      rintro σ Hc ⟨y12, rfl, sc3, htold⟩
      have hprc : Paired (PrAt Hc) axs arcs := pd_mono (fun _ _ z => (z.same sab).same sc3) hpr
      have earc := sc3 _ _ (sab _ _ ear)
      have eec := sc3 _ _ (sab _ _ (sa _ _ ee))
      refine ⟨_, rfl, _, rfl, .list (arcs.map kPr), .list (arcs.map kPr), .lst (.inl (.inl (sc3 _ _ eh1))) (dp_prs hprc), .lst (.inl (.inl earc)) (dp_prs hprc), shp_prs hsA, shp_prs hsA, _, rfl, ?_⟩
      rw [eqv_lprs, decide_eq_true rfl]
      refine iteF ?_
      refine ⟨_, rfl, _, rfl, .list (tD zs), .list (tD zs), .lst (.inl (.inl (sc3 _ _ eh2))) (dp_txts zs), .lst (.inl (.inl eec)) (dp_txts zs), shp_txts hz, shp_txts hz, _, rfl, ?_⟩
      rw [eqv_lst, decide_eq_true rfl]
      refine iteF ?_
      have sEnd : Same HE Hc := (sa.trans sab).trans sc3
      rcases hleast with ⟨k, rfl, ⟨p1, w1, hw1, hwg, hwl⟩, hmin⟩ | ⟨rfl, hfar⟩
      · refine ⟨_, rfl, rfl, _, rfl, iteB (fun h => absurd (of_decide_eq_true h) (by intro e; cases e)) (fun _ => ?_)⟩
        refine ⟨_, rfl, rfl, _, rfl, iteB (fun _ => ?_) (fun h => by simp at h)⟩
        rcases htold with ⟨t, path, rfl, et, ⟨g, hg, hw⟩, hnd2, hsm⟩ | ⟨rfl, hno⟩
        · have hle := hsm p1 w1 hw1 hwg
          have hge := hmin path g hw hg
          have hps := path_short hA hw hnd2
          refine ⟨_, rfl, _, rfl, _, rfl, _, rfl, t, ar, e, start, g, arcs, zs, path, rfl, et, ⟨axs, earc, hprc⟩, hsA, hs20, eec, hw, hg, hnd2, by omega, fun H' s' => ⟨_, rfl, iteF ?_⟩⟩
          refine ⟨_, rfl, t, _, rfl, .inl (.inl (.inl (s' _ _ et))), _, rfl, _, _, rfl, rfl, rfl, _, rfl, iteB (fun h => ?_) (fun _ => ?_)⟩
          · have e1 : (((path.map V.str).length : Nat) : Int) = (k : Int) + 1 := by rw [List.length_map]; omega
            rw [e1] at h
            simp at h
          · exact ⟨_, _, _, _, _, rfl, sEnd.trans s'⟩
        · exact absurd hwg (hno p1 w1 hw1)
      · refine ⟨_, rfl, rfl, _, rfl, iteB (fun _ => ?_) (fun h => absurd rfl (of_decide_eq_false h))⟩
        rcases htold with ⟨t, path, rfl, et, ⟨g, hg, hw⟩, hnd2, hsm⟩ | ⟨rfl, hno⟩
        · have hps := path_short hA hw hnd2
          have := hfar path g hw hg
          omega
        · refine ⟨_, rfl, rfl, _, rfl, iteB (fun h => by simp at h) (fun _ => ?_)⟩
          refine ⟨_, rfl, rfl, _, rfl, iteB (fun h => by simp at h) (fun _ => ?_)⟩
          exact ⟨_, _, _, _, _, rfl, sEnd⟩
    · rintro σ Hx ⟨x8, x9, x10, x11, x12, rfl, sx⟩
      exact q Hx
end
end Kx

namespace Kx
open PySem PySem.Spec PyProof.Rows L2 NdefX Kr Ke Kn Kg
theorem all_mk {l : PySem.W.OpenLaw} {w : World} {K : PySem.W.Frag} {h : Heap} {mg : Str → Option Value} {fa f0 f1 f2 f3 f4 f5 f6 f7 f8 f9 f10 f11 : Addr} {fd0 fd1 fd2 fd3 fd4 fd5 fd6 fd7 fd8 fd9 fd10 fd11 : FuncData} (X : K.In h) (G : h.Ns mainGlobals mg) (hfa : mg "law" = some (.ref fa))
    (d0 : At K "law" s_law f0 fd0)
    (d1 : At K "_law_draws_of" s_draws_of f1 fd1)
    (d2 : At K "_law_nth" s_nth f2 fd2)
    (d3 : At K "_law_named" s_named f3 fd3)
    (d4 : At K "_law_arcs_of" s_arcs_of f4 fd4)
    (d5 : At K "_law_picked" s_picked f5 fd5)
    (d6 : At K "_law_steps_to" s_steps_to f6 fd6)
    (d7 : At K "_law_is_path" s_is_path f7 fd7)
    (d8 : At K "_law_wide" s_wide f8 fd8)
    (d9 : At K "_law_long_right" s_long_right f9 fd9)
    (d10 : At K "shortest_path" s_shortest_path f10 fd10)
    (d11 : At K "_onward" s_onward f11 fd11)
    (y0 : ∀ (s : Shared) (v : Value), BindsTo s fd0 ⟨[v], []⟩ [("_law_script", v)])
    (y1 : Binds K fd1 ["_law_script"] [])
    (y2 : Binds K fd2 ["_law_pool", "_law_k"] [])
    (y3 : Binds K fd3 ["_law_k", "_law_style"] [])
    (y4 : Binds K fd4 ["_law_pool", "_law_many", "_law_style"] [])
    (y5 : Binds K fd5 ["_law_mask", "_law_many", "_law_style"] [])
    (y6 : Binds K fd6 ["_law_arcs", "_law_start", "_law_goals"] [])
    (y7 : Binds K fd7 ["_law_told", "_law_arcs", "_law_start", "_law_goals"] [])
    (y8 : Binds K fd8 ["_law_chain", "_law_first"] [])
    (y9 : Binds K fd9 ["_law_chain", "_law_first", "_law_last"] [])
    (y10 : Binds K fd10 ["arcs", "start", "goals"] [])
    (y11 : Binds K fd11 ["arcs"] [])
    (z0 : PySem.W.nsIn K mainGlobals "len" = some none)
    (z1 : PySem.W.nsIn K mainGlobals "abs" = some none)
    (z2 : PySem.W.nsIn K mainGlobals "int" = some none)
    (z3 : PySem.W.nsIn K mainGlobals "range" = some none)
    (z4 : PySem.W.nsIn K mainGlobals "isinstance" = some none)
    (z5 : PySem.W.nsIn K mainGlobals "str" = some none)
    (z6 : PySem.W.nsIn K mainGlobals "list" = some none) :
    ∃ fd : FuncData, (∀ (s : Shared) (v : Value), BindsTo s fd ⟨[v], []⟩ [("_law_script", v)]) ∧ ∀ base : Heap, K.In base → base.Ns mainGlobals mg → FnOk l.prog w K mg base CX0 4 fa fd ["_law_script"] (spLaw K) := by
  have e := hfa.symm.trans (PySem.W.mg_of X G d0.a)
  cases e
  have T : TxS mg := { m_len := PySem.W.mg_none_of X G z0, m_abs := PySem.W.mg_none_of X G z1, m_int := PySem.W.mg_none_of X G z2, m_range := PySem.W.mg_none_of X G z3, m_isinstance := PySem.W.mg_none_of X G z4, m_str := PySem.W.mg_none_of X G z5, m_list := PySem.W.mg_none_of X G z6 }
  refine ⟨fd0, y0, fun base _ _ => ?_⟩
  have C1 : Cal l.prog w K mg base "_law_draws_of" 1 (spDraws K) := ⟨f1, fd1, _, ok_draws_of d1.F T.toTB, y1, PySem.W.mg_of X G d1.a, d1.F.kp⟩
  have C2 : Cal l.prog w K mg base "_law_nth" 1 (spNth K) := ⟨f2, fd2, _, ok_nth d2.F T.toTB, y2, PySem.W.mg_of X G d2.a, d2.F.kp⟩
  have C3 : Cal l.prog w K mg base "_law_named" 1 spNamed := ⟨f3, fd3, _, ok_named d3.F T, y3, PySem.W.mg_of X G d3.a, d3.F.kp⟩
  have C4 : Cal l.prog w K mg base "_law_arcs_of" 2 (spArcs K) := ⟨f4, fd4, _, ok_arcs_of d4.F T C2 C3, y4, PySem.W.mg_of X G d4.a, d4.F.kp⟩
  have C5 : Cal l.prog w K mg base "_law_picked" 2 spPicked := ⟨f5, fd5, _, ok_picked d5.F T C3, y5, PySem.W.mg_of X G d5.a, d5.F.kp⟩
  have C6 : Cal l.prog w K mg base "_law_steps_to" 1 spSteps := ⟨f6, fd6, _, ok_steps_to d6.F T, y6, PySem.W.mg_of X G d6.a, d6.F.kp⟩
  have C7 : Cal l.prog w K mg base "_law_is_path" 1 spIsPath := ⟨f7, fd7, _, ok_is_path d7.F T, y7, PySem.W.mg_of X G d7.a, d7.F.kp⟩
  have C8' : Cal l.prog w K mg base "_law_wide" 1 spWide := ⟨f8, fd8, _, ok_wide d8.F T, y8, PySem.W.mg_of X G d8.a, d8.F.kp⟩
  have C11 : Cal l.prog w K mg base "_onward" 1 spOnward := ⟨f11, fd11, _, ok_onward d11.F, y11, PySem.W.mg_of X G d11.a, d11.F.kp⟩
  have C10 : Cal l.prog w K mg base "shortest_path" 2 spSP := ⟨f10, fd10, _, ok_shortest_path d10.F T C11, y10, PySem.W.mg_of X G d10.a, d10.F.kp⟩
  have C9 : Cal l.prog w K mg base "_law_long_right" 3 spLong := ⟨f9, fd9, _, ok_long_right d9.F T C8' C10, y9, PySem.W.mg_of X G d9.a, d9.F.kp⟩
  exact ok_law d0.F T C1 C3 C4 C5 C6 C7 C9 C10
end Kx

open PySem PySem.W PyProof.Rows
set_option maxHeartbeats 0 in
theorem PySem.Challenge.cw_letforget_k06_shortest_paths_holds : PySem.Challenge.rw_letforget_k06_shortest_paths.Holds := by
  w_on; o_law; k_head; (case hw => w_witness2)
  k_fill
  refine L2.walk_of (l := PySem.Challenge.rw_letforget_k06_shortest_paths) (n := 63) (k := 4) (x := "_law_script") (CX := fun _ => L2.CX0) (sp := fun w => Kx.spLaw _) rfl (by decide) rfl ⟨rfl, by decide, by decide⟩ (fun w h Y => PySem.W.kIn_of Y) ?F (fun _ _ a ns hl _ hS => ⟨a, ns, rfl, hS, hl, fun _ => rfl⟩) (fun _ _ _ _ _ h => h)
  case F =>
    intro w mg fa h KX G hmg
    refine' Kx.all_mk (l := PySem.Challenge.rw_letforget_k06_shortest_paths) KX G hmg (Kx.at_mk ?a0 ?l0 ?e0 ?k0)
      (Kx.at_mk ?a1 ?l1 ?e1 ?k1)
      (Kx.at_mk ?a2 ?l2 ?e2 ?k2)
      (Kx.at_mk ?a3 ?l3 ?e3 ?k3)
      (Kx.at_mk ?a4 ?l4 ?e4 ?k4)
      (Kx.at_mk ?a5 ?l5 ?e5 ?k5)
      (Kx.at_mk ?a6 ?l6 ?e6 ?k6)
      (Kx.at_mk ?a7 ?l7 ?e7 ?k7)
      (Kx.at_mk ?a8 ?l8 ?e8 ?k8)
      (Kx.at_mk ?a9 ?l9 ?e9 ?k9)
      (Kx.at_mk ?a10 ?l10 ?e10 ?k10)
      (Kx.at_mk ?a11 ?l11 ?e11 ?k11)
      (fun s v => .of_eq rfl)
      (.all fun us hl => match us, hl with | [_], _ => rfl)
      (.all fun us hl => match us, hl with | [_, _], _ => rfl)
      (.all fun us hl => match us, hl with | [_, _], _ => rfl)
      (.all fun us hl => match us, hl with | [_, _, _], _ => rfl)
      (.all fun us hl => match us, hl with | [_, _, _], _ => rfl)
      (.all fun us hl => match us, hl with | [_, _, _], _ => rfl)
      (.all fun us hl => match us, hl with | [_, _, _, _], _ => rfl)
      (.all fun us hl => match us, hl with | [_, _], _ => rfl)
      (.all fun us hl => match us, hl with | [_, _, _], _ => rfl)
      (.all fun us hl => match us, hl with | [_, _, _], _ => rfl)
      (.all fun us hl => match us, hl with | [_], _ => rfl)
      ?z0
      ?z1
      ?z2
      ?z3
      ?z4
      ?z5
      ?z6
    (case a0 => k_is)
    (case l0 => k_is)
    (case e0 => k_is)
    (case k0 => k_is)
    (case a1 => k_is)
    (case l1 => k_is)
    (case e1 => k_is)
    (case k1 => k_is)
    (case a2 => k_is)
    (case l2 => k_is)
    (case e2 => k_is)
    (case k2 => k_is)
    (case a3 => k_is)
    (case l3 => k_is)
    (case e3 => k_is)
    (case k3 => k_is)
    (case a4 => k_is)
    (case l4 => k_is)
    (case e4 => k_is)
    (case k4 => k_is)
    (case a5 => k_is)
    (case l5 => k_is)
    (case e5 => k_is)
    (case k5 => k_is)
    (case a6 => k_is)
    (case l6 => k_is)
    (case e6 => k_is)
    (case k6 => k_is)
    (case a7 => k_is)
    (case l7 => k_is)
    (case e7 => k_is)
    (case k7 => k_is)
    (case a8 => k_is)
    (case l8 => k_is)
    (case e8 => k_is)
    (case k8 => k_is)
    (case a9 => k_is)
    (case l9 => k_is)
    (case e9 => k_is)
    (case k9 => k_is)
    (case a10 => k_is)
    (case l10 => k_is)
    (case e10 => k_is)
    (case k10 => k_is)
    (case a11 => k_is)
    (case l11 => k_is)
    (case e11 => k_is)
    (case k11 => k_is)
    (case z0 => k_is)
    (case z1 => k_is)
    (case z2 => k_is)
    (case z3 => k_is)
    (case z4 => k_is)
    (case z5 => k_is)
    (case z6 => k_is)
