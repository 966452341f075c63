import PyProof.Rows.All
import Wide.All
import OpenK.AllK
import Wide.FinOn
import HandS.ForMost
import HandS.IsInst
import HandS.TupLe
import HandS.Codes
import PySem.Challenge.RW_letforget_k01_valid_names
set_option Elab.async false
set_option linter.all false
set_option maxRecDepth 100000
set_option maxHeartbeats 4000000
namespace Kp
open PySem PySem.Spec PyProof.Rows L2
def topS (i : Nat) : Stmt := PySem.Challenge.pw_letforget_k01_valid_names.main.body.getD i (.Pass ⟨0, 0, 0, 0⟩)
/-! ### a def as its callers see it; a constant of the module -/
def Cal (P : Program) (w : World) (K : PySem.W.Frag) (mg : Str → Option Value) (base : Heap) (x : Str) (k : Nat) (sp : Sp) : Prop :=
  ∃ (f : Addr) (fd : FuncData) (ps : List Str), FnOk P w K mg base CX0 k f fd ps sp ∧ Binds K fd ps [] ∧ mg x = some (.ref f) ∧ PySem.W.keepIn K (.ref f) = true
theorem pe_cal {X : Cx} {x : Str} {k : Nat} {sp : Sp} {e : Expr} {es : List Expr} {t : TA} {p pos : Pos} (C : Cal X.prog X.w X.K X.mg X.base x k sp) (hr : Room k X.A) (hg : Gl X x) (ha : PA X (e :: es) t)
    (hdb : (x == ("__debug__" : Str)) = false := by decide) (he : starEach (e :: es) X.env = (false, eval e X.env) :: starEach es X.env := by rfl) (hpl : (backTo pos (starEach es X.env)).any (·.1) = false := by rfl) :
    PE X (.Call (.Name x p) (e :: es) [] pos) (tCall sp [] E0 t) := by
  obtain ⟨f, fd, ps, F, b, g, kp⟩ := C
  exact pe_call F hr hg g kp b .nil pass0 ha hdb he hpl
theorem pe_cal0 {X : Cx} {x : Str} {k : Nat} {sp : Sp} {p pos : Pos} (C : Cal X.prog X.w X.K X.mg X.base x k sp) (hr : Room k X.A) (hg : Gl X x)
    (hdb : (x == ("__debug__" : Str)) = false := by decide) : PE X (.Call (.Name x p) [] [] pos) (tCall sp [] E0 tNil) := by
  obtain ⟨f, fd, ps, F, b, g, kp⟩ := C
  exact pe_call0 F hr hg g kp b .nil pass0 hdb
def GC (mg : Str → Option Value) (x : Str) (v : V) : Prop := ∃ u, mg x = some u ∧ RelV v u
theorem pe_gc {X : Cx} {x : Str} {v : V} {pos : Pos} (h : GC X.mg x v) (hg : Gl X x) (hd : (x == ("__debug__" : Str)) = false := by decide) : PE X (.Name x pos) (tC v) := by
  obtain ⟨u, hm, r⟩ := h
  exact pe_glob hg hm r hd
theorem same_upd {H : Hp} {p : Addr} {o : HO} (h : H p = none) : Same H (upd H p o) := fun b x e => by
  rw [upd_ne (ne_of_none e h)]
  exact e
/-- what lies at an address that H did not know may change -/
theorem same_mut {H H1 : Hp} {p : Addr} {o : HO} (s : Same H H1) (h : H p = none) : Same H (upd H1 p o) := fun b x e => by
  rw [upd_ne (ne_of_none e h)]
  exact s b x e
theorem iteB {b : Bool} {A B : Prop} (h1 : b = true → A) (h2 : b = false → B) : if b = true then A else B := by
  cases b with
  | true => exact h1 rfl
  | false => exact h2 rfl
theorem sz9 {n : Nat} (h : n ≤ 100000) : n ≤ sizeLine := Nat.le_trans h (by decide)
theorem sz8 {n : Nat} (h : n < 100000) : n < sizeLine := Nat.lt_of_lt_of_le h (by decide)
/-! ### names -/
def LET : Str := "abcdefghijklmnopqrstuvwxyz"
def DIG : Str := "0123456789"
abbrev inL (c : Nat) : Bool := decide (c ∈ LET.cps.toList)
abbrev inD (c : Nat) : Bool := decide (c ∈ DIG.cps.toList)
/-- signs that make a name -/
def okN (l : List Nat) : Bool := decide (1 ≤ l.length) && decide (l.length ≤ 8) && inL (l.headD 0) && l.all fun c => inL c || inD c
def nameB (z : Str) : Bool := okN z.cps.toList
/-- what the program asks of its built-ins and constants -/
structure Txt (K : PySem.W.Frag) (mg : Str → Option Value) : Prop where
  m_len : mg "len" = none
  m_all : mg "all" = none
  m_abs : mg "abs" = none
  m_int : mg "int" = none
  m_range : mg "range" = none
  m_isinstance : mg "isinstance" = none
  m_str : mg "str" = none
  c_LETTERS : GC mg "LETTERS" (.str LET)
  c_DIGITS : GC mg "DIGITS" (.str DIG)
  c_LONGEST_NAME : GC mg "LONGEST_NAME" (.int 8)
end Kp

namespace Kp
open PySem PySem.Spec PyProof.Rows L2
abbrev s_valid_name : Stmt := topS 4
abbrev N_valid_name : List Str := ["text", "sign"]
theorem sc_valid_name : FnScope N_valid_name ["text"] (defScope s_valid_name) := ⟨rfl, rfl, rfl, by decide +kernel, rfl, by decide +kernel, by decide +kernel⟩
/-- valid_name, is_name: a text of at most 1000 signs, told whether it is a name -/
def spName : Sp := fun vs H Q _ => ∃ z : Str, vs = [.str z] ∧ z.length ≤ 1000 ∧ ∀ H', Same H H' → Q (.bl (nameB z)) H'
theorem take_bl (l : List Nat) (f : Nat → Bool) (i : Nat) (c : Nat) (h : l[i]? = some c) : (l.take (i + 1)).map (fun c => V.bl (f c)) = (l.take i).map (fun c => V.bl (f c)) ++ [V.bl (f c)] := by
  rw [List.take_add_one, h, List.map_append]
  rfl
section
variable {P : Program} {w : World} {K : PySem.W.Frag} {mg : Str → Option Value} {base : Heap}
theorem ok_valid_name {f : Addr} {fd : FuncData} (F : Fun K "valid_name" "valid_name" s_valid_name f fd) (T : Txt K mg) : FnOk P w K mg base CX0 1 f fd ["text"] spName := by
  refine F.ok sc_valid_name (fun vs H Q E h => ?_) (fun cdv A outer s H vs Q E hr h => ?_)
  · obtain ⟨z, rfl, _⟩ := h
    rfl
  · obtain ⟨z, rfl, hz, q⟩ := h
    have hsz : z.length ≤ sizeLine := sz9 (by omega)
    refine ⟨_, (pss_cons (ps_if (pt_not (pt_chain op_le op_le pe_int (pe_callB call_len_str (by rfl) T.m_len (by decide +kernel) (pa_cons (pv 0) pa_nil)) (pe_gc T.c_LONGEST_NAME rfl)))
        (pss_one (ps_ret pe_bl))
        pss_nil)
      (pss_cons (ps_if (pt_cmpR op_notIn_sign (pe_ix ix_str (pv 0) pe_int (fun _ _ => rfl)) (pe_gc T.c_LETTERS rfl) rfl)
        (pss_one (ps_ret pe_bl))
        pss_nil)
      (pss_one (ps_ret (pe_callB (cr_all rfl) (by rfl) T.m_all (by decide +kernel) (pa_cons (pe_lc (own := [("sign", 1)]) (g := gName 1) (tt := tYes) rfl sc_valid_name.nd (pi_str (pv 0)) (blkOk_by (own := [("sign", 1)]) (N := N_valid_name) (sc := defScope s_valid_name) (by decide +kernel)) (fun _ _ _ _ _ => pg_name (i := 1) sc_valid_name.nd rfl (Or.inl rfl)) (fun _ _ _ _ _ => pts_nil) (fun _ _ _ _ _ => (pe_or (pe_cmpR op_in_sign (pv 1) (pe_gc T.c_LETTERS rfl) rfl) (pe_one (pe_cmpR op_in_sign (pv 1) (pe_gc T.c_DIGITS rfl) rfl))))) pa_nil)))))), ?_⟩
    refine ⟨_, rfl, _, rfl, hsz, _, _, rfl, rfl, _, rfl, iteB (fun h1 => ?_) (fun h1 => ?_)⟩
    · refine ⟨_, _, rfl, rfl, _, rfl, iteB (fun h2 => ?_) (fun h2 => ?_)⟩
      · have h2' : ¬ ((z.length : Int) ≤ 8) := of_decide_eq_false (Bool.not_eq_true' _ ▸ h2)
        have e : nameB z = false := by
          unfold nameB okN
          rw [decide_eq_false (show ¬ z.cps.toList.length ≤ 8 by rw [Array.length_toList]; show ¬ z.length ≤ 8; omega)]
          simp
        exact e ▸ q H (Same.refl H)
      · have h2' : ((z.length : Int) ≤ 8) := of_decide_eq_true (by simpa using h2)
        have h1' : (1 : Int) ≤ (z.length : Int) := of_decide_eq_true h1
        obtain ⟨c, r, hc⟩ : ∃ c r, z.cps.toList = c :: r := by
          cases hl : z.cps.toList with
          | nil =>
            have := congrArg List.length hl
            rw [Array.length_toList] at this
            have e : z.length = 0 := this
            omega
          | cons c r => exact ⟨c, r, rfl⟩
        have hat : atI z.cps.toList 0 = some c := by rw [hc]; exact atI_nat (j := 0) rfl
        have hlen : z.cps.toList.length = z.length := Array.length_toList
        have eN : nameB z = (inL c && (c :: r).all fun c => inL c || inD c) := by
          unfold nameB okN
          rw [decide_eq_true (show z.cps.toList.length ≤ 8 by omega), decide_eq_true (show 1 ≤ z.cps.toList.length by omega), hc]
          rfl
        refine ⟨_, rfl, z, 0, c, rfl, rfl, hsz, hat, c, LET, rfl, rfl, _, rfl, iteB (fun h3 => ?_) (fun h3 => ?_)⟩
        · have e3 : inL c = false := by simpa using h3
          have e4 : nameB z = false := by rw [eN, e3]; rfl
          exact e4 ▸ q H (Same.refl H)
        · have e3 : inL c = true := by simpa using h3
          refine ⟨_, rfl, z, rfl, fun D hD => ?_⟩
          refine ⟨fun i m H1 => i + m = z.cps.toList.length ∧ Same H H1 ∧ H1 D = some (.lst ((z.cps.toList.take i).map fun c => V.bl (inL c || inD c))),
            ⟨z.cps.toList.length, by omega, same_upd hD, upd_same⟩, fun i m H1 hW => ?_⟩
          obtain ⟨em, sm, eD⟩ := hW
          by_cases hi : i < z.cps.toList.length
          · refine .inr ⟨(by show i < z.cps.size; rw [← Array.length_toList]; exact hi), fun H2 => Same H H2 ∧ H2 D = some (.lst ((z.cps.toList.take (i + 1)).map fun c => V.bl (inL c || inD c))), fun H2 hN => ⟨m - 1, by omega, by omega, hN.1, hN.2⟩, fun x H2 hy => ?_⟩
            obtain ⟨rfl, d, hd, rfl⟩ := hy
            have hd' : z.cps.toList[i]? = some d := by rw [Array.getElem?_toList]; exact hd
            refine ⟨rfl, _, rfl, d, LET, rfl, rfl, _, rfl, ?_⟩
            have fin : ∀ b : Bool, b = (inL d || inD d) → ∃ acc, H2 D = some (.lst acc) ∧ acc.length < sizeLine ∧ (Same H (upd H2 D (.lst (acc ++ [.bl b]))) ∧ (upd H2 D (.lst (acc ++ [.bl b]))) D = some (.lst ((z.cps.toList.take (i + 1)).map fun c => V.bl (inL c || inD c)))) := by
              rintro b rfl
              refine ⟨_, eD, ?_, same_mut sm hD, ?_⟩
              · rw [List.length_map, List.length_take]
                exact sz8 (by omega)
              · rw [upd_same, take_bl _ _ _ _ hd']
            refine iteB (fun h4 => ?_) (fun h4 => ?_)
            · exact fin true (by rw [show inL d = true from h4]; rfl)
            · refine ⟨_, rfl, d, DIG, rfl, rfl, ?_⟩
              exact fin _ (by rw [show inL d = false from h4]; rfl)
          · refine .inl ⟨(by show z.cps.size ≤ i; rw [← Array.length_toList]; omega), ?_⟩
            refine ⟨D, z.cps.toList.map fun c => inL c || inD c, rfl, .inl (.inl ?_), ?_⟩
            · rw [eD, List.take_of_length_le (by omega), List.map_map]
              rfl
            · rw [e3, Bool.true_and, ← hc] at eN
              have e5 : (z.cps.toList.map fun c => inL c || inD c).all id = nameB z := by
                rw [eN, List.all_map]
                rfl
              rw [e5]
              exact q H1 sm
    · have h1' : ¬ ((1 : Int) ≤ (z.length : Int)) := of_decide_eq_false h1
      refine ⟨_, rfl, iteT ?_⟩
      have e : nameB z = false := by
        unfold nameB okN
        rw [decide_eq_false (show ¬ 1 ≤ z.cps.toList.length by rw [Array.length_toList]; show ¬ 1 ≤ z.length; omega)]
        simp
      exact e ▸ q H (Same.refl H)
end
end Kp

namespace Kp
open PySem PySem.Spec PyProof.Rows L2
abbrev s_draws_of : Stmt := topS 6
abbrev N_draws_of : List Str := ["_law_script", "_law_pool", "_law_cell", "_law_left", "_law_k"]
theorem sc_draws_of : FnScope N_draws_of ["_law_script"] (defScope s_draws_of) := ⟨rfl, rfl, rfl, by decide +kernel, rfl, by decide +kernel, by decide +kernel⟩
/-- what a pool of draws is -/
def inR (v : Int) : Prop := 0 ≤ v ∧ v < 65536
structure Pool (ms : List Int) : Prop where
  lo : 3 ≤ ms.length
  hi : ms.length ≤ 200
  rg : ∀ v ∈ ms, inR v
def spDraws (K : PySem.W.Frag) : Sp := fun vs H Q _ => ∃ (a : Addr) (ns : List Int), vs = [.ref a] ∧ SqL K H a (ns.map V.int) ∧ ns.length ≤ 63 ∧
  ∀ H' p ms, Same H H' → H p = none → H' p = some (.lst (ms.map V.int)) → Pool ms → Q (.ref p) H'
theorem map_app (ms : List Int) (v : Int) : (ms.map V.int) ++ [V.int v] = (ms ++ [v]).map V.int := by rw [List.map_append]; rfl
theorem rg_app {ms : List Int} {v : Int} (h : ∀ x ∈ ms, inR x) (hv : inR v) : ∀ x ∈ ms ++ [v], inR x := fun x hx => by
  rcases List.mem_append.mp hx with hx | hx
  · exact h x hx
  · rw [List.mem_singleton.mp hx]; exact hv
theorem sl9 {n : Nat} (h : n < 100000) : n < sizeLine := Nat.lt_of_lt_of_le h (by decide)
section
variable {P : Program} {w : World} {K : PySem.W.Frag} {mg : Str → Option Value} {base : Heap}
theorem pe10 : ((10 : Int) ^ (18 : Int).toNat) = 1000000000000000000 := by decide
theorem eqv_nil : ∀ ms : List Int, PyData.eqv (.list (ms.map PyData.int)) (.list []) = decide (ms = [])
  | [] => by simp [PyData.eqv, PyData.eqvAll]
  | x :: r => by simp [PyData.eqv, PyData.eqvAll]
theorem dp_ints {H : Hp} : ∀ ms : List Int, DpAll K H (ms.map V.int) (ms.map PyData.int)
  | [] => .nil
  | x :: r => .cons (.int x) (dp_ints r)
theorem lay_ints : ∀ ms : List Int, PyData.canLayAll0 (ms.map PyData.int) = true
  | [] => rfl
  | x :: r => by
    rw [List.map_cons]
    simp only [PyData.canLayAll0, PyData.canLay0, lay_ints r, Bool.and_self]
theorem dep_ints : ∀ ms : List Int, PyData.depthAll (ms.map PyData.int) = 0
  | [] => rfl
  | x :: r => by
    rw [List.map_cons]
    simp only [PyData.depthAll, PyData.depth, dep_ints r, Nat.max_self]
theorem shp_ints (ms : List Int) : SeqAt.shaped (.list (ms.map PyData.int)) = true := by
  unfold SeqAt.shaped
  simp only [PyData.canLay0, PyData.depth, lay_ints, dep_ints, Bool.true_and]
  decide
theorem ok_draws_of {f : Addr} {fd : FuncData} (F : Fun K "_law_draws_of" "_law_draws_of" s_draws_of f fd) (T : Txt K mg) : FnOk P w K mg base CX0 1 f fd ["_law_script"] (spDraws K) := by
  refine F.ok sc_draws_of (fun vs H Q E h => ?_) (fun cdv A outer s H vs Q E hr h => ?_)
  · obtain ⟨a, ns, rfl, _⟩ := h
    rfl
  · obtain ⟨a, ns, rfl, hS, hlen, q⟩ := h
    refine ⟨_, (pss_cons (ps_set (i := 1) sc_draws_of.nd rfl (Or.inl rfl) (pe_lst pa_nil))
      (pss_cons (ps_for PassesOwn.never rfl (pi_list (pv 0)) (pg_name (i := 2) sc_draws_of.nd rfl (Or.inl rfl))
        (pss_one (ps_if (pt_cmpR op_lt (pe_callB call_len_seq (by rfl) T.m_len (by decide +kernel) (pa_cons (pv 1) pa_nil)) pe_int (nomark _))
          (pss_cons (ps_set (i := 3) sc_draws_of.nd rfl (Or.inl rfl) (pe_callB call_abs (by rfl) T.m_abs (by decide +kernel) (pa_cons (pe_callTy call_int1 (by rfl) T.m_int (by decide +kernel) (pa_cons (pv 2) pa_nil)) pa_nil)))
          (pss_one (ps_if (pt_cmpR op_lt (pv 3) (pe_op op_pow pe_int pe_int) (nomark _))
            (pss_one (ps_for PassesOwn.never rfl (pi_range1 (by rfl) T.m_range (pa_cons pe_int pa_nil)) (pg_name (i := 4) sc_draws_of.nd rfl (Or.inl rfl))
              (pss_cons (ps_set (i := 3) sc_draws_of.nd rfl (Or.inl rfl) (pe_op op_mod (pe_callTy call_int1 (by rfl) T.m_int (by decide +kernel) (pa_cons (pe_op op_add (pe_op op_add (pe_op op_mul (pv 3) pe_int) (pe_op op_mul pe_int (pv 4))) pe_int) pa_nil)) pe_int))
              (pss_one (ps_expr (pe_bm PySem.F.plainAttrs_list PySem.F.slot_list_append PySem.F.type_list_append mt_append (pv 1) (pa_cons (pv 3) pa_nil)))))))
            (pss_one (ps_for PassesOwn.never rfl (pi_range1 (by rfl) T.m_range (pa_cons pe_int pa_nil)) (pg_name (i := 4) sc_draws_of.nd rfl (Or.inl rfl))
              (pss_one (ps_if (pt_cmpR op_gt (pv 3) pe_int (nomark _))
                (pss_cons (ps_expr (pe_bm PySem.F.plainAttrs_list PySem.F.slot_list_append PySem.F.type_list_append mt_append (pv 1) (pa_cons (pe_op op_mod (pe_callTy call_int1 (by rfl) T.m_int (by decide +kernel) (pa_cons (pv 3) pa_nil)) pe_int) pa_nil)))
                (pss_one (ps_set (i := 3) sc_draws_of.nd rfl (Or.inl rfl) (pe_op op_fdiv (pv 3) pe_int))))
                pss_nil)))))))
          pss_nil)))
      (pss_cons (ps_if (pt_cmpR (op_eqD hr.units) (pv 1) (pe_lst pa_nil) (nomark _))
        (pss_one (ps_set (i := 1) sc_draws_of.nd rfl (Or.inl rfl) (pe_lst (pa_cons pe_int (pa_cons pe_int (pa_cons pe_int (pa_cons pe_int (pa_cons pe_int (pa_cons pe_int (pa_cons pe_int (pa_cons pe_int (pa_cons pe_int (pa_cons pe_int (pa_cons pe_int (pa_cons pe_int (pa_cons pe_int pa_nil))))))))))))))))
        pss_nil)
      (pss_one (ps_ret (pv 1)))))), ?_⟩
    refine ⟨Nat.zero_le _, fun o no => ?_⟩
    -- the loop over the script
    refine ⟨.ref a, rfl, a, rfl, ⟨_, (same_upd no).seq hS⟩, ?_⟩
    refine for_list (xs := ns.map V.int) (fun i σ H1 => ∃ x2 x3 x4 ms, σ = [some (.ref a), some (.ref o), x2, x3, x4] ∧ Same H H1 ∧ H1 o = some (.lst (ms.map V.int)) ∧ ms.length ≤ 132 ∧ (ms = [] ∨ 3 ≤ ms.length) ∧ ∀ v ∈ ms, inR v)
      ⟨none, none, none, [], rfl, same_upd no, upd_same, Nat.zero_le _, .inl rfl, fun v hv => nomatch hv⟩ ?_ ?_ ?_
    · rintro i σ H1 _ ⟨_, _, _, ms, _, sm, _⟩
      exact sm.seq hS
    · rintro i x σ H1 hx ⟨x2, x3, x4, ms, rfl, sm, eo, hm, h3, hrg⟩
      obtain ⟨n, rfl⟩ : ∃ n : Int, x = .int n := by
        rw [List.getElem?_map] at hx
        cases e : ns[i]? with
        | none => rw [e] at hx; cases hx
        | some n => rw [e] at hx; exact ⟨n, (Option.some.inj hx).symm⟩
      refine ⟨_, rfl, o, _, rfl, .inl (.inl (.inl eo)), _, _, rfl, rfl, _, rfl, iteB (fun h1 => ?_) (fun h1 => ?_)⟩
      · have hl72 : ms.length < 72 := by
          have := of_decide_eq_true h1
          rw [List.length_map] at this
          omega
        refine ⟨_, rfl, .inl ⟨n, rfl, n, rfl, ?_⟩⟩
        generalize hL : (if n < 0 then -n else n) = L
        have hL0 : 0 ≤ L := by rw [← hL]; split <;> omega
        refine ⟨_, rfl, _, _, rfl, rfl, ⟨by decide, by decide, by decide⟩, _, _, rfl, rfl, _, rfl, iteB (fun h2 => ?_) (fun h2 => ?_)⟩
        · have hL1 : L < 1000000000000000000 := by rw [← pe10]; exact of_decide_eq_true h2
          refine ⟨3, rfl, by decide, by decide, ?_⟩
          refine for_range (lo := 0) (n := 3) (fun i σ H2 => ∃ x4 L ms', σ = [some (.ref a), some (.ref o), some (.int n), some (.int L), x4] ∧ Same H H2 ∧ H2 o = some (.lst (ms'.map V.int)) ∧ ms'.length = ms.length + i ∧ (∀ v ∈ ms', inR v) ∧ 0 ≤ L ∧ L < 1000000000000000000) 
            ⟨x4, L, ms, rfl, sm, eo, rfl, hrg, hL0, hL1⟩ ?_ ?_
          · rintro i σ H2 hi ⟨x4, L, ms', rfl, sm2, eo2, hm2, hrg2, hLa, hLb⟩
            refine ⟨_, rfl, _, _, rfl, rfl, .inl ⟨by omega, by omega⟩, _, rfl, _, _, rfl, rfl, .inl ⟨by decide, by decide⟩, _, _, rfl, rfl, _, _, rfl, rfl, .inl ⟨_, rfl, _, _, rfl, rfl, (by show (0 : Int) < 65521; decide), ?_⟩⟩
            refine ⟨_, rfl, .inl ⟨rfl, _, .inl (.inl eo2)⟩, _, rfl, o, _, _, rfl, rfl, eo2, sl9 (by rw [List.length_map]; omega), ?_⟩
            have hvr : inR ((L * 30011 + 7919 * (0 + (i : Int)) + 977) % 65521) := by constructor <;> omega
            refine ⟨_, (L * 30011 + 7919 * (0 + (i : Int)) + 977) % 65521, ms' ++ [(L * 30011 + 7919 * (0 + (i : Int)) + 977) % 65521], rfl, same_mut sm2 no, ?_, by rw [List.length_append, List.length_singleton]; omega, rg_app hrg2 hvr, hvr.1, by have := hvr.2; omega⟩
            rw [upd_same, map_app]
          · rintro σ H2 ⟨x4, L, ms', rfl, sm2, eo2, hm2, hrg2, hLa, hLb⟩
            exact ⟨_, _, _, ms', rfl, sm2, eo2, by omega, .inr (by omega), hrg2⟩
        · have hL1 : 1000000000000000000 ≤ L := by
            have := of_decide_eq_false h2
            rw [pe10] at this
            omega
          refine ⟨60, rfl, by decide, by decide, ?_⟩
          refine for_range (lo := 0) (n := 60) (fun i σ H2 => ∃ x4 L ms', σ = [some (.ref a), some (.ref o), some (.int n), some (.int L), x4] ∧ Same H H2 ∧ H2 o = some (.lst (ms'.map V.int)) ∧ ms'.length ≤ ms.length + i ∧ (∀ v ∈ ms', inR v) ∧ 0 ≤ L ∧
              (i = 0 → 1000000000000000000 ≤ L) ∧ (i = 1 → 10000000000 ≤ L ∧ 1 ≤ ms'.length) ∧ (i = 2 → 100000 ≤ L ∧ 2 ≤ ms'.length) ∧ (3 ≤ i → 3 ≤ ms'.length)) 
            ⟨x4, L, ms, rfl, sm, eo, Nat.le_refl _, hrg, hL0, fun _ => hL1, by omega, by omega, by omega⟩ ?_ ?_
          · rintro i σ H2 hi ⟨x4, L, ms', rfl, sm2, eo2, hm2, hrg2, hLa, c0, c1, c2, c3⟩
            refine ⟨_, rfl, _, _, rfl, rfl, _, rfl, iteB (fun h4 => ?_) (fun h4 => ?_)⟩
            · refine ⟨_, rfl, .inl ⟨rfl, _, .inl (.inl eo2)⟩, _, rfl, .inl ⟨_, rfl, _, _, rfl, rfl, (by show (0 : Int) < 65536; decide), o, _, _, rfl, rfl, eo2, sl9 (by rw [List.length_map]; omega), ?_⟩⟩
              refine ⟨_, rfl, _, _, rfl, rfl, ⟨by decide, by decide⟩, ?_⟩
              have hvr : inR (L % 65536) := by constructor <;> omega
              refine ⟨_, L / 65536, ms' ++ [L % 65536], rfl, same_mut sm2 no, ?_, by rw [List.length_append, List.length_singleton]; omega, rg_app hrg2 hvr, by omega, by omega, ?_, ?_, ?_⟩
              · rw [upd_same, map_app]
              · intro e; rw [List.length_append, List.length_singleton]; have := c0 (by omega); constructor <;> omega
              · intro e; rw [List.length_append, List.length_singleton]; have := c1 (by omega); constructor <;> omega
              · intro e; rw [List.length_append, List.length_singleton]
                by_cases e2 : i = 2
                · have := c2 e2; omega
                · have := c3 (by omega); omega
            · have h4' : ¬ (0 < L) := of_decide_eq_false h4
              refine ⟨_, L, ms', rfl, sm2, eo2, by omega, hrg2, hLa, by omega, ?_, ?_, ?_⟩
              · intro e; have := c0 (by omega); omega
              · intro e; have := c1 (by omega); omega
              · intro e
                by_cases e2 : i = 2
                · have := c2 e2; omega
                · exact c3 (by omega)
          · rintro σ H2 ⟨x4, L, ms', rfl, sm2, eo2, hm2, hrg2, hLa, c0, c1, c2, c3⟩
            exact ⟨_, _, _, ms', rfl, sm2, eo2, by omega, .inr (c3 (by omega)), hrg2⟩
      · exact ⟨_, _, _, ms, rfl, sm, eo, hm, h3, hrg⟩
    · rintro σ H1 ⟨x2, x3, x4, ms, rfl, sm, eo, hm, h3, hrg⟩
      refine ⟨_, rfl, Nat.zero_le _, fun p np => ?_⟩
      have nop : o ≠ p := ne_of_none eo np
      refine ⟨_, .list [], .lst (.inl (.inl ((upd_ne nop).trans eo))) (dp_ints ms), .lst (.inl (.inl upd_same)) .nil, shp_ints ms, by decide, _, rfl, iteB (fun h1 => ?_) (fun h1 => ?_)⟩
      · refine ⟨by show 13 ≤ sizeLine; decide, fun r nr => ⟨_, rfl, ?_⟩⟩
        have s1 : Same H (upd H1 p (.lst [])) := sm.trans (same_upd np)
        refine q _ r [2, 10, 1, 0, 4, 0, 1052, 0, 148, 26, 132, 0, 20] (s1.trans (same_upd nr)) (s1.free nr) upd_same ⟨by decide, by decide, ?_⟩
        intro v hv
        simp only [List.mem_cons, List.not_mem_nil, or_false] at hv
        unfold inR
        omega
      · rw [eqv_nil] at h1
        have h3' : 3 ≤ ms.length := by
          rcases h3 with rfl | h3
          · simp at h1
          · exact h3
        refine ⟨_, rfl, ?_⟩
        refine q _ o ms (sm.trans (same_upd np)) no ((upd_ne nop).trans eo) ⟨h3', by omega, hrg⟩
end
end Kp

namespace Kp
open PySem PySem.Spec PyProof.Rows L2
abbrev s_nth : Stmt := topS 7
abbrev N_nth : List Str := ["_law_pool", "_law_k"]
theorem sc_nth : FnScope N_nth ["_law_pool", "_law_k"] (defScope s_nth) := ⟨rfl, rfl, rfl, by decide +kernel, rfl, by decide +kernel, by decide +kernel⟩
def nthV (ms : List Int) (k : Int) : Int := if k < (ms.length : Int) then ms.getD k.toNat 0 else (ms.getD (k % (ms.length : Int)).toNat 0 * 31 + k * 7919) % 65521
theorem getD_rg {ms : List Int} (h : ∀ v ∈ ms, inR v) {i : Nat} (hi : i < ms.length) : ms[i]? = some (ms.getD i 0) ∧ inR (ms.getD i 0) := by
  have e : ms.getD i 0 = ms[i] := by rw [List.getD_eq_getElem?_getD, List.getElem?_eq_getElem hi]; rfl
  rw [e]
  exact ⟨List.getElem?_eq_getElem hi, h _ (List.getElem_mem hi)⟩
theorem nthV_rg {ms : List Int} (h : Pool ms) {k : Int} (hk : 0 ≤ k) : inR (nthV ms k) := by
  unfold nthV
  split
  · exact (getD_rg h.rg (by omega)).2
  · unfold inR; constructor <;> omega
theorem at_pool {ms : List Int} {k : Int} (hk : 0 ≤ k) (hl : k < (ms.length : Int)) : atI (ms.map V.int) k = some (.int (ms.getD k.toNat 0)) := by
  obtain ⟨j, rfl⟩ : ∃ j : Nat, k = (j : Int) := ⟨k.toNat, by omega⟩
  refine atI_nat ?_
  rw [List.getElem?_map, List.getElem?_eq_getElem (by omega), List.getD_eq_getElem?_getD, Int.toNat_natCast, List.getElem?_eq_getElem (by omega)]
  rfl
def spNth (K : PySem.W.Frag) : Sp := fun vs H Q _ => ∃ (p : Addr) (ms : List Int) (k : Int), vs = [.ref p, .int k] ∧ SqL K H p (ms.map V.int) ∧ Pool ms ∧ 0 ≤ k ∧ k < 1000000 ∧ Q (.int (nthV ms k)) H
def SIG1 : Str := " !\"#$&'()*+,-./0123456789:;<=>?@ABCDEFGHIJKLMNOPQRSTUVWXYZ[\\]^_`"
def SIG2 : Str := "abcdefghijklmnopqrstuvwxyz{|}~\n"
def SIGS : List Nat := (SIG1 ++ SIG2).cps.toList
def signV (k : Int) : Nat := SIGS.getD (k % 95).toNat 0
theorem sigs_len : SIGS.length = 95 := by decide +kernel
theorem sigs_len2 : (SIG1 ++ SIG2).length = 95 := by decide +kernel
theorem sig12 : SIG1.length + SIG2.length ≤ 1000 := by decide +kernel
def okS (c : Nat) : Bool := c == 10 || (decide (32 ≤ c) && decide (c ≤ 126) && c != 37)
theorem sigs_ok : SIGS.all okS = true := by decide +kernel
theorem at_sig (k : Int) : atI SIGS (k % 95) = some (signV k) := by
  have h0 : 0 ≤ k % 95 := by omega
  obtain ⟨j, hj⟩ : ∃ j : Nat, k % 95 = (j : Int) := ⟨(k % 95).toNat, by omega⟩
  unfold signV
  rw [hj, Int.toNat_natCast]
  refine atI_nat ?_
  have hl : j < SIGS.length := by rw [sigs_len]; omega
  rw [List.getElem?_eq_getElem hl, List.getD_eq_getElem?_getD, List.getElem?_eq_getElem hl]
  rfl
theorem signV_ok (k : Int) : okS (signV k) = true := by
  have hl : (k % 95).toNat < SIGS.length := by rw [sigs_len]; omega
  unfold signV
  rw [List.getD_eq_getElem?_getD, List.getElem?_eq_getElem hl]
  exact List.all_eq_true.mp sigs_ok _ (List.getElem_mem hl)
def spSign : Sp := fun vs H Q _ => ∃ k : Int, vs = [.int k] ∧ Q (.str ⟨#[signV k]⟩) H
abbrev s_sign_at : Stmt := topS 8
abbrev N_sign_at : List Str := ["_law_k", "_law_signs"]
theorem sc_sign_at : FnScope N_sign_at ["_law_k"] (defScope s_sign_at) := ⟨rfl, rfl, rfl, by decide +kernel, rfl, by decide +kernel, by decide +kernel⟩
abbrev s_said : Stmt := topS 10
abbrev N_said : List Str := ["_law_told", "_law_due"]
theorem sc_said : FnScope N_said ["_law_told", "_law_due"] (defScope s_said) := ⟨rfl, rfl, rfl, by decide +kernel, rfl, by decide +kernel, by decide +kernel⟩
def spSaid : Sp := fun vs H Q _ => ∃ a b : Bool, vs = [.bl a, .bl b] ∧ Q (.bl (decide (a = b))) H
abbrev s_is_name : Stmt := topS 9
abbrev N_is_name : List Str := ["_law_part", "_law_k"]
theorem sc_is_name : FnScope N_is_name ["_law_part"] (defScope s_is_name) := ⟨rfl, rfl, rfl, by decide +kernel, rfl, by decide +kernel, by decide +kernel⟩
section
variable {P : Program} {w : World} {K : PySem.W.Frag} {mg : Str → Option Value} {base : Heap}
theorem ok_nth {f : Addr} {fd : FuncData} (F : Fun K "_law_nth" "_law_nth" s_nth f fd) (T : Txt K mg) : FnOk P w K mg base CX0 1 f fd ["_law_pool", "_law_k"] (spNth K) := by
  refine F.ok sc_nth (fun vs H Q E h => ?_) (fun cdv A outer s H vs Q E hr h => ?_)
  · obtain ⟨p, ms, k, rfl, _⟩ := h
    rfl
  · obtain ⟨p, ms, k, rfl, hS, hP, hk0, hk1, q⟩ := h
    refine ⟨_, (pss_cons (ps_if (pt_cmpR op_lt (pv 1) (pe_callB call_len_seq (by rfl) T.m_len (by decide +kernel) (pa_cons (pv 0) pa_nil)) (nomark _))
        (pss_one (ps_ret (pe_ix ix_list (pv 0) (pv 1) (fun _ _ => rfl))))
        pss_nil)
      (pss_one (ps_ret (pe_op op_mod (pe_callTy call_int1 (by rfl) T.m_int (by decide +kernel) (pa_cons (pe_op op_add (pe_op op_mul (pe_ix ix_list (pv 0) (pe_op op_mod (pv 1) (pe_callB call_len_seq (by rfl) T.m_len (by decide +kernel) (pa_cons (pv 0) pa_nil))) (fun _ _ => rfl)) pe_int) (pe_op op_mul (pv 1) pe_int)) pa_nil)) pe_int)))), ?_⟩
    have hl : (ms.map V.int).length = ms.length := List.length_map _
    have hlo := hP.lo
    refine ⟨_, rfl, _, rfl, p, _, rfl, .inl hS, _, _, rfl, rfl, _, rfl, iteB (fun h1 => ?_) (fun h1 => ?_)⟩
    · have h1' : k < (ms.length : Int) := by have := of_decide_eq_true h1; rw [hl] at this; exact this
      refine ⟨_, rfl, _, rfl, p, _, k, _, rfl, rfl, hS, at_pool hk0 h1', ?_⟩
      have e : nthV ms k = ms.getD k.toNat 0 := if_pos h1'
      rw [← e]
      exact q
    · have h1' : ¬ k < (ms.length : Int) := by have := of_decide_eq_false h1; rw [hl] at this; exact this
      have hi : (k % (ms.length : Int)).toNat < ms.length := by
        have h0 := Int.emod_nonneg k (show (ms.length : Int) ≠ 0 by omega)
        have h1 := Int.emod_lt_of_pos k (show 0 < (ms.length : Int) by omega)
        omega
      have hv := (getD_rg hP.rg hi).2
      refine ⟨_, rfl, _, rfl, _, rfl, p, _, rfl, .inl hS, _, _, rfl, rfl, (by show (0 : Int) < (((ms.map V.int).length : Nat) : Int); rw [hl]; omega), ?_⟩
      rw [hl]
      refine ⟨p, _, _, _, rfl, rfl, hS, at_pool (Int.emod_nonneg k (by omega)) (Int.emod_lt_of_pos k (by omega)), _, _, rfl, rfl, .inr ⟨by decide, by decide⟩, _, rfl, _, _, rfl, rfl, .inl ⟨by omega, by omega⟩, _, _, rfl, rfl, .inl ⟨_, rfl, _, _, rfl, rfl, (by show (0 : Int) < 65521; decide), ?_⟩⟩
      have e : nthV ms k = (ms.getD (k % (ms.length : Int)).toNat 0 * 31 + k * 7919) % 65521 := if_neg h1'
      rw [e] at q
      exact q
theorem ok_sign_at {f : Addr} {fd : FuncData} (F : Fun K "_law_sign_at" "_law_sign_at" s_sign_at f fd) (T : Txt K mg) : FnOk P w K mg base CX0 1 f fd ["_law_k"] spSign := by
  refine F.ok sc_sign_at (fun vs H Q E h => ?_) (fun cdv A outer s H vs Q E hr h => ?_)
  · obtain ⟨k, rfl, _⟩ := h
    rfl
  · obtain ⟨k, rfl, q⟩ := h
    refine ⟨_, (pss_cons (ps_set (i := 1) sc_sign_at.nd rfl (Or.inl rfl) pe_str)
      (pss_cons (ps_set (i := 1) sc_sign_at.nd rfl (Or.inl rfl) (pe_op op_add_str (pv 1) pe_str))
      (pss_one (ps_ret (pe_ix ix_str (pv 1) (pe_op op_mod (pe_callTy call_int1 (by rfl) T.m_int (by decide +kernel) (pa_cons (pv 0) pa_nil)) pe_int) (fun _ _ => rfl)))))), ?_⟩
    refine ⟨_, rfl, SIG1, SIG2, rfl, rfl, sz9 (by have := sig12; omega), _, rfl, _, rfl, .inl ⟨_, rfl, _, _, rfl, rfl, (by show (0 : Int) < 95; decide), ?_⟩⟩
    exact ⟨SIG1 ++ SIG2, _, signV k, rfl, rfl, sz9 (by rw [sigs_len2]; decide), at_sig k, q⟩
theorem ok_said {f : Addr} {fd : FuncData} (F : Fun K "_law_said" "_law_said" s_said f fd) : FnOk P w K mg base CX0 1 f fd ["_law_told", "_law_due"] spSaid := by
  refine F.ok sc_said (fun vs H Q E h => ?_) (fun cdv A outer s H vs Q E hr h => ?_)
  · obtain ⟨a, b, rfl, _⟩ := h
    rfl
  · obtain ⟨a, b, rfl, q⟩ := h
    refine ⟨_, (pss_cons (ps_if (pt_val (pv 1))
        (pss_one (ps_ret (pe_cmpR op_is_bl (pv 0) pe_bl (nomark _))))
        pss_nil)
      (pss_one (ps_ret (pe_cmpR op_is_bl (pv 0) pe_bl (nomark _))))), ?_⟩
    refine ⟨_, rfl, _, rfl, iteB (fun h1 => ?_) (fun h1 => ?_)⟩
    · subst h1
      exact ⟨_, rfl, _, _, rfl, rfl, q⟩
    · subst h1
      exact ⟨_, rfl, _, _, rfl, rfl, q⟩
theorem okN_iff (l : List Nat) (h1 : 1 ≤ l.length) (h8 : l.length ≤ 8) : okN l = (inL (l.headD 0) && l.all fun c => inL c || inD c) := by
  unfold okN
  rw [decide_eq_true h1, decide_eq_true h8]
  rfl
theorem ok_is_name {f : Addr} {fd : FuncData} (F : Fun K "_law_is_name" "_law_is_name" s_is_name f fd) (T : Txt K mg) : FnOk P w K mg base CX0 1 f fd ["_law_part"] spName := by
  refine F.ok sc_is_name (fun vs H Q E h => ?_) (fun cdv A outer s H vs Q E hr h => ?_)
  · obtain ⟨z, rfl, _⟩ := h
    rfl
  · obtain ⟨z, rfl, hz, q⟩ := h
    have hsz : z.length ≤ sizeLine := sz9 (by omega)
    have hlen : z.cps.toList.length = z.length := Array.length_toList
    refine ⟨_, (pss_cons (ps_if (PW.pt (pw_or (pt_not (pt_val (pe_callB call_isi (by rfl) T.m_isinstance (by decide +kernel) (pa_cons (pv 0) (pa_cons (pe_bltn (v := .ty "str") (by rfl) T.m_str (by decide +kernel) rfl) pa_nil))))) (pw_or (pt_cmpR op_lt (pe_callB call_len_str (by rfl) T.m_len (by decide +kernel) (pa_cons (pv 0) pa_nil)) pe_int (nomark _)) (pw_or1 (pt_cmpR op_gt (pe_callB call_len_str (by rfl) T.m_len (by decide +kernel) (pa_cons (pv 0) pa_nil)) pe_int (nomark _))))))
        (pss_one (ps_ret pe_bl))
        pss_nil)
      (pss_cons (ps_for PassesOwn.never rfl (pi_range1 (by rfl) T.m_range (pa_cons (pe_callB call_len_str (by rfl) T.m_len (by decide +kernel) (pa_cons (pv 0) pa_nil)) pa_nil)) (pg_name (i := 1) sc_is_name.nd rfl (Or.inl rfl))
        (pss_one (ps_if (pt_cmpR op_notIn_sign (pe_ix ix_str (pv 0) (pv 1) (fun _ _ => rfl)) pe_str rfl)
          (pss_one (ps_if (PW.pt (pw_or (pt_cmpR op_eq (pv 1) pe_int (nomark _)) (pw_or1 (pt_cmpR op_notIn_sign (pe_ix ix_str (pv 0) (pv 1) (fun _ _ => rfl)) pe_str rfl))))
            (pss_one (ps_ret pe_bl))
            pss_nil))
          pss_nil)))
      (pss_one (ps_ret pe_bl)))), ?_⟩
    have bad : nameB z = false → Q (.bl false) H := fun e => e ▸ q H (Same.refl H)
    refine ⟨_, rfl, .str z, .ty "str", .type "str", .type "str", true, rfl, .ty "str", .base (.str z), kit_ty (by decide +kernel), _, rfl, iteF ?_⟩
    refine ⟨_, rfl, z, rfl, hsz, _, _, rfl, rfl, _, rfl, iteB (fun h1 => iteT ?_) (fun h1 => ?_)⟩
    · refine bad ?_
      have := of_decide_eq_true h1
      unfold nameB okN
      rw [decide_eq_false (show ¬ 1 ≤ z.cps.toList.length by omega)]
      rfl
    refine ⟨_, rfl, z, rfl, hsz, _, _, rfl, rfl, _, rfl, iteB (fun h2 => ?_) (fun h2 => ?_)⟩
    · refine bad ?_
      have := of_decide_eq_true h2
      unfold nameB okN
      rw [decide_eq_false (show ¬ z.cps.toList.length ≤ 8 by omega)]
      simp
    have h1' := of_decide_eq_false h1
    have h2' := of_decide_eq_false h2
    have eN : nameB z = _ := okN_iff z.cps.toList (by omega) (by omega)
    refine ⟨_, rfl, z, rfl, hsz, _, rfl, by omega, by omega, ?_⟩
    refine for_range (lo := 0) (n := ((z.length : Nat) : Int).toNat) (fun i σ H1 => ∃ x1, σ = [some (.str z), x1] ∧ H1 = H ∧ ∀ j c, j < i → z.cps.toList[j]? = some c → (inL c || inD c) = true ∧ (j = 0 → inL c = true))
      ⟨none, rfl, rfl, fun j c hj => absurd hj (Nat.not_lt_zero _)⟩ ?_ ?_
    · rintro i σ H1 hi ⟨x1, rfl, rfl, hok⟩
      have hil : i < z.cps.toList.length := by omega
      obtain ⟨c, hc⟩ : ∃ c, z.cps.toList[i]? = some c := ⟨_, List.getElem?_eq_getElem hil⟩
      have hat : atI z.cps.toList ((0 : Int) + (i : Int)) = some c := by rw [Int.zero_add]; exact atI_nat hc
      have good : (inL c || inD c) = true → (i = 0 → inL c = true) → ∀ j d, j < i + 1 → z.cps.toList[j]? = some d → (inL d || inD d) = true ∧ (j = 0 → inL d = true) := fun a b j d hj hd => by
        by_cases e : j = i
        · subst e
          rw [hc] at hd
          cases hd
          exact ⟨a, b⟩
        · exact hok j d (by omega) hd
      refine ⟨_, rfl, _, rfl, z, _, c, rfl, rfl, hsz, hat, c, LET, rfl, rfl, _, rfl, iteB (fun h3 => ?_) (fun h3 => ?_)⟩
      · have e3 : inL c = false := by simpa using h3
        refine ⟨_, rfl, rfl, _, rfl, iteB (fun h4 => iteT ?_) (fun h4 => ?_)⟩
        · have h4' : (0 : Int) + (i : Int) = 0 := V.int.inj (of_decide_eq_true h4)
          refine bad ?_
          have ei : i = 0 := by omega
          subst ei
          have hh : z.cps.toList.headD 0 = c := by
            cases hl : z.cps.toList with
            | nil => rw [hl] at hc; simp at hc
            | cons a r => rw [hl] at hc; exact Option.some.inj hc
          rw [eN, hh, e3]
          rfl
        · have h4' : ¬ (i = 0) := fun e => by
            have := of_decide_eq_false h4
            subst e
            exact this rfl
          refine ⟨_, rfl, _, rfl, z, _, c, rfl, rfl, hsz, hat, c, DIG, rfl, rfl, _, rfl, iteB (fun h5 => ?_) (fun h5 => ?_)⟩
          · have e5 : inD c = false := by simpa using h5
            refine bad ?_
            rw [eN]
            have : (z.cps.toList.all fun c => inL c || inD c) = false := by
              rw [List.all_eq_false]
              refine ⟨c, List.mem_of_getElem? hc, ?_⟩
              rw [e3, e5]
              simp
            rw [this, Bool.and_false]
          · have e5 : inD c = true := by simpa using h5
            exact ⟨_, rfl, rfl, good (by rw [e5, Bool.or_true]) fun e => absurd e h4'⟩
      · have e3 : inL c = true := by simpa using h3
        exact ⟨_, rfl, rfl, good (by rw [e3]; rfl) fun _ => e3⟩
    · rintro σ H1 ⟨x1, rfl, rfl, hok⟩
      have e : nameB z = true := by
        rw [eN, Bool.and_eq_true]
        constructor
        · have h0 : 0 < z.cps.toList.length := by omega
          have hh : z.cps.toList.headD 0 = z.cps.toList[0] := by
            rw [List.headD_eq_head?_getD, List.head?_eq_getElem?, List.getElem?_eq_getElem h0]
            rfl
          rw [hh]
          exact (hok 0 _ (by omega) (List.getElem?_eq_getElem h0)).2 rfl
        · rw [List.all_eq_true]
          intro c hc
          obtain ⟨j, hj, e⟩ := List.mem_iff_getElem.mp hc
          exact (hok j c (by omega) (e ▸ List.getElem?_eq_getElem hj)).1
      exact e ▸ q H1 (Same.refl H1)
end
end Kp

namespace Kp
open PySem PySem.Spec PyProof.Rows L2
abbrev s_law : Stmt := topS 11
abbrev N_law : List Str := ["_law_script", "_law_pool", "_law_text", "_law_k", "_law_draw", "_law_texts", "_law_at", "_law_one"]
theorem sc_law : FnScope N_law ["_law_script"] (defScope s_law) := ⟨rfl, rfl, rfl, by decide +kernel, rfl, by decide +kernel, by decide +kernel⟩
def spLaw (K : PySem.W.Frag) : Sp := fun vs H Q _ => ∃ (a : Addr) (ns : List Int), vs = [.ref a] ∧ SqL K H a (ns.map V.int) ∧ ns.length ≤ 63 ∧ ∀ H', Q (.bl true) H'
def A36 : Str := "abcdefghijklmnopqrstuvwxyz0123456789"
theorem a36_len : A36.cps.toList.length = 36 := by decide +kernel
theorem a36_len2 : A36.length = 36 := by decide +kernel
theorem at_36 (k : Int) : ∃ c, atI A36.cps.toList (k % 36) = some c := by
  obtain ⟨j, hj⟩ : ∃ j : Nat, k % 36 = (j : Int) := ⟨(k % 36).toNat, by omega⟩
  have hl : j < A36.cps.toList.length := by rw [a36_len]; omega
  exact ⟨A36.cps.toList[j], by rw [hj]; exact atI_nat (List.getElem?_eq_getElem hl)⟩
theorem app_len (x y : Str) : (x ++ y).length = x.length + y.length := Array.size_append
section
variable {P : Program} {w : World} {K : PySem.W.Frag} {mg : Str → Option Value} {base : Heap}
theorem ok_law {f : Addr} {fd : FuncData} (F : Fun K "law" "law" s_law f fd) (T : Txt K mg) (C_draws_of : Cal P w K mg base "_law_draws_of" 1 (spDraws K)) (C_nth : Cal P w K mg base "_law_nth" 1 (spNth K))
    (C_sign_at : Cal P w K mg base "_law_sign_at" 1 spSign) (C_said : Cal P w K mg base "_law_said" 1 spSaid) (C_valid_name : Cal P w K mg base "valid_name" 1 spName) (C_is_name : Cal P w K mg base "_law_is_name" 1 spName) :
    FnOk P w K mg base CX0 2 f fd ["_law_script"] (spLaw K) := by
  refine F.ok sc_law (fun vs H Q E h => ?_) (fun cdv A outer s H vs Q E hr h => ?_)
  · obtain ⟨a, ns, rfl, _⟩ := h
    rfl
  · obtain ⟨a, ns, rfl, hS, hlen, q⟩ := h
    refine ⟨_, (pss_cons (ps_set (i := 1) sc_law.nd rfl (Or.inl rfl) (pe_cal C_draws_of (hr.mono (by decide)) (by rfl) (pa_cons (pv 0) pa_nil)))
      (pss_cons (ps_set (i := 2) sc_law.nd rfl (Or.inr rfl) pe_str)
      (pss_cons (ps_for PassesOwn.never rfl (pi_range1 (by rfl) T.m_range (pa_cons (pe_op op_mod (pe_callTy call_int1 (by rfl) T.m_int (by decide +kernel) (pa_cons (pe_ix ix_list (pv 1) pe_int (fun _ _ => rfl)) pa_nil)) pe_int) pa_nil)) (pg_name (i := 3) sc_law.nd rfl (Or.inl rfl))
        (pss_cons (ps_set (i := 4) sc_law.nd rfl (Or.inl rfl) (pe_cal C_nth (hr.mono (by decide)) (by rfl) (pa_cons (pv 1) (pa_cons (pe_op op_add pe_int (pv 3)) pa_nil))))
        (pss_one (ps_if (pt_cmpR op_eq (pe_op op_mod (pe_op op_fdiv (pe_callTy call_int1 (by rfl) T.m_int (by decide +kernel) (pa_cons (pe_ix ix_list (pv 1) pe_int (fun _ _ => rfl)) pa_nil)) pe_int) pe_int) pe_int (nomark _))
          (pss_one (ps_set (i := 2) sc_law.nd rfl (Or.inr rfl) (pe_op op_add_str (pv 2) (pe_ix ix_str pe_str (pe_op op_mod (pe_callTy call_int1 (by rfl) T.m_int (by decide +kernel) (pa_cons (pv 4) pa_nil)) pe_int) (fun _ _ => rfl)))))
          (pss_one (ps_set (i := 2) sc_law.nd rfl (Or.inr rfl) (pe_op op_add_str (pv 2) (pe_cal C_sign_at (hr.mono (by decide)) (by rfl) (pa_cons (pv 4) pa_nil)))))))))
      (pss_cons (ps_setLc (i := 5) (own := [("_law_k", 3)]) (g := gName 3) (tt := tYes) rfl sc_law.nd rfl rfl (sw_true rfl rfl rfl (by decide +kernel)) (pi_range1 (by rfl) T.m_range (pa_cons (pe_op op_add (pe_callB call_len_str (by rfl) T.m_len (by decide +kernel) (pa_cons (pv 2) pa_nil)) pe_int) pa_nil)) (blkOk_by (own := [("_law_k", 3)]) (N := N_law) (sc := defScope s_law) (by decide +kernel)) (fun _ _ _ _ _ => pg_name (i := 3) sc_law.nd rfl (Or.inl rfl)) (fun _ _ _ _ _ => pts_nil) (fun _ _ _ _ _ => (pe_slice sl_str (pv 2) po_none (po_some (pv 3)))))
      (pss_cons (ps_set (i := 6) sc_law.nd rfl (Or.inl rfl) (pe_op op_mod (pe_callTy call_int1 (by rfl) T.m_int (by decide +kernel) (pa_cons (pe_ix ix_list (pv 1) pe_int (fun _ _ => rfl)) pa_nil)) pe_int))
      (C8.pss_cut (ps_if (pt_cmpR op_lt (pv 6) (pe_callB call_len_str (by rfl) T.m_len (by decide +kernel) (pa_cons (pv 2) pa_nil)) (nomark _))
        (pss_one (ps_expr (pe_bm PySem.F.plainAttrs_list PySem.F.slot_list_append PySem.F.type_list_append mt_append (pv 5) (pa_cons (pe_op op_add_str (pe_op op_add_str (pe_slice sl_str (pv 2) po_none (po_some (pv 6))) (pe_cal C_sign_at (hr.mono (by decide)) (by rfl) (pa_cons (pe_op op_fdiv (pe_ix ix_list (pv 1) pe_int (fun _ _ => rfl)) pe_int) pa_nil))) (pe_slice sl_str (pv 2) (po_some (pe_op op_add (pv 6) pe_int)) po_none)) pa_nil))))
        pss_nil)
      (pss_cons (ps_expr (pe_bm PySem.F.plainAttrs_list PySem.F.slot_list_append PySem.F.type_list_append mt_append (pv 5) (pa_cons (pe_op op_add_str (pv 2) (pe_cal C_sign_at (hr.mono (by decide)) (by rfl) (pa_cons (pe_op op_fdiv (pe_ix ix_list (pv 1) pe_int (fun _ _ => rfl)) pe_int) pa_nil))) pa_nil)))
      (pss_cons (ps_for PassesOwn.never rfl (pi_list (pv 5)) (pg_name (i := 7) sc_law.nd rfl (Or.inl rfl))
        (pss_one (ps_if (pt_not (pt_val (pe_cal C_said (hr.mono (by decide)) (by rfl) (pa_cons (pe_cal C_valid_name (hr.mono (by decide)) (by rfl) (pa_cons (pv 7) pa_nil)) (pa_cons (pe_cal C_is_name (hr.mono (by decide)) (by rfl) (pa_cons (pv 7) pa_nil)) pa_nil)))))
          (pss_one (ps_ret pe_bl))
          pss_nil)))
      (pss_one (ps_ret pe_bl)))))))))), ?_⟩
    refine ⟨_, rfl, a, ns, rfl, hS, hlen, fun H1 p ms sm np ep hP => ?_⟩
    have hp : ∀ {H2 : Hp}, H2 p = some (.lst (ms.map V.int)) → SqL K H2 p (ms.map V.int) := fun e => .inl (.inl e)
    have hlo := hP.lo
    have r0 := (getD_rg hP.rg (i := 0) (by omega)).2
    have r1 := (getD_rg hP.rg (i := 1) (by omega)).2
    have r2 := (getD_rg hP.rg (i := 2) (by omega)).2
    -- the text
    refine ⟨_, rfl, p, _, 1, _, rfl, rfl, hp ep, at_pool (by decide) (by omega), .inl ⟨_, rfl, _, _, rfl, rfl, (by show (0 : Int) < 11; decide), _, rfl, by omega, by omega, ?_⟩⟩
    refine for_range (lo := 0) (n := (ms.getD (Int.toNat 1) 0 % 11).toNat) (fun i σ H2 => ∃ (z : Str) (x3 x4 : Option V), σ = [some (.ref a), some (.ref p), some (.str z), x3, x4, none, none, none] ∧ H2 = H1 ∧ z.length = i)
      ⟨"", none, none, rfl, rfl, rfl⟩ ?_ ?_
    · rintro i σ H2 hi ⟨z, x3, x4, rfl, rfl, hz⟩
      refine ⟨_, rfl, _, rfl, _, _, rfl, rfl, p, ms, _, rfl, hp ep, hP, by omega, by omega, ?_⟩
      refine ⟨_, rfl, p, _, 0, _, rfl, rfl, hp ep, at_pool (by decide) (by omega), .inl ⟨_, rfl, _, _, rfl, rfl, ⟨by decide, by decide⟩, _, _, rfl, rfl, (by show (0 : Int) < 2; decide), rfl, _, rfl, iteB (fun h1 => ?_) (fun h1 => ?_)⟩⟩
      · obtain ⟨c, hc⟩ := at_36 (nthV ms (3 + (0 + (i : Int))))
        refine ⟨_, rfl, _, rfl, .inl ⟨_, rfl, _, _, rfl, rfl, (by show (0 : Int) < 36; decide), A36, _, c, rfl, rfl, sz9 (by rw [a36_len2]; decide), hc, _, _, rfl, rfl, sz9 (by show z.length + 1 ≤ 100000; omega), ?_⟩⟩
        exact ⟨_, _, _, rfl, rfl, by rw [app_len, hz]; rfl⟩
      · refine ⟨_, rfl, _, rfl, _, rfl, _, _, rfl, rfl, sz9 (by show z.length + 1 ≤ 100000; omega), ?_⟩
        exact ⟨_, _, _, rfl, rfl, by rw [app_len, hz]; rfl⟩
    · rintro σ H2 ⟨z, x3, x4, rfl, rfl, hz⟩
      have hz10 : z.length ≤ 10 := by omega
      have hsz : z.length ≤ sizeLine := sz9 (by omega)
      -- its beginnings
      refine ⟨_, rfl, z, rfl, hsz, _, _, rfl, rfl, _, rfl, by omega, by omega, fun D hD => ?_⟩
      have npD : p ≠ D := ne_of_none ep hD
      refine lc_range (lo := 0) (n := ((z.length : Int) + 1).toNat) (fun i H3 => ∃ zs : List Str, Same H2 H3 ∧ H3 D = some (.lst (zs.map V.str)) ∧ zs.length = i ∧ ∀ y ∈ zs, y.length ≤ 1000)
        ⟨[], same_upd hD, upd_same, rfl, fun y hy => nomatch hy⟩ ?_ ?_
      · rintro i H3 hi ⟨zs, sm3, eD, hl, hy⟩
        refine ⟨rfl, _, rfl, _, rfl, _, rfl, z, rfl, hsz, ?_⟩
        refine ⟨_, eD, sl9 (by rw [List.length_map]; omega), zs ++ [cutS z none (some (0 + (i : Int)))], same_mut sm3 hD, ?_, by rw [List.length_append, hl]; rfl, ?_⟩
        · rw [upd_same, List.map_append]
          rfl
        · intro y hm
          rcases List.mem_append.mp hm with hm | hm
          · exact hy y hm
          · rw [List.mem_singleton.mp hm]
            have := cutS_length z none (some (0 + (i : Int)))
            omega
      · rintro H3 ⟨zs, sm3, eD, hl, hy⟩
        have ep3 : H3 p = some (.lst (ms.map V.int)) := sm3 _ _ ep
        refine ⟨_, rfl, p, _, 2, _, rfl, rfl, hp ep3, at_pool (by decide) (by omega), .inl ⟨_, rfl, _, _, rfl, rfl, (by show (0 : Int) < 11; decide), ?_⟩⟩
        refine ⟨fun σ' H4 => ∃ (zs : List Str) (x6 : Option V), σ' = [some (.ref a), some (.ref p), some (.str z), x3, x4, some (.ref D), x6, none] ∧ H4 p = some (.lst (ms.map V.int)) ∧ H4 D = some (.lst (zs.map V.str)) ∧ zs.length ≤ 100 ∧ ∀ y ∈ zs, y.length ≤ 1000, ?_, ?_⟩
        · refine ⟨_, rfl, _, rfl, z, rfl, hsz, _, _, rfl, rfl, _, rfl, iteB (fun h1 => ?_) (fun h1 => ?_)⟩
          · have c1 := cutS_length z none (some (ms.getD (Int.toNat 2) 0 % 11))
            have c2 := cutS_length z (some (ms.getD (Int.toNat 2) 0 % 11 + 1)) none
            refine ⟨_, rfl, .inl ⟨rfl, _, .inl (.inl eD)⟩, _, rfl, _, rfl, _, rfl, z, rfl, hsz, _, rfl, p, _, 2, _, rfl, rfl, hp ep3, at_pool (by decide) (by omega), _, _, rfl, rfl, ⟨by decide, by decide⟩, _, rfl, _, _, rfl, rfl, ?_, ?_⟩
            · refine sz9 (Nat.le_trans (Nat.add_le_add_right c1 _) ?_)
              show z.length + 1 ≤ 100000
              omega
            refine ⟨_, rfl, _, rfl, _, _, rfl, rfl, _, rfl, z, rfl, hsz, _, _, rfl, rfl, ?_, ?_⟩
            · refine sz9 ?_
              rw [app_len]
              refine Nat.le_trans (Nat.add_le_add (Nat.add_le_add_right c1 1) c2) ?_
              omega
            refine ⟨D, _, _, rfl, rfl, eD, sl9 (by rw [List.length_map]; omega), ?_⟩
            refine ⟨zs ++ [cutS z none (some (ms.getD (Int.toNat 2) 0 % 11)) ++ ⟨#[signV (ms.getD (Int.toNat 2) 0 / 11)]⟩ ++ cutS z (some (ms.getD (Int.toNat 2) 0 % 11 + 1)) none], _, rfl, (upd_ne npD).trans ep3, ?_, by rw [List.length_append, List.length_singleton]; omega, ?_⟩
            · rw [upd_same, List.map_append]
              rfl
            · intro y hm
              rcases List.mem_append.mp hm with hm | hm
              · exact hy y hm
              · rw [List.mem_singleton.mp hm, app_len, app_len]
                refine Nat.le_trans (Nat.add_le_add (Nat.add_le_add_right c1 1) c2) ?_
                omega
          · exact ⟨zs, _, rfl, ep3, eD, by omega, hy⟩
        · rintro σ' H4 ⟨zs, x6, rfl, ep4, eD4, hl4, hy4⟩
          refine ⟨_, rfl, .inl ⟨rfl, _, .inl (.inl eD4)⟩, _, rfl, _, rfl, p, _, 2, _, rfl, rfl, hp ep4, at_pool (by decide) (by omega), _, _, rfl, rfl, ⟨by decide, by decide⟩, _, rfl, _, _, rfl, rfl, sz9 (by show z.length + 1 ≤ 100000; omega), ?_⟩
          refine ⟨D, _, _, rfl, rfl, eD4, sl9 (by rw [List.length_map]; omega), ?_⟩
          have e5 : (upd H4 D (.lst (zs.map V.str ++ [V.str (z ++ ⟨#[signV (ms.getD (Int.toNat 2) 0 / 11)]⟩)]))) D = some (.lst ((zs ++ [z ++ ⟨#[signV (ms.getD (Int.toNat 2) 0 / 11)]⟩]).map V.str)) := by
            rw [upd_same, List.map_append]
            rfl
          have hy5 : ∀ y ∈ zs ++ [z ++ ⟨#[signV (ms.getD (Int.toNat 2) 0 / 11)]⟩], y.length ≤ 1000 := by
            intro y hm
            rcases List.mem_append.mp hm with hm | hm
            · exact hy4 y hm
            · rw [List.mem_singleton.mp hm, app_len]
              show z.length + 1 ≤ 1000
              omega
          generalize zs ++ [z ++ ⟨#[signV (ms.getD (Int.toNat 2) 0 / 11)]⟩] = ys at e5 hy5
          -- every text is asked
          refine ⟨_, rfl, D, rfl, ⟨_, .inl (.inl e5)⟩, ?_⟩
          refine for_list (xs := ys.map V.str) (fun i σ H5 => ∃ x7 : Option V, σ = [some (.ref a), some (.ref p), some (.str z), x3, x4, some (.ref D), x6, x7] ∧ H5 D = some (.lst (ys.map V.str)))
            ⟨none, rfl, e5⟩ (fun i σ H5 _ ⟨_, _, e⟩ => .inl (.inl e)) ?_ ?_
          · rintro i x σ H5 hx ⟨x7, rfl, eD5⟩
            obtain ⟨y, hy, rfl⟩ : ∃ y ∈ ys, x = .str y := by
              rw [List.getElem?_map] at hx
              cases e : ys[i]? with
              | none => rw [e] at hx; cases hx
              | some n => rw [e] at hx; exact ⟨n, List.mem_of_getElem? e, (Option.some.inj hx).symm⟩
            refine ⟨_, rfl, y, rfl, hy5 y hy, fun H6 s6 => ⟨_, rfl, y, rfl, hy5 y hy, fun H7 s7 => ⟨_, _, rfl, _, rfl, ?_⟩⟩⟩
            rw [decide_eq_true rfl]
            exact ⟨_, rfl, s7 _ _ (s6 _ _ eD5)⟩
          · rintro σ H5 ⟨x7, rfl, eD5⟩
            exact q H5
end
end Kp

namespace Kp
open PySem PySem.Spec PyProof.Rows L2
/-! ### the end: what the top has written -/
/-- a def of the top, as k_is finds it -/
structure At (K : PySem.W.Frag) (x : Str) (st : Stmt) (f : Addr) (fd : FuncData) : Prop where
  a : PySem.W.nsIn K mainGlobals x = some (some (.ref f))
  F : Fun K x x st f fd
theorem gc_of {K : PySem.W.Frag} {h : Heap} {mg : Str → Option Value} (X : K.In h) (G : h.Ns mainGlobals mg) {x : Str} {v : V} {u : Value} (a : PySem.W.nsIn K mainGlobals x = some (some u)) (r : RelV v u) : GC mg x v := ⟨u, PySem.W.mg_of X G a, r⟩
theorem all_mk {l : PySem.W.OpenLaw} {w : World} {K : PySem.W.Frag} {h : Heap} {mg : Str → Option Value} {fa : Addr} (X : K.In h) (G : h.Ns mainGlobals mg) (hfa : mg "law" = some (.ref fa))
    {f0 f1 f2 f3 f4 f5 f6 : Addr} {fd0 fd1 fd2 fd3 fd4 fd5 fd6 : FuncData} {u1 u2 u3 : Value}
    (d0 : At K "law" s_law f0 fd0) (d1 : At K "_law_draws_of" s_draws_of f1 fd1) (d2 : At K "_law_nth" s_nth f2 fd2) (d3 : At K "_law_sign_at" s_sign_at f3 fd3) (d4 : At K "_law_said" s_said f4 fd4) (d5 : At K "valid_name" s_valid_name f5 fd5) (d6 : At K "_law_is_name" s_is_name f6 fd6)
    (b0 : ∀ (s : Shared) (v : Value), BindsTo s fd0 ⟨[v], []⟩ [("_law_script", v)])
    (b1 : Binds K fd1 ["_law_script"] []) (b2 : Binds K fd2 ["_law_pool", "_law_k"] []) (b3 : Binds K fd3 ["_law_k"] []) (b4 : Binds K fd4 ["_law_told", "_law_due"] []) (b5 : Binds K fd5 ["text"] []) (b6 : Binds K fd6 ["_law_part"] [])
    (z1 : PySem.W.nsIn K mainGlobals "len" = some none) (z2 : PySem.W.nsIn K mainGlobals "all" = some none) (z3 : PySem.W.nsIn K mainGlobals "abs" = some none) (z4 : PySem.W.nsIn K mainGlobals "int" = some none) (z5 : PySem.W.nsIn K mainGlobals "range" = some none) (z6 : PySem.W.nsIn K mainGlobals "isinstance" = some none) (z7 : PySem.W.nsIn K mainGlobals "str" = some none)
    (c1 : PySem.W.nsIn K mainGlobals "LETTERS" = some (some u1)) (r1 : RelV (.str LET) u1) (c2 : PySem.W.nsIn K mainGlobals "DIGITS" = some (some u2)) (r2 : RelV (.str DIG) u2) (c3 : PySem.W.nsIn K mainGlobals "LONGEST_NAME" = some (some u3)) (r3 : RelV (.int 8) u3) :
    ∃ fd : FuncData, (∀ (s : Shared) (v : Value), BindsTo s fd ⟨[v], []⟩ [("_law_script", v)]) ∧ ∀ base : Heap, K.In base → base.Ns mainGlobals mg → FnOk l.prog w K mg base CX0 2 fa fd ["_law_script"] (spLaw K) := by
  have e := hfa.symm.trans (PySem.W.mg_of X G d0.a)
  cases e
  have T : Txt K mg := ⟨PySem.W.mg_none_of X G z1, PySem.W.mg_none_of X G z2, PySem.W.mg_none_of X G z3, PySem.W.mg_none_of X G z4, PySem.W.mg_none_of X G z5, PySem.W.mg_none_of X G z6, PySem.W.mg_none_of X G z7, gc_of X G c1 r1, gc_of X G c2 r2, gc_of X G c3 r3⟩
  refine ⟨fd0, b0, fun base _ _ => ok_law d0.F T ?_ ?_ ?_ ?_ ?_ ?_⟩
  · exact ⟨f1, fd1, _, ok_draws_of d1.F T, b1, PySem.W.mg_of X G d1.a, d1.F.kp⟩
  · exact ⟨f2, fd2, _, ok_nth d2.F T, b2, PySem.W.mg_of X G d2.a, d2.F.kp⟩
  · exact ⟨f3, fd3, _, ok_sign_at d3.F T, b3, PySem.W.mg_of X G d3.a, d3.F.kp⟩
  · exact ⟨f4, fd4, _, ok_said d4.F, b4, PySem.W.mg_of X G d4.a, d4.F.kp⟩
  · exact ⟨f5, fd5, _, ok_valid_name d5.F T, b5, PySem.W.mg_of X G d5.a, d5.F.kp⟩
  · exact ⟨f6, fd6, _, ok_is_name d6.F T, b6, PySem.W.mg_of X G d6.a, d6.F.kp⟩
theorem at_mk {K : PySem.W.Frag} {x : Str} {st : Stmt} {f : Addr} {oc : Value} {od an : Option Addr} {osl : Array (Option Value)} {kV doc pm cdv ct : Value} (a : PySem.W.nsIn K mainGlobals x = some (some (.ref f)))
    (l : K.lookup f = some ⟨oc, od, .func (PySem.W.fnOf x x (defArgs st) (defBody st) (defScope st) .none kV doc pm an cdv ct), osl⟩)
    (c : PySem.W.codeIn K cdv x = true) (k : PySem.W.keepIn K (.ref f) = true) : At K x st f (PySem.W.fnOf x x (defArgs st) (defBody st) (defScope st) .none kV doc pm an cdv ct) := ⟨a, fun_mk l c k⟩
end Kp
open PySem PySem.W PyProof.Rows
set_option maxHeartbeats 0 in
theorem PySem.Challenge.cw_letforget_k01_valid_names_holds : PySem.Challenge.rw_letforget_k01_valid_names.Holds := by
  w_on; o_law; k_head; (case hw => w_witness2)
  k_fill
  refine L2.walk_of (l := PySem.Challenge.rw_letforget_k01_valid_names) (n := 63) (k := 2) (x := "_law_script") (CX := fun _ => L2.CX0) (sp := fun w => Kp.spLaw _) rfl (by decide) rfl ⟨rfl, by decide, by decide⟩ (fun w h Y => PySem.W.kIn_of Y) ?F (fun _ _ a ns hl _ hS => ⟨a, ns, rfl, hS, hl, fun _ => rfl⟩) (fun _ _ _ _ _ h => h)
  case F =>
    intro w mg fa h KX G hmg
    refine' Kp.all_mk KX G hmg (Kp.at_mk ?a0 ?l0 ?e0 ?k0) (Kp.at_mk ?a1 ?l1 ?e1 ?k1) (Kp.at_mk ?a2 ?l2 ?e2 ?k2) (Kp.at_mk ?a3 ?l3 ?e3 ?k3) (Kp.at_mk ?a4 ?l4 ?e4 ?k4) (Kp.at_mk ?a5 ?l5 ?e5 ?k5) (Kp.at_mk ?a6 ?l6 ?e6 ?k6)
      (fun s v => .of_eq rfl) (.all fun us hl => match us, hl with | [_], _ => rfl) (.all fun us hl => match us, hl with | [_, _], _ => rfl) (.all fun us hl => match us, hl with | [_], _ => rfl) (.all fun us hl => match us, hl with | [_, _], _ => rfl) (.all fun us hl => match us, hl with | [_], _ => rfl) (.all fun us hl => match us, hl with | [_], _ => rfl)
      ?z1 ?z2 ?z3 ?z4 ?z5 ?z6 ?z7 ?c1 ?r1 ?c2 ?r2 ?c3 ?r3
    (case a0 => k_is); (case l0 => k_is); (case e0 => k_is); (case k0 => k_is)
    (case a1 => k_is); (case l1 => k_is); (case e1 => k_is); (case k1 => k_is)
    (case a2 => k_is); (case l2 => k_is); (case e2 => k_is); (case k2 => k_is)
    (case a3 => k_is); (case l3 => k_is); (case e3 => k_is); (case k3 => k_is)
    (case a4 => k_is); (case l4 => k_is); (case e4 => k_is); (case k4 => k_is)
    (case a5 => k_is); (case l5 => k_is); (case e5 => k_is); (case k5 => k_is)
    (case a6 => k_is); (case l6 => k_is); (case e6 => k_is); (case k6 => k_is)
    (case z1 => k_is); (case z2 => k_is); (case z3 => k_is); (case z4 => k_is); (case z5 => k_is); (case z6 => k_is); (case z7 => k_is)
    (case c1 => k_is); (case r1 => exact ⟨_, rfl⟩); (case c2 => k_is); (case r2 => exact ⟨_, rfl⟩); (case c3 => k_is); (case r3 => exact ⟨_, rfl⟩)
