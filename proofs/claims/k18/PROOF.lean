import PyProof.Rows.All
import Wide.All
import OpenK.AllK
import Wide.FinOn
import KE.OsRunLaw
import PySem.Challenge.RW_letforget_k18_clashes_and_arcs
import HandS.ForMost
import HandS.IsInst
import HandS.TupLe
import HandS.Codes
import HandS.ForExc
import HandS.ExcInit
import HandS.ExcSuper
import HandS.Nested
import HandS.FStr
import KE.KExcSuper
import HandS.FStrTup
import HandS.List
import PyProof.ReprNest
import PyProof.ReprText
import HandS.ExcIs
import HandS.ExcField
import HandS.Words
import PyProof.StrOps2
import KE.KExcIs
import HandS.Strs
import HandS.Style
import HandS.Deep
import HandS.ClsMeth
import HandS.Star
import HandS.Set
import HandS.SetFor
import HandS.TupSets
import PyProof.Rows.SetFrom
import PyProof.WalksMore
import HandS.SortOrd
import HandS.DictTup
import HandS.Iter
import HandS.Walk
import HandS.DictComp
import KE.KEqDict
import HandS.SetKeys
import HandS.RaiseFrom
import HandS.Dict
import KE.KDictDisplayH
import HandS.TryMany
import HandS.Defaults
import HandS.TryOnly
import HandS.RaiseMore
set_option linter.all false
set_option maxRecDepth 100000
namespace Hdx
open PySem PySem.W PyProof.Rows HeadRun
/-! ### the head's run: what it looks at, the builtins' own names left to the boot -/
def g1 {α β : Type} : α × β → α
  | (x, _) => x
def g2 {α β γ : Type} : α × β × γ → β
  | (_, x, _) => x
def g3 {α β γ δ : Type} : α × β × γ × δ → γ
  | (_, _, x, _) => x
def g4 {α β γ δ ε : Type} : α × β × γ × δ × ε → δ
  | (_, _, _, x, _) => x
def g5 {α β γ δ ε ζ : Type} : α × β × γ × δ × ε × ζ → ε
  | (_, _, _, _, x, _) => x
def g67 {α β γ δ ε ζ η θ : Type} : α × β × γ × δ × ε × ζ × η × θ → ζ × η
  | (_, _, _, _, _, x, y, _) => (x, y)
def g89 {α β γ δ ε ζ η θ : Type} : α × β × γ × δ × ε × ζ × η × θ → θ
  | (_, _, _, _, _, _, _, x) => x
theorem g_all {α β γ δ ε ζ η θ : Type} {b g : α × β × γ × δ × ε × ζ × η × θ} (h1 : g1 b = g.1) (h2 : g2 b = g.2.1) (h3 : g3 b = g.2.2.1) (h4 : g4 b = g.2.2.2.1) (h5 : g5 b = g.2.2.2.2.1) (h6 : g67 b = (g.2.2.2.2.2.1, g.2.2.2.2.2.2.1)) (h8 : g89 b = g.2.2.2.2.2.2.2) : b = g := by
  obtain ⟨b1, b2, b3, b4, b5, b6, b7, b8⟩ := b
  obtain ⟨g1', g2', g3', g4', g5', g6', g7', g8'⟩ := g
  injection h6 with h6 h7
  have h1 : b1 = g1' := h1
  have h2 : b2 = g2' := h2
  have h3 : b3 = g3' := h3
  have h4 : b4 = g4' := h4
  have h5 : b5 = g5' := h5
  have h6 : b6 = g6' := h6
  have h7 : b7 = g7' := h7
  have h8 : b8 = g8' := h8
  rw [h1, h2, h3, h4, h5, h6, h7, h8]
theorem run_cut {σ : Type} {X : Option σ} {v : σ → Shared} {q : Program} {loose mods : List Str} {Xt : Shared → Bool} {α ε : Type} {a : σ → α} {c : σ → ε} {a' : α} {c' : ε}
    (h0 : X.map a = some a')
    (h1 : X.map (fun s => g1 (seenQ q loose mods Xt (v s))) = some (openGood q loose).1)
    (h2 : X.map (fun s => g2 (seenQ q loose mods Xt (v s))) = some (openGood q loose).2.1)
    (h3 : X.map (fun s => g3 (seenQ q loose mods Xt (v s))) = some (openGood q loose).2.2.1)
    (h4 : X.map (fun s => g4 (seenQ q loose mods Xt (v s))) = some (openGood q loose).2.2.2.1)
    (h5 : X.map (fun s => g5 (seenQ q loose mods Xt (v s))) = some (openGood q loose).2.2.2.2.1)
    (h6 : X.map (fun s => g67 (seenQ q loose mods Xt (v s))) = some ((openGood q loose).2.2.2.2.2.1, (openGood q loose).2.2.2.2.2.2.1))
    (h8 : X.map (fun s => g89 (seenQ q loose mods Xt (v s))) = some (openGood q loose).2.2.2.2.2.2.2)
    (h9 : X.map c = some c') :
    X.map (fun s => (a s, seenQ q loose mods Xt (v s), c s)) = some (a', openGood q loose, c') := by
  cases X with
  | none => cases h0
  | some s =>
    have h0 : some (a s) = some a' := h0
    have h1 : some (g1 (seenQ q loose mods Xt (v s))) = some (openGood q loose).1 := h1
    have h2 : some (g2 (seenQ q loose mods Xt (v s))) = some (openGood q loose).2.1 := h2
    have h3 : some (g3 (seenQ q loose mods Xt (v s))) = some (openGood q loose).2.2.1 := h3
    have h4 : some (g4 (seenQ q loose mods Xt (v s))) = some (openGood q loose).2.2.2.1 := h4
    have h5 : some (g5 (seenQ q loose mods Xt (v s))) = some (openGood q loose).2.2.2.2.1 := h5
    have h6 : some (g67 (seenQ q loose mods Xt (v s))) = some ((openGood q loose).2.2.2.2.2.1, (openGood q loose).2.2.2.2.2.2.1) := h6
    have h8 : some (g89 (seenQ q loose mods Xt (v s))) = some (openGood q loose).2.2.2.2.2.2.2 := h8
    have h9 : some (c s) = some c' := h9
    injection h0 with h0
    injection h1 with h1
    injection h2 with h2
    injection h3 with h3
    injection h4 with h4
    injection h5 with h5
    injection h6 with h6
    injection h8 with h8
    injection h9 with h9
    show some (a s, seenQ q loose mods Xt (v s), c s) = _
    rw [h0, h9, g_all h1 h2 h3 h4 h5 h6 h8]
theorem run_cutQ {σ : Type} {X : Option σ} {v : σ → Shared} {q q' : Program} (hq : q = q') {loose mods : List Str} {lv : List (Str × WData)} {rc : WRecords} {α ε : Type} {a : σ → α} {c : σ → ε} {a' : α} {c' : ε}
    (h1 : X.map (fun s => g1 (seenQ q' loose mods (fun s => xlAt q' lv s && recOk rc s) (v s))) = some (openGood q' loose).1)
    (h2 : X.map (fun s => g2 (seenQ q' loose mods (fun s => xlAt q' lv s && recOk rc s) (v s))) = some (openGood q' loose).2.1)
    (h3 : X.map (fun s => g3 (seenQ q' loose mods (fun s => xlAt q' lv s && recOk rc s) (v s))) = some (openGood q' loose).2.2.1)
    (h4 : X.map (fun s => g4 (seenQ q' loose mods (fun s => xlAt q' lv s && recOk rc s) (v s))) = some (openGood q' loose).2.2.2.1)
    (h5 : X.map (fun s => g5 (seenQ q' loose mods (fun s => xlAt q' lv s && recOk rc s) (v s))) = some (openGood q' loose).2.2.2.2.1)
    (h6 : X.map (fun s => g67 (seenQ q' loose mods (fun s => xlAt q' lv s && recOk rc s) (v s))) = some ((openGood q' loose).2.2.2.2.2.1, (openGood q' loose).2.2.2.2.2.2.1))
    (h8 : X.map (fun s => g89 (seenQ q' loose mods (fun s => xlAt q' lv s && recOk rc s) (v s))) = some (openGood q' loose).2.2.2.2.2.2.2)
    (h0 : X.map a = some a') (h9 : X.map c = some c') :
    X.map (fun s => (a s, seenQ q loose mods (fun s => xlAt q lv s && recOk rc s) (v s), c s)) = some (a', openGood q loose, c') := by
  subst hq
  exact run_cut h0 h1 h2 h3 h4 h5 h6 h8 h9
end Hdx

set_option Elab.async false
set_option maxHeartbeats 0
namespace Hdx
open PySem PySem.W PyProof.Rows HeadRun
/-! ### the head's looks, one by one -/
noncomputable section
def topH (i : Nat) : Stmt := PySem.Challenge.pw_letforget_k18_clashes_and_arcs.main.body.getD i (.Pass ⟨0, 0, 0, 0⟩)
def vw : Program := { PySem.Challenge.pw_letforget_k18_clashes_and_arcs with main := { PySem.Challenge.pw_letforget_k18_clashes_and_arcs.main with body := [topH 0, topH 1, topH 3, topH 4, topH 5, topH 6, topH 7, topH 8, topH 9, topH 10, topH 11, topH 12, topH 13, topH 14, topH 15, topH 16, topH 17, topH 19, topH 20, topH 21, topH 23, topH 24, topH 26, topH 27, topH 28, topH 29, topH 30, topH 31, topH 32, topH 33, topH 34, topH 35, topH 37, topH 38, topH 39, topH 40, topH 42, topH 43, topH 44, topH 45, topH 46, topH 47, topH 48, topH 49, topH 50, topH 52, topH 53, topH 55, topH 56, topH 57, topH 58, topH 59, topH 61, topH 62, topH 63, topH 65, topH 66, topH 67, topH 68, topH 69, topH 70, topH 71, topH 72, topH 73, topH 74, topH 75, topH 76, topH 77, topH 78] } }
theorem R0 (w : World) : (wholeF (fun p => stepQ (denQ tabQ) p w) fenceQ 19282 PySem.Challenge.rw_letforget_k18_clashes_and_arcs.row.prog).map (fun x => looksF PySem.Challenge.rw_letforget_k18_clashes_and_arcs.row.prog x.fst.heap x.snd.abs) = some true := by kernel_rfl
theorem R1 (w : World) : (wholeF (fun p => stepQ (denQ tabQ) p w) fenceQ 19282 PySem.Challenge.rw_letforget_k18_clashes_and_arcs.row.prog).map (fun x => g1 (seenQ vw [Str.ofString "Mark", Str.ofString "Memory", Str.ofString "Held", Str.ofString "Keeper"] (importedModules PySem.Challenge.rw_letforget_k18_clashes_and_arcs.row.prog.main.body) (fun s => xlAt vw [] s && recOk PySem.Challenge.rw_letforget_k18_clashes_and_arcs.row.records s) x.snd.abs)) = some (openGood vw [Str.ofString "Mark", Str.ofString "Memory", Str.ofString "Held", Str.ofString "Keeper"]).1 := by kernel_rfl
theorem R2 (w : World) : (wholeF (fun p => stepQ (denQ tabQ) p w) fenceQ 19282 PySem.Challenge.rw_letforget_k18_clashes_and_arcs.row.prog).map (fun x => g2 (seenQ vw [Str.ofString "Mark", Str.ofString "Memory", Str.ofString "Held", Str.ofString "Keeper"] (importedModules PySem.Challenge.rw_letforget_k18_clashes_and_arcs.row.prog.main.body) (fun s => xlAt vw [] s && recOk PySem.Challenge.rw_letforget_k18_clashes_and_arcs.row.records s) x.snd.abs)) = some (openGood vw [Str.ofString "Mark", Str.ofString "Memory", Str.ofString "Held", Str.ofString "Keeper"]).2.1 := by kernel_rfl
theorem R3 (w : World) : (wholeF (fun p => stepQ (denQ tabQ) p w) fenceQ 19282 PySem.Challenge.rw_letforget_k18_clashes_and_arcs.row.prog).map (fun x => g3 (seenQ vw [Str.ofString "Mark", Str.ofString "Memory", Str.ofString "Held", Str.ofString "Keeper"] (importedModules PySem.Challenge.rw_letforget_k18_clashes_and_arcs.row.prog.main.body) (fun s => xlAt vw [] s && recOk PySem.Challenge.rw_letforget_k18_clashes_and_arcs.row.records s) x.snd.abs)) = some (openGood vw [Str.ofString "Mark", Str.ofString "Memory", Str.ofString "Held", Str.ofString "Keeper"]).2.2.1 := by kernel_rfl
theorem R4 (w : World) : (wholeF (fun p => stepQ (denQ tabQ) p w) fenceQ 19282 PySem.Challenge.rw_letforget_k18_clashes_and_arcs.row.prog).map (fun x => g4 (seenQ vw [Str.ofString "Mark", Str.ofString "Memory", Str.ofString "Held", Str.ofString "Keeper"] (importedModules PySem.Challenge.rw_letforget_k18_clashes_and_arcs.row.prog.main.body) (fun s => xlAt vw [] s && recOk PySem.Challenge.rw_letforget_k18_clashes_and_arcs.row.records s) x.snd.abs)) = some (openGood vw [Str.ofString "Mark", Str.ofString "Memory", Str.ofString "Held", Str.ofString "Keeper"]).2.2.2.1 := by kernel_rfl
theorem R5 (w : World) : (wholeF (fun p => stepQ (denQ tabQ) p w) fenceQ 19282 PySem.Challenge.rw_letforget_k18_clashes_and_arcs.row.prog).map (fun x => g5 (seenQ vw [Str.ofString "Mark", Str.ofString "Memory", Str.ofString "Held", Str.ofString "Keeper"] (importedModules PySem.Challenge.rw_letforget_k18_clashes_and_arcs.row.prog.main.body) (fun s => xlAt vw [] s && recOk PySem.Challenge.rw_letforget_k18_clashes_and_arcs.row.records s) x.snd.abs)) = some (openGood vw [Str.ofString "Mark", Str.ofString "Memory", Str.ofString "Held", Str.ofString "Keeper"]).2.2.2.2.1 := by kernel_rfl
theorem R8 (w : World) : (wholeF (fun p => stepQ (denQ tabQ) p w) fenceQ 19282 PySem.Challenge.rw_letforget_k18_clashes_and_arcs.row.prog).map (fun x => g89 (seenQ vw [Str.ofString "Mark", Str.ofString "Memory", Str.ofString "Held", Str.ofString "Keeper"] (importedModules PySem.Challenge.rw_letforget_k18_clashes_and_arcs.row.prog.main.body) (fun s => xlAt vw [] s && recOk PySem.Challenge.rw_letforget_k18_clashes_and_arcs.row.records s) x.snd.abs)) = some (openGood vw [Str.ofString "Mark", Str.ofString "Memory", Str.ofString "Held", Str.ofString "Keeper"]).2.2.2.2.2.2.2 := by kernel_rfl
theorem R6 (w : World) : (wholeF (fun p => stepQ (denQ tabQ) p w) fenceQ 19282 PySem.Challenge.rw_letforget_k18_clashes_and_arcs.row.prog).map (fun x => g67 (seenQ vw [Str.ofString "Mark", Str.ofString "Memory", Str.ofString "Held", Str.ofString "Keeper"] (importedModules PySem.Challenge.rw_letforget_k18_clashes_and_arcs.row.prog.main.body) (fun s => xlAt vw [] s && recOk PySem.Challenge.rw_letforget_k18_clashes_and_arcs.row.records s) x.snd.abs)) = some ((openGood vw [Str.ofString "Mark", Str.ofString "Memory", Str.ofString "Held", Str.ofString "Keeper"]).2.2.2.2.2.1, (openGood vw [Str.ofString "Mark", Str.ofString "Memory", Str.ofString "Held", Str.ofString "Keeper"]).2.2.2.2.2.2.1) := by kernel_rfl
end
end Hdx
section
open PySem PySem.W PyProof.Rows
local macro_rules | `(tactic| k_head) => `(tactic| k_headL)
local macro_rules
  | `(tactic| kernel_rfl%$tk) => do
    if let .atom .none _ := tk then Lean.Macro.throwUnsupported
    let o : Lean.TSyntax `tactic := ⟨.node .none `tacticKernel_rfl #[.atom .none "kernel_rfl"]⟩
    `(tactic| first | ((with_reducible refine Hdx.run_cutQ (q' := Hdx.vw) ?_ (Hdx.R1 _) (Hdx.R2 _) (Hdx.R3 _) (Hdx.R4 _) (Hdx.R5 _) (Hdx.R6 _) (Hdx.R8 _) (Hdx.R0 _) ?_); all_goals $o:tactic) | $o:tactic)
set_option maxHeartbeats 0 in
open_top k18t for PySem.Challenge.rw_letforget_k18_clashes_and_arcs
end

set_option maxHeartbeats 4000000
namespace Kx
open PySem PySem.Spec PyProof.Rows L2
/-! ### a def as its callers see it; a constant of the module -/
def Cal (P : Program) (w : World) (K : PySem.W.Frag) (mg : Str → Option Value) (base : Heap) (x : Str) (k : Nat) (sp : Sp) : Prop :=
  ∃ (f : Addr) (fd : FuncData) (ps : List Str), FnOk P w K mg base CX0 k f fd ps sp ∧ Binds K fd ps [] ∧ mg x = some (.ref f) ∧ PySem.W.keepIn K (.ref f) = true
theorem pe_cal {X : Cx} {x : Str} {k : Nat} {sp : Sp} {e : Expr} {es : List Expr} {t : TA} {p pos : Pos} (C : Cal X.prog X.w X.K X.mg X.base x k sp) (hr : Room k X.A) (hg : Gl X x) (ha : PA X (e :: es) t)
    (hdb : (x == ("__debug__" : Str)) = false := by decide) (he : starEach (e :: es) X.env = (false, eval e X.env) :: starEach es X.env := by rfl) (hpl : (backTo pos (starEach es X.env)).any (·.1) = false := by rfl) :
    PE X (.Call (.Name x p) (e :: es) [] pos) (tCall sp [] E0 t) := by
  obtain ⟨f, fd, ps, F, b, g, kp⟩ := C
  exact pe_call F hr hg g kp b .nil pass0 ha hdb he hpl
theorem pe_cal0 {X : Cx} {x : Str} {k : Nat} {sp : Sp} {p pos : Pos} (C : Cal X.prog X.w X.K X.mg X.base x k sp) (hr : Room k X.A) (hg : Gl X x)
    (hdb : (x == ("__debug__" : Str)) = false := by decide) : PE X (.Call (.Name x p) [] [] pos) (tCall sp [] E0 tNil) := by
  obtain ⟨f, fd, ps, F, b, g, kp⟩ := C
  exact pe_call0 F hr hg g kp b .nil pass0 hdb
def GC (mg : Str → Option Value) (x : Str) (v : V) : Prop := ∃ u, mg x = some u ∧ RelV v u
theorem pe_gc {X : Cx} {x : Str} {v : V} {pos : Pos} (h : GC X.mg x v) (hg : Gl X x) (hd : (x == ("__debug__" : Str)) = false := by decide) : PE X (.Name x pos) (tC v) := by
  obtain ⟨u, hm, r⟩ := h
  exact pe_glob hg hm r hd
theorem same_upd {H : Hp} {p : Addr} {o : HO} (h : H p = none) : Same H (upd H p o) := fun b x e => by
  rw [upd_ne (ne_of_none e h)]
  exact e
/-- what lies at an address that H did not know may change -/
theorem same_mut {H H1 : Hp} {p : Addr} {o : HO} (s : Same H H1) (h : H p = none) : Same H (upd H1 p o) := fun b x e => by
  rw [upd_ne (ne_of_none e h)]
  exact s b x e
theorem iteB {b : Bool} {A B : Prop} (h1 : b = true → A) (h2 : b = false → B) : if b = true then A else B := by
  cases b with
  | true => exact h1 rfl
  | false => exact h2 rfl
theorem sz9 {n : Nat} (h : n ≤ 100000) : n ≤ sizeLine := Nat.le_trans h (by decide)
theorem sz8 {n : Nat} (h : n < 100000) : n < sizeLine := Nat.lt_of_lt_of_le h (by decide)
/-- what a pool of draws is -/
def inR (v : Int) : Prop := 0 ≤ v ∧ v < 65536
structure Pool (ms : List Int) : Prop where
  lo : 3 ≤ ms.length
  hi : ms.length ≤ 200
  rg : ∀ v ∈ ms, inR v
def spDraws (K : PySem.W.Frag) : Sp := fun vs H Q _ => ∃ (a : Addr) (ns : List Int), vs = [.ref a] ∧ SqL K H a (ns.map V.int) ∧ ns.length ≤ 63 ∧
  ∀ H' p ms, Same H H' → H p = none → H' p = some (.lst (ms.map V.int)) → Pool ms → Q (.ref p) H'
theorem map_app (ms : List Int) (v : Int) : (ms.map V.int) ++ [V.int v] = (ms ++ [v]).map V.int := by rw [List.map_append]; rfl
theorem rg_app {ms : List Int} {v : Int} (h : ∀ x ∈ ms, inR x) (hv : inR v) : ∀ x ∈ ms ++ [v], inR x := fun x hx => by
  rcases List.mem_append.mp hx with hx | hx
  · exact h x hx
  · rw [List.mem_singleton.mp hx]; exact hv
theorem sl9 {n : Nat} (h : n < 100000) : n < sizeLine := Nat.lt_of_lt_of_le h (by decide)
variable {K : PySem.W.Frag}
theorem pe10 : ((10 : Int) ^ (18 : Int).toNat) = 1000000000000000000 := by decide
theorem eqv_nil : ∀ ms : List Int, PyData.eqv (.list (ms.map PyData.int)) (.list []) = decide (ms = [])
  | [] => by simp [PyData.eqv, PyData.eqvAll]
  | x :: r => by simp [PyData.eqv, PyData.eqvAll]
theorem dp_ints {H : Hp} : ∀ ms : List Int, DpAll K H (ms.map V.int) (ms.map PyData.int)
  | [] => .nil
  | x :: r => .cons (.int x) (dp_ints r)
theorem lay_ints : ∀ ms : List Int, PyData.canLayAll0 (ms.map PyData.int) = true
  | [] => rfl
  | x :: r => by
    rw [List.map_cons]
    simp only [PyData.canLayAll0, PyData.canLay0, lay_ints r, Bool.and_self]
theorem dep_ints : ∀ ms : List Int, PyData.depthAll (ms.map PyData.int) = 0
  | [] => rfl
  | x :: r => by
    rw [List.map_cons]
    simp only [PyData.depthAll, PyData.depth, dep_ints r, Nat.max_self]
theorem shp_ints (ms : List Int) : SeqAt.shaped (.list (ms.map PyData.int)) = true := by
  unfold SeqAt.shaped
  simp only [PyData.canLay0, PyData.depth, lay_ints, dep_ints, Bool.true_and]
  decide
def nthV (ms : List Int) (k : Int) : Int := if k < (ms.length : Int) then ms.getD k.toNat 0 else (ms.getD (k % (ms.length : Int)).toNat 0 * 31 + k * 7919) % 65521
theorem getD_rg {ms : List Int} (h : ∀ v ∈ ms, inR v) {i : Nat} (hi : i < ms.length) : ms[i]? = some (ms.getD i 0) ∧ inR (ms.getD i 0) := by
  have e : ms.getD i 0 = ms[i] := by rw [List.getD_eq_getElem?_getD, List.getElem?_eq_getElem hi]; rfl
  rw [e]
  exact ⟨List.getElem?_eq_getElem hi, h _ (List.getElem_mem hi)⟩
theorem nthV_rg {ms : List Int} (h : Pool ms) {k : Int} (hk : 0 ≤ k) : inR (nthV ms k) := by
  unfold nthV
  split
  · exact (getD_rg h.rg (by omega)).2
  · unfold inR; constructor <;> omega
theorem at_pool {ms : List Int} {k : Int} (hk : 0 ≤ k) (hl : k < (ms.length : Int)) : atI (ms.map V.int) k = some (.int (ms.getD k.toNat 0)) := by
  obtain ⟨j, rfl⟩ : ∃ j : Nat, k = (j : Int) := ⟨k.toNat, by omega⟩
  refine atI_nat ?_
  rw [List.getElem?_map, List.getElem?_eq_getElem (by omega), List.getD_eq_getElem?_getD, Int.toNat_natCast, List.getElem?_eq_getElem (by omega)]
  rfl
def spNth (K : PySem.W.Frag) : Sp := fun vs H Q _ => ∃ (p : Addr) (ms : List Int) (k : Int), vs = [.ref p, .int k] ∧ SqL K H p (ms.map V.int) ∧ Pool ms ∧ 0 ≤ k ∧ k < 1000000 ∧ Q (.int (nthV ms k)) H
def SIG1 : Str := " !\"#$&'()*+,-./0123456789:;<=>?@ABCDEFGHIJKLMNOPQRSTUVWXYZ[\\]^_`"
def SIG2 : Str := "abcdefghijklmnopqrstuvwxyz{|}~\n"
def SIGS : List Nat := (SIG1 ++ SIG2).cps.toList
def signV (k : Int) : Nat := SIGS.getD (k % 95).toNat 0
theorem sigs_len : SIGS.length = 95 := by decide +kernel
theorem sigs_len2 : (SIG1 ++ SIG2).length = 95 := by decide +kernel
theorem sig12 : SIG1.length + SIG2.length ≤ 1000 := by decide +kernel
def okS (c : Nat) : Bool := c == 10 || (decide (32 ≤ c) && decide (c ≤ 126) && c != 37)
theorem sigs_ok : SIGS.all okS = true := by decide +kernel
theorem at_sig (k : Int) : atI SIGS (k % 95) = some (signV k) := by
  have h0 : 0 ≤ k % 95 := by omega
  obtain ⟨j, hj⟩ : ∃ j : Nat, k % 95 = (j : Int) := ⟨(k % 95).toNat, by omega⟩
  unfold signV
  rw [hj, Int.toNat_natCast]
  refine atI_nat ?_
  have hl : j < SIGS.length := by rw [sigs_len]; omega
  rw [List.getElem?_eq_getElem hl, List.getD_eq_getElem?_getD, List.getElem?_eq_getElem hl]
  rfl
theorem signV_ok (k : Int) : okS (signV k) = true := by
  have hl : (k % 95).toNat < SIGS.length := by rw [sigs_len]; omega
  unfold signV
  rw [List.getD_eq_getElem?_getD, List.getElem?_eq_getElem hl]
  exact List.all_eq_true.mp sigs_ok _ (List.getElem_mem hl)
def spSign : Sp := fun vs H Q _ => ∃ k : Int, vs = [.int k] ∧ Q (.str ⟨#[signV k]⟩) H
def spSaid : Sp := fun vs H Q _ => ∃ a b : Bool, vs = [.bl a, .bl b] ∧ Q (.bl (decide (a = b))) H
/-- the built-ins that every law's own defs ask -/
structure TB (mg : Str → Option Value) : Prop where
  m_len : mg "len" = none
  m_abs : mg "abs" = none
  m_int : mg "int" = none
  m_range : mg "range" = none
/-! ### the end: what the top has written -/
/-- a def of the top, as k_is finds it -/
structure At (K : PySem.W.Frag) (x : Str) (st : Stmt) (f : Addr) (fd : FuncData) : Prop where
  a : PySem.W.nsIn K mainGlobals x = some (some (.ref f))
  F : Fun K x x st f fd
theorem gc_of {K : PySem.W.Frag} {h : Heap} {mg : Str → Option Value} (X : K.In h) (G : h.Ns mainGlobals mg) {x : Str} {v : V} {u : Value} (a : PySem.W.nsIn K mainGlobals x = some (some u)) (r : RelV v u) : GC mg x v := ⟨u, PySem.W.mg_of X G a, r⟩
theorem at_mk {K : PySem.W.Frag} {x : Str} {st : Stmt} {f : Addr} {oc : Value} {od an : Option Addr} {osl : Array (Option Value)} {kV doc pm cdv ct : Value} (a : PySem.W.nsIn K mainGlobals x = some (some (.ref f)))
    (l : K.lookup f = some ⟨oc, od, .func (PySem.W.fnOf x x (defArgs st) (defBody st) (defScope st) .none kV doc pm an cdv ct), osl⟩)
    (c : PySem.W.codeIn K cdv x = true) (k : PySem.W.keepIn K (.ref f) = true) : At K x st f (PySem.W.fnOf x x (defArgs st) (defBody st) (defScope st) .none kV doc pm an cdv ct) := ⟨a, fun_mk l c k⟩
end Kx

/-! An own error class over ValueError whose __init__ begins with super().__init__(..): its __init__ as a def, its making. -/
namespace Kx
open PySem PySem.Spec PyProof.Rows L2 NdefX
/-- what the written part says of such a class -/
structure SupC (K : PySem.W.Frag) (C : Addr) : Prop where
  oex : OexC K C
  sup : PySem.W.ks_superIn K C C "__init__" = some (some (.builtin "ValueError.__init__"))
  subV : PySem.W.subIn K (.ref C) (.type "ValueError") = some true
  mro : PySem.W.mroIn K C (.ref C) = some true
  opq : PySem.W.nsIn K cStatics "thirdparty.any" = some none
/-- what it says of the __init__: its code's file, the cell of __class__ -/
structure SupF (K : PySem.W.Frag) (P : Program) (C f : Addr) (fd : FuncData) (cda cc : Addr) (me : Str) : Prop where
  fn : ∃ oc od osl, K.lookup f = some ⟨oc, od, .func fd, osl⟩
  head : ∃ ar : Arg, (fd.params.posonlyargs ++ fd.params.args).head? = some ar ∧ ar.arg = me
  code : ∃ (ccl : Value) (cdd : Option Addr) (vs : Array Value) (ccs : Array (Option Value)) (file : Str) (tf : Tok), K.lookup cda = some ⟨ccl, cdd, .fields vs, ccs⟩ ∧ vs[2]? = some (.str file tf) ∧ ((P.main.file : Str) == file) = true
  cell : ∃ (cl : Value) (cld : Option Addr) (csl : Array (Option Value)), K.lookup cc = some ⟨cl, cld, .cell (some (.ref C)), csl⟩
  top : (P.main.scope.names.lookup ("super" : Str)).isSome = false
theorem boot_super : bootBuiltins "super" = some (.type "super") := by decide +kernel
section
variable {X : Cx} {pins : List (Addr × Obj)} {σ : L2.St} {H : Hp} {s : Shared} {a C f cda cc : Addr} {fd : FuncData} {me : Str} {i : Nat} {e : Expr} {es : List Expr} {ta : TA} {p0 p1 p2 p3 p4 : Pos} {body : List Stmt}
/-- ValueError.__init__ bound to such an object, called -/
theorem bw_ok {u : Addr} {us : List Value} {Q : Value → Shared → Prop} {A : Around} {E : Value → Shared → Prop} (T : OexC X.K C) (I : Inv X pins σ H s) (ea : H a = some (exo a C none)) (hu : s.heap.get? u = some (PySem.W.kxs_mw "ValueError.__init__" a)) (hl : us.length ≤ sizeLine) (h : ∀ s', Inv X pins σ H s' → Q .none s') :
    wpAny (model X.prog X.w) A (call (.ref u) us) Q E s := by
  obtain ⟨nm, q, N, bs, bm, sn, sub, ab, col, dd, k0, k1, k2, k3, k5, hC, hbm⟩ := T.cls
  obtain ⟨t1, ho⟩ := exo_at I.hok ea
  have hC' := I.kIn _ _ hC
  obtain ⟨hp, g, d, t, os⟩ := s
  have fin : ∀ h' t2, (∀ b o, b ≠ a → hp.get? b = some o → h'.get? b = some o) → h'.get? a = some (PySem.HandSPX.excO C t2) → Q .none ⟨h', g, d, t, os⟩ := fun h' t2 k hx => by
    have J := I.write (t' := t) (x := a) (e := a) (o := exo a C none) (by rw [ea]; exact True.intro) (.inl rfl) k ⟨_, hx⟩ (exo_ok hx)
    have eu : upd H a (exo a C none) = H := by
      funext b
      by_cases hb : b = a
      · rw [hb, upd_same, ea]
      · rw [upd_ne hb]
    rw [eu] at J
    exact h _ J
  refine wpAny_call (codeAny_of_tree ?_)
  show wpAny _ A.in1 (callAny (.ref u) ⟨us, []⟩) _ _ _
  simp only [callAny]
  refine wpAny_bind (wpAny_load hu ?_)
  simp only [PySem.W.kxs_mw, show (Value.type "method-wrapper" == Value.type "method" || Value.type "method-wrapper" == Value.type "builtin_function_or_method" || Value.type "method-wrapper" == Value.type "method-wrapper") = true by decide, if_true]
  refine PySem.W.KFB.if_so (by decide) ?_
  refine wpAny_bind (PySem.W.check_bound_init F.excBase_ValueError.toExcCallFacts hC' ho rfl ?_)
  refine wpAny_bind (wpAny_pure (wpAny_pure ?_))
  refine ⟨plainId_quiet F.excBase_ValueError.init.plain _, codeAny_builtin F.excBase_ValueError.initEntry ?_⟩
  rw [Around.under_plainId F.excBase_ValueError.init.plain _]
  refine PySem.W.exc_init_tree (cls := .ref C) (t0 := t1) (dv := none) (c2 := .none) (c3 := .none) (b4 := .bool false) ho hl fun h' k e' t' => ?_
  exact fin h' _ k e'
/-- super().__init__(e, ..) as a statement of such an __init__ -/
theorem at_super {pl : Sem Bool} {D : PySem.Flow → Shared → Prop} (T : SupC X.K C) (S : SupF X.K X.prog C f fd cda cc me) (hfu : X.env.func = some f) (hco : X.env.code = .ref cda) (hce : X.env.cells.lookup ("__class__" : Str) = some cc)
    (hks : X.env.kindOf "super" = some .globalImplicit) (hkc : X.env.kindOf "__class__" = some .free) (hka : X.env.kindOf me = some .local) (hm : X.mg "super" = none) (I : Inv X pins σ H s)
    (hN : X.N[i]? = some me) (hσ : σ[i]? = some (some (.ref a))) (ea : H a = some (exo a C none)) (ha : PA X (e :: es) ta)
    (h : ta σ H fun vs H1 => vs.length ≤ 1000 ∧ H1 a = some (exo a C none) ∧ ∀ s', Inv X pins σ H1 s' → D .next s')
    (hi : interactive X.env = false := by rfl) (hs : swapsWith (.Call (.Attribute (.Call (.Name "super" p0) [] [] p1) "__init__" p2) (e :: es) [] p3) none p4.line X.env = pure false := by rfl)
    (he : starEach (e :: es) X.env = (false, eval e X.env) :: starEach es X.env := by rfl) (hpl : (backTo p3 (starEach es X.env)).any (·.1) = false := by rfl)
    (hev : eval (.Call (.Attribute (.Call (.Name "super" p0) [] [] p1) "__init__" p2) (e :: es) [] p3) X.env = (do
      let ov ← attributeBase (.Call (.Name "super" p0) [] [] p1) "__init__" X.env (eval (.Call (.Name "super" p0) [] [] p1) X.env)
      standAt p2.atName
      let (f, first) ← holding [ov] (getMethod ov "__init__" pl)
      callWith p3 f first (backTo p3 (starEach (e :: es) X.env)) []) := by rfl) :
    _root_.PySem.wpAt (model X.prog X.w) X.A (.func body X.env) (exec (.Expr (.Call (.Attribute (.Call (.Name "super" p0) [] [] p1) "__init__" p2) (e :: es) [] p3) p4) X.env) D X.xe s := by
  obtain ⟨oc, od, osl, lkf⟩ := S.fn
  obtain ⟨ar, hhead, hme⟩ := S.head
  obtain ⟨ccl, cdd, vs, ccs, file, tf, lkc, hvs, hfile⟩ := S.code
  obtain ⟨cl, cld, csl, lkcell⟩ := S.cell
  obtain ⟨nm, q, N, bs, bm, sn, sub, ab, col, dd, k0, k1, k2, k3, k5, hC, hbm⟩ := T.oex.cls
  have hcl : PySem.W.clsIn X.K C = some { name := nm, bases := bs, mro := .ref C :: bm, ns := N, qualname := q, hasDict := true, slotNames := sn, subclasses := sub, abstract := ab, collection := col, hasDel := false } := by unfold PySem.W.clsIn; rw [hC] <;> rfl
  have KX := I.kIn
  have hkf : X.env.scope.kind = .function := I.ok.kind
  obtain ⟨t1, ho⟩ := exo_at I.hok ea
  obtain ⟨m, hn, hl⟩ := I.loc
  obtain ⟨u0, r0, lk0⟩ := hl i me (.ref a) hN hσ (.inl hka)
  cases (show u0 = Value.ref a from r0)
  have hm0 : m me = some (.ref a) := by
    rcases lk0 with ⟨_, z⟩ | ⟨z, _⟩
    · exact z
    · rw [hka] at z
      rcases z with z | z <;> cases z
  obtain ⟨mb, hmb1, hmb2⟩ := I.mod.blt
  refine PySem.ks_wpAt_Expr_any ?_ hi hs
  refine PySem.ks_wpAt_MethodCall ?_ hev
  refine PySem.ks_wpAt_super_base hks hkc (by decide) hfu (KX _ _ lkf) rfl hhead hco (KX _ _ lkc) rfl hvs hfile S.top ?_
  refine PySem.W.ks_loadName_global hkf hks (PySem.Calls.loadGlobal_builtin (mb := mb) (by rw [I.ok.glob]; exact I.mod.glob.keeps I.bk) hm (by rw [I.ok.blt]; exact hmb1.keeps I.bk) ((hmb2 _ (by decide +kernel)).trans boot_super) ⟨rfl, ?_⟩)
  refine wpAny_loadName_free hkf hkc hce (v := .ref C) ⟨_, KX _ _ lkcell, rfl⟩ ?_
  rw [hme]
  refine wpAny_loadName_local hkf hka hn hm0 ?_
  obtain ⟨hh, g, d, t, os⟩ := s
  refine ks_wpAny_isType_cls (KX _ _ hC) rfl ⟨rfl, ?_⟩
  have hsub : PySem.W.Looks (model X.prog X.w) hh (isSubtype (.ref C) (.ref C)) true := PySem.W.looks_mroIn KX T.mro
  refine PySem.ks_wpAny_call_super (KX _ _ hC) rfl ho rfl (fun c e => by cases e) hsub (fun h1 e1 k1' => ?_)
  have I1 : Inv X pins σ H ⟨h1, g, d, t, os⟩ := I.kept (h' := h1) (t' := t) k1'
  have hI : PySem.W.Looks (model X.prog X.w) h1 (isInstance (.ref a) (.type "ValueError")) true := (show PySem.W.InstAt h1 a _ C none from ⟨k1' _ _ ho, rfl, rfl, trivial⟩).type.andThen (PySem.W.looks_subIn I1.kIn T.subV)
  have hsup := T.sup
  unfold PySem.W.ks_superIn at hsup
  rw [hcl] at hsup
  refine PySem.W.kxs_getMethod PySem.W.kxs_ValueError e1 (PySem.W.looks_opaque I1.kIn T.opq) (l₀ := .ref C :: bm) ?_ rfl I1.kIn hsup hI ?_ (by decide) ?_
  · exact fun A Q E s k q => wpAny_bind ((PySem.W.looks_clsIn I1.kIn hcl) A _ E s k (wpAny_pure q))
  · exact PySem.W.ks_ne (odx := none) I1.kIn (⟨k1' _ _ ho, rfl, rfl, trivial⟩ : PySem.W.InstAt h1 a _ C none) hcl
  have hsz : h1.objs.size ≤ h1.objs.size := Nat.le_refl _
  have I2 : Inv X pins σ H ⟨h1.push (PySem.W.kxs_mw "ValueError.__init__" a), g, d, t + 1, os⟩ := I1.kept (t' := t + 1) fun b o e => Heap.get?_push_of_some _ e
  have hu : (h1.push (PySem.W.kxs_mw "ValueError.__init__" a)).get? h1.objs.size = some (PySem.W.kxs_mw "ValueError.__init__" a) := Heap.get?_push_size _ rfl
  have fp : FpOk X pins H h1.objs.size := I1.fpOk hsz (I1.hok.fresh hsz)
  have I3 := I2.pinned (fp := [h1.objs.size]) (fun b hb => by rw [List.mem_singleton.mp hb]; exact fp) (fun b hb => by
    rw [List.mem_singleton.mp hb]
    exact ⟨_, hu, fun v z => by cases z⟩)
  refine PySem.W.kxs_callWith (i := "ValueError.__init__") (x := a) (by rw [he]; show (false || (backTo p3 (starEach es X.env)).any (·.1)) = false; rw [hpl]; rfl) ?_
  rw [he]
  refine PySem.Calls.evalArgs_plain ?_
  have har := ha.run p3 _ _ σ H _ I3 h
  rw [he] at har
  refine thn har fun us s4 ⟨vs, H4, I4, r4, hlen, ea4, fin⟩ => ?_
  have pin4 := (I4.pin (h1.objs.size, PySem.W.kxs_mw "ValueError.__init__" a) (List.mem_append_right _ (List.mem_append_right _ (mem_pinsAt (List.mem_singleton.mpr rfl) hu)))).1
  refine ⟨pin4, ?_⟩
  rw [List.nil_append]
  refine bw_ok T.oex I4.unpinned ea4 pin4 ?_ fun s5 I5 => fin s5 I5
  rw [← r4.length, sizeLine_eq]
  omega
end
section
variable {P : Program} {w : World} {K : PySem.W.Frag} {mg : Str → Option Value} {base : Heap} {CX : CXT}
abbrev supSt (p0 p1 p2 p3 p4 : Pos) (e : Expr) : Stmt := .Expr (.Call (.Attribute (.Call (.Name "super" p0) [] [] p1) "__init__" p2) [e] [] p3) p4
/-- THE RULE: such an __init__ keeps its promise, by its one argument's reading and the rest of its body -/
theorem fn_super {k : Nat} {f C cda cc : Addr} {fd : FuncData} {name qual me : Str} {params : Arguments} {p0 p1 p2 p3 p4 : Pos} {e : Expr} {rest : List Stmt} {scope : Scope} {kV doc pm ct : Value} {an : Option Addr} {N ps : List Str} {sp : Sp}
    (S : SupF K P C f fd cda cc me) (T : SupC K C) (hfd : fd = PySem.W.fnX name qual params (supSt p0 p1 p2 p3 p4 e :: rest) scope [("__class__", cc)] .none kV doc pm an (.ref cda) ct) (hcd : PySem.W.codeIn K (.ref cda) qual = true) (NS : NScope N ps ["__class__"] scope) (hm : mg "super" = none)
    (hN : N[0]? = some me) (hps : 0 < ps.length) (hks : scope.names.lookup ("super" : Str) = some .globalImplicit) (hka : scope.names.lookup me = some .local) (len : ∀ vs H Q E, sp vs H Q E → vs.length = ps.length)
    (hbody : ∀ (A : Around) (outer : List Env) (s : Shared) (H : Hp) (vs : List V) (Q : VK) (E : XK), Room k (A.deeper (envF ⟨name, qual, params, supSt p0 p1 p2 p3 p4 e :: rest, scope, [("__class__", cc)], cda⟩ f s.heap.objs.size)) → sp vs H Q E →
      ∃ (a : Addr) (te : TE) (t : TS), vs[0]? = some (.ref a) ∧ H a = some (exo a C none) ∧ PE (ncx CX P w K mg base N ⟨name, qual, params, supSt p0 p1 p2 p3 p4 e :: rest, scope, [("__class__", cc)], cda⟩ f A outer s H E) e te ∧
        PSs (ncx CX P w K mg base N ⟨name, qual, params, supSt p0 p1 p2 p3 p4 e :: rest, scope, [("__class__", cc)], cda⟩ f A outer s H E) rest t ∧
        ∀ R : Hp → Prop, (∀ H1, H1 a = some (exo a C none) → t { nx := fun _ H' => Q .non H', rt := Q } (startF N vs [some (.ref C)]) H1 → R H1) → te (startF N vs [some (.ref C)]) H fun _ H1 => R H1)
    (hev : ∀ env : Env, ∃ pl : Sem Bool, eval (.Call (.Attribute (.Call (.Name "super" p0) [] [] p1) "__init__" p2) [e] [] p3) env = (do
      let ov ← attributeBase (.Call (.Name "super" p0) [] [] p1) "__init__" env (eval (.Call (.Name "super" p0) [] [] p1) env)
      standAt p2.atName
      let (f, first) ← holding [ov] (getMethod ov "__init__" pl)
      callWith p3 f first (backTo p3 (starEach [e] env)) []))
    (hse : ∀ env : Env, starEach [e] env = [(false, eval e env)])
    (hsw : ∀ env : Env, swapsWith (.Call (.Attribute (.Call (.Name "super" p0) [] [] p1) "__init__" p2) [e] [] p3) none p4.line env = pure false) :
    FnOk P w K mg base CX (k + 1) f fd ps sp := by
  refine ⟨len, fun A outer s H args us vs Q E hr e0 hb r hsp => ?_⟩
  subst hfd
  have hl := len _ _ _ _ hsp
  have KX : K.In s.heap := e0.mod.kin.keeps fun b o e => (e0.bs b o e).1
  have lim : s.heap.NoLimit := e0.mod.nolimit.keeps fun b o e => (e0.bs b o e).1
  obtain ⟨oc, od, osl, lk⟩ := S.fn
  obtain ⟨cl, cld, csl, lkcell⟩ := S.cell
  have hcl : s.heap.get? cc = some ⟨cl, cld, .cell (some (.ref C)), csl⟩ := KX _ _ lkcell
  have hHc : H cc = none := (e0.bs _ _ (e0.mod.kin _ _ lkcell)).2
  have one : ∀ (y : Str) (c : Addr), ([(("__class__" : Str), cc)] : List (Str × Addr)).lookup y = some c → y = "__class__" ∧ c = cc := fun y c h => by
    have hm := PySem.mem_of_lookup h
    rw [List.mem_singleton] at hm
    exact ⟨congrArg Prod.fst hm, congrArg Prod.snd hm⟩
  have look1 : ([(("__class__" : Str), cc)] : List (Str × Addr)).lookup ("__class__" : Str) = some cc := by simp [List.lookup]
  have CA : CellsAt [(("__class__" : Str), cc)] ["__class__"] [some (V.ref C)] s.heap H := by
    refine ⟨rfl, fun y c h => ?_, fun x y c h1 h2 => (one x c h1).1.trans (one y c h2).1.symm, fun i y h => ?_⟩
    · rw [(one y c h).2]
      exact ⟨hHc, _, _, hcl, rfl⟩
    · match i, h with
      | 0, h =>
        have e : ("__class__" : Str) = y := Option.some.inj h
        subst e
        refine ⟨cc, look1, fun v hv => ?_⟩
        have ev : V.ref C = v := Option.some.inj (Option.some.inj hv)
        subst ev
        exact ⟨_, rfl, _, hcl, rfl⟩
      | i + 1, h => exact absurd h (by simp)
  refine ks_codeAny_call_defAt hr.depth (KX _ _ lk) rfl lim (PySem.W.codeRec_of KX hcd) rfl hb (fun x hx => NS.nocell x hx) (fun y hy => NS.par _ (List.of_mem_zip hy).1) (fun h₀ hns hk => ?_) NS.co NS.gen NS.kind
  obtain ⟨a, te, t, h0, ea, he, ht, hq⟩ := hbody A outer s H vs Q E (hr.deeper _) hsp
  have I := inv_startN (CX := CX) (mg := mg) (base := base) (f := f) (E := E) (h₁ := h₀) (tk := s.toks + (ps.zip us).length) (F := ⟨name, qual, params, supSt p0 p1 p2 p3 p4 e :: rest, scope, [("__class__", cc)], cda⟩) NS hr.hd e0 hl r CA hns hk
  have hσ : (startF N vs [some (V.ref C)])[0]? = some (some (.ref a)) := by
    unfold startF
    rw [List.getElem?_append_left (by rw [List.length_map]; omega), List.getElem?_map, h0]
    rfl
  have fin : ∀ {σ' : L2.St} {H' : Hp} {s' : Shared} {v : V} {u : Value}, Inv (ncx CX P w K mg base N ⟨name, qual, params, supSt p0 p1 p2 p3 p4 e :: rest, scope, [("__class__", cc)], cda⟩ f A outer s H E) [] σ' H' s' → L2.RelV v u → Q v H' → CE outer P w H s Q u s' :=
    fun {σ' H' s' v u} J rv q => ⟨v, H', J.os, J.bare, J.base, J.hok, rv, q⟩
  obtain ⟨pl, hev⟩ := hev (envF ⟨name, qual, params, supSt p0 p1 p2 p3 p4 e :: rest, scope, [("__class__", cc)], cda⟩ f s.heap.objs.size)
  refine ks_wpAt_execs_cons ?_
  refine at_super (X := ncx CX P w K mg base N ⟨name, qual, params, supSt p0 p1 p2 p3 p4 e :: rest, scope, [("__class__", cc)], cda⟩ f A outer s H E) (pl := pl) (i := 0) (ta := tCons te tNil) T S rfl rfl look1 hks (NS.frk _ (List.mem_singleton.mpr rfl)) hka hm I hN hσ ea (pa_cons he pa_nil (hse _)) ?_ ?_ (hsw _) (hse _) rfl hev
  · refine hq (fun H1 => ([()].length ≤ 1000 ∧ H1 a = some (exo a C none) ∧ ∀ s', _)) fun H1 e1 ht1 => ⟨by decide, e1, fun s' I1 => ?_⟩
    refine wpAt_of_wpAny (wpAny_mono (ht.run [] s' _ H1 _ I1 ht1) (fun fl s' hs => ?_) fun e s' hs => hs)
    cases fl with
    | ret u =>
      obtain ⟨v, σ', H', J, rv, q⟩ := hs
      exact fin J rv q
    | next =>
      obtain ⟨σ', H', J, q⟩ := hs
      exact fin (v := V.non) (u := Value.none) J rfl q
    | brk =>
      obtain ⟨_, _, _, q⟩ := hs
      exact False.elim q
    | cont =>
      obtain ⟨_, _, _, q⟩ := hs
      exact False.elim q
  · show (scope.kind == .module && _) = false
    rw [NS.kind]
    rfl
end
end Kx

/-! {x!r}, x of texts, lists and tuples, whatever is under way: some text of bounded length. -/
namespace Kr
open PySem PySem.Spec PyProof.Rows
/-- repr gives some text of at most n signs, with k units to spare -/
def Shows (prog : Program) (w : World) (h₀ : Heap) (k n : Nat) (x : Value) : Prop :=
  ∀ b : Nat, b + n ≤ sizeLine → ∀ (A : Around) (E : Value → Shared → Prop) (s : Shared) (Q : Str → Shared → Prop), A.units + k < cLine → (∀ c o, h₀.get? c = some o → s.heap.get? c = some o) →
    (∀ (t : Str) (h' : Heap) (tk : Nat), t.length ≤ n → (∀ c o, s.heap.get? c = some o → h'.get? c = some o) → Q t { s with heap := h', toks := tk }) → wpAny (model prog w) A (pyReprUnder b x) Q E s
def cst (ns : List Nat) : Nat := (ns.map (· + 2)).sum
theorem cst_cons (n : Nat) (ns : List Nat) : cst (n :: ns) = n + 2 + cst ns := by
  unfold cst
  rw [List.map_cons, List.sum_cons]
theorem cst_take_succ {ns : List Nat} {i n : Nat} (h : ns[i]? = some n) : cst (ns.take (i + 1)) = cst (ns.take i) + (n + 2) := by
  unfold cst
  rw [List.take_add_one, h, List.map_append, List.sum_append]
  simp
theorem cst_take_le (ns : List Nat) (i : Nat) : cst (ns.take i) ≤ cst ns := by
  have e : cst ns = cst (ns.take i) + cst (ns.drop i) := by
    unfold cst
    rw [← List.sum_append, ← List.map_append, List.take_append_drop]
  omega
theorem listText_le (ts : List Str) : (listText ts).length ≤ piled ts + 2 := by
  rw [listText_eq_join, strLen_append, strLen_append]
  have e1 : ((("[" : String) : Str)).length = 1 := rfl
  have e2 : ((("]" : String) : Str)).length = 1 := rfl
  rw [e1, e2]
  by_cases h : ts = []
  · subst h
    decide +kernel
  · have := join_length_add ts h
    omega
section
variable {prog : Program} {w : World} {h₀ : Heap} {k : Nat}
theorem Shows.str (x : Str) (t : Tok) (hx : (reprText x).length ≤ sizeLine) : Shows prog w h₀ k (reprText x).length (.str x t) := fun b hb A E s Q _ _ hQ =>
  ReprIs.str (prog := prog) (w := w) x t hx b hb A E s Q fun tk => hQ _ s.heap tk (Nat.le_refl _) fun _ _ e => e
theorem Shows.le {n m : Nat} {x : Value} (h : Shows prog w h₀ k n x) (hn : n ≤ m) : Shows prog w h₀ k m x := fun b hb A E s Q hu hk hQ =>
  h b (by omega) A E s Q hu hk fun t h' tk ht => hQ t h' tk (by omega)
theorem Shows.unit {n j : Nat} {x : Value} (h : Shows prog w h₀ k n x) (hn : k ≤ j) : Shows prog w h₀ j n x := fun b hb A E s Q hu hk hQ =>
  h b hb A E s Q (by omega) hk hQ
/-- the loop of a list's repr -/
theorem loop_any {A : Around} {R : Result → Shared → Prop} {a P : Addr} (hne : a ≠ P) {items : Array Value} {ns : List Nat} {base : Nat} (hu : A.units + (k + 1) < cLine) (hPf : h₀.get? P = none) (hlen : ns.length = items.size)
    (hT : ∀ (i : Nat) (x : Value), items[i]? = some x → ∃ n, ns[i]? = some n ∧ Shows prog w h₀ k n x) (hsz : base + cst ns + 2 ≤ sizeLine) :
    ∀ (m i : Nat) (s : Shared) (oa : Obj) (na : Nat) (acc : Array Value) (c : Nat) (done : List (Str × Tok)), items.size - i = m → i ≤ items.size → (∀ b o, h₀.get? b = some o → s.heap.get? b = some o) → s.heap.get? a = some oa → oa.data = .seq items na →
    s.heap.get? P = some { cls := .type "list", dict := none, data := .seq acc c, slots := #[] } → acc.toList = strValues done → done.length = i → piled (done.map (·.1)) ≤ cst (ns.take i) →
    (∀ (t : Str) h' u tk, t.length ≤ cst ns + 2 → (∀ b o, b ≠ P → s.heap.get? b = some o → h'.get? b = some o) → R (.ok (.ret (.str t u))) { s with heap := h', toks := tk }) →
    codeAny (model prog w) A (.builtin "list.__repr__.loop" ⟨[.ref a, rawInt i, .ref P, rawInt ((base + piled (done.map (·.1)) : Nat) : Int)], []⟩) R s := by
  have hsz1 : items.size ≤ sizeLine := by
    have : ∀ l : List Nat, 2 * l.length ≤ cst l := by
      intro l
      induction l with
      | nil => exact Nat.zero_le _
      | cons n l ih => rw [cst_cons, List.length_cons]; omega
    have := this ns
    omega
  intro m
  induction m with
  | zero =>
    intro i s oa na acc c done hm hi hk0 ha hda hP hacc hdone hpl hR
    have hin : i = items.size := by omega
    have hall : ns.take i = ns := by rw [hin, ← hlen, List.take_length]
    rw [hall] at hpl
    have hlt := listText_le (done.map (·.1))
    refine codeAny_builtin F.entry_list_repr_loop ?_
    show wpAny _ _ (Builtin.«list.__repr__.loop» ⟨[.ref a, .int i 0, .ref P, .int ((base + piled (done.map (·.1)) : Nat) : Int) 0], []⟩) _ _ s
    rw [repr_loop_tree]
    refine wpAny_bind (wpAny_listItems ha hda ?_)
    have hnone : items[(i : Int).toNat]? = none := by simp [hin]
    simp only [hnone]
    unfold reprEnd
    refine wpAny_bind (wpAny_listItems hP rfl ?_)
    rw [hacc, repr_fold]
    refine wpAny_bind (wpAny_pure ?_)
    refine wpAny_bind (wpAny_mkStr (wpAny_pure ?_) (by show (listText _).length ≤ _; omega))
    exact hR _ s.heap _ _ (by show (listText _).length ≤ _; omega) fun _ _ _ e => e
  | succ m ih =>
    intro i s oa na acc c done hm hi hk0 ha hda hP hacc hdone hpl hR
    have hlt : i < items.size := by omega
    obtain ⟨n, hn, hsh⟩ := hT i items[i] (by simp [hlt])
    have hp1 := cst_take_succ hn
    have hp2 := cst_take_le ns (i + 1)
    refine codeAny_builtin F.entry_list_repr_loop ?_
    show wpAny _ _ (Builtin.«list.__repr__.loop» ⟨[.ref a, .int i 0, .ref P, .int ((base + piled (done.map (·.1)) : Nat) : Int) 0], []⟩) _ _ s
    rw [repr_loop_tree]
    refine wpAny_bind (wpAny_listItems ha hda ?_)
    have hsome : items[(i : Int).toNat]? = some items[i] := by simp [hlt]
    simp only [hsome]
    rw [Int.toNat_natCast]
    refine wpAny_bind (wpAny_holding (hsh (base + piled (done.map (·.1)) + 1) (by omega) _ _ _ _ (by rw [units_under_list_loop]; omega) hk0 fun t h' tk ht hkp => ?_))
    refine wpAny_bind (wpAny_mkStr ?_ (by omega))
    refine wpAny_bind ?_
    show wpAny _ _ (updateSeq P _) _ _ _
    have hasz : acc.size ≤ sizeLine := by
      have e1 : acc.toList.length = acc.size := by simp
      have e2 : (strValues done).length = done.length := by simp [strValues]
      rw [hacc] at e1; omega
    refine wpAny_updateSeq (hkp _ _ hP) rfl (wpAny_pure ⟨F.quiet_list_repr_loop _, ?_⟩) hasz
    have hpd : piled ((done ++ [(t, tk)]).map (·.1)) = piled (done.map (·.1)) + (t.length + 2) := by
      rw [List.map_append, piled_append]
      show _ + piled [t] = _
      rw [piled_cons, piled_nil]
    have e1 : ((i : Int) + 1) = ((i + 1 : Nat) : Int) := by omega
    have e2 : base + piled (done.map (·.1)) + (t.length + 2) = base + piled ((done ++ [(t, tk)]).map (·.1)) := by omega
    rw [e1, e2]
    refine ih (i + 1) _ oa na (acc.push (.str t tk)) _ (done ++ [(t, tk)]) (by omega) hlt (fun b o e => (Heap.get?_update_other _ _ (fun h : P = b => by rw [← h, hPf] at e; cases e)).trans (hkp _ _ (hk0 _ _ e))) ((Heap.get?_update_other _ _ (fun h : P = a => hne h.symm)).trans (hkp _ _ ha)) hda (Heap.get?_update_self _ (hkp _ _ hP) rfl) (by simp [hacc, strValues]) (by simp [hdone]) (by omega) fun z h'' u tk' hz hh => ?_
    exact hR z h'' u tk' hz fun b o hb e => hh b o hb ((Heap.get?_update_other _ _ (fun h : P = b => hb h.symm)).trans (hkp _ _ e))
theorem dots3 : ("[...]" : Str).length ≤ 5 := by decide +kernel
/-- list.__repr__ of a non-empty list, whatever is under way -/
theorem list_at {A : Around} {R : Result → Shared → Prop} {s : Shared} {a : Addr} {oa : Obj} {x : Value} {l : List Value} {na base : Nat} {ns : List Nat} (ha : s.heap.get? a = some oa) (hda : oa.data = .seq (x :: l).toArray na) (hu : A.units + (k + 1) < cLine)
    (hk0 : ∀ b o, h₀.get? b = some o → s.heap.get? b = some o) (hlen : ns.length = (x :: l).toArray.size) (hT : ∀ (i : Nat) (y : Value), (x :: l).toArray[i]? = some y → ∃ n, ns[i]? = some n ∧ Shows prog w h₀ k n y) (hsz : base + cst ns + 5 ≤ sizeLine)
    (hR : ∀ (t : Str) h' u tk, t.length ≤ cst ns + 5 → (∀ b o, s.heap.get? b = some o → h'.get? b = some o) → R (.ok (.ret (.str t u))) { s with heap := h', toks := tk }) :
    wpAny (model prog w) A.in1 (Builtin.listReprAt base ⟨[.ref a], []⟩) (fun fin s' => match fin with | .done f => R (.ok f) s' | .again c' => c'.quiet = true ∧ codeAny (model prog w) A c' R s') (fun e s' => R (.error e) s') s := by
  have hPf : h₀.get? s.heap.objs.size = none := by
    cases e : h₀.get? s.heap.objs.size with
    | none => rfl
    | some o => exact absurd (Heap.lt_size (hk0 _ _ e)) (Nat.lt_irrefl _)
  have main : wpAny (model prog w) A.in1 (do again (.builtin "list.__repr__.loop" ⟨[.ref a, rawInt 0, ← newList [], rawInt base], []⟩)) (fun fin s' => match fin with | .done f => R (.ok f) s' | .again c' => c'.quiet = true ∧ codeAny (model prog w) A c' R s') (fun e s' => R (.error e) s') s := by
    refine wpAny_bind (m := newList []) (wpAny_newObj_type ?_)
    refine wpAny_pure ⟨F.quiet_list_repr_loop _, ?_⟩
    exact loop_any (P := s.heap.objs.size) (done := []) (Nat.ne_of_lt (Heap.lt_size ha)) hu hPf hlen hT (by omega) _ 0 _ oa na #[] _ rfl (Nat.zero_le _) (fun b o e => Heap.get?_push_of_some _ (hk0 _ _ e)) (Heap.get?_push_of_some _ ha) hda (Heap.get?_push_size _ rfl) rfl rfl (Nat.zero_le _)
      fun t h' u tk ht hk => hR t h' u tk (by omega) fun b o e => hk b o (Nat.ne_of_lt (Heap.lt_size e)) (Heap.get?_push_of_some _ e)
  intro Γ p hΓ
  have h1 := main Γ p hΓ
  unfold Builtin.listReprAt
  simp [slotArgs, Builtin.List.listItems, seqItems?, Sem.wp_load_of (h := ha), hda, stack]
  show Sem.wp _ Γ (if (Γ.below.any _) = true then _ else _) _ _ p s
  split
  · have h2 : wpAny (model prog w) A.in1 (do rule "list.__repr__.in-itself"; retStr "[...]") (fun fin s' => match fin with | .done f => R (.ok f) s' | .again c' => c'.quiet = true ∧ codeAny (model prog w) A c' R s') (fun e s' => R (.error e) s') s := by
      refine wpAny_bind (wpAny_rule ?_)
      refine wpAny_bind (wpAny_mkStr (wpAny_pure ?_) (by decide +kernel))
      have d := dots3
      exact hR _ s.heap _ _ (by omega) fun _ _ e => e
    exact h2 Γ p hΓ
  · exact h1
/-- a list's object in the heap that was read -/
structure LstAt (h : Heap) (a : Addr) (xs : List Value) : Prop where
  ex : ∃ (o : Obj) (n : Nat), h.get? a = some o ∧ o.cls = .type "list" ∧ o.data = .seq xs.toArray n
structure TupAt (h : Heap) (a : Addr) (xs : List Value) : Prop where
  ex : ∃ (o : Obj) (n : Nat), h.get? a = some o ∧ o.cls = .type "tuple" ∧ o.data = .seq xs.toArray n
/-- the members and what each may come to -/
def Each (prog : Program) (w : World) (h₀ : Heap) (k : Nat) : List Value → List Nat → Prop := Paired fun x n => Shows prog w h₀ k n x
theorem Each.get : ∀ {xs : List Value} {ns : List Nat}, Each prog w h₀ k xs ns → ∀ (i : Nat) (y : Value), xs[i]? = some y → ∃ n, ns[i]? = some n ∧ Shows prog w h₀ k n y
  | _, _, .nil, i, y, e => by simp at e
  | _, _, .cons (b := n) h _, 0, y, e => ⟨n, rfl, (Option.some.inj e) ▸ h⟩
  | _, _, .cons _ t, i + 1, y, e => by
    obtain ⟨n, h1, h2⟩ := Each.get t i y (by simpa using e)
    exact ⟨n, by simpa using h1, h2⟩
theorem Each.len {xs : List Value} {ns : List Nat} (h : Each prog w h₀ k xs ns) : ns.length = xs.length := (Paired.length h).symm
theorem list_top {A : Around} {E : Value → Shared → Prop} {s : Shared} {Q : Value → Shared → Prop} {a : Addr} {xs : List Value} {ns : List Nat} (ha : LstAt h₀ a xs) (hT : Each prog w h₀ k xs ns) (hu : A.units + (k + 1) < cLine) (hk0 : ∀ b o, h₀.get? b = some o → s.heap.get? b = some o) (hsz : cst ns + 5 ≤ sizeLine)
    (hQ : ∀ (t : Str) h' u tk, t.length ≤ cst ns + 5 → (∀ b o, s.heap.get? b = some o → h'.get? b = some o) → Q (.str t u) { s with heap := h', toks := tk }) : wpAny (model prog w) A (pyReprObj (.ref a)) Q E s := by
  obtain ⟨o, n, ho, hc, hd⟩ := ha.ex
  have hTy : s.TypeIs (.ref a) "list" := ⟨o, hk0 _ _ ho, hc⟩
  cases xs with
  | nil => exact wpAny_pyReprObj_list_empty hTy (by omega) (hk0 _ _ ho) hd (hQ _ s.heap _ _ (Nat.le_trans (by decide +kernel : ("[]" : Str).length ≤ 5) (Nat.le_add_left _ _)) fun _ _ e => e)
  | cons x l =>
    unfold pyReprObj
    refine wpAny_bind (wpAny_cRoomFor (by omega) ?_)
    refine wpAny_bind (wpAny_specialOf (name := Str.ofString "__repr__") hTy F.slot_list_repr.lookup ?_)
    refine wpAny_bind (m := callSpecialIfBound? (.ref a) (Str.ofString "__repr__")) (wpAny_callSpecialIfBound?_slot (name := Str.ofString "__repr__") hTy F.slot_list_repr ?_)
    refine wpAny_call (codeAny_call_builtin F.slot_list_repr.plain F.entry_list_repr (F.slot_list_repr.check _ _ _ _ _ _ _ _ hTy (F.args_list_repr_1 _) ?_))
    refine list_at (k := k) (h₀ := h₀) (ns := ns) (R := callEnd _ _) (base := 0) (hk0 _ _ ho) hd hu hk0 (by rw [hT.len]; simp) (fun i y e => hT.get i y (by simpa using e)) (by omega) fun t h' u tk ht hk => ?_
    exact wpAny_bind (wpAny_isInstance (T := "str") (b := true) rfl isSubtype_str_str (wpAny_pure (hQ t h' u tk ht hk)))
theorem Shows.list {a : Addr} {xs : List Value} {ns : List Nat} (ha : LstAt h₀ a xs) (hT : Each prog w h₀ k xs ns) : Shows prog w h₀ (k + 1) (cst ns + 5) (.ref a) := by
  obtain ⟨o, n, ho, hc, hd⟩ := ha.ex
  intro b hb A E s Q hu hk0 hQ
  refine wpAny_pyReprUnder_ref (by omega) ?_
  cases xs with
  | nil => exact wpAny_pyReprObjUnder_list_empty ⟨o, hk0 _ _ ho, hc⟩ (by omega) (hk0 _ _ ho) hd ⟨_, _, rfl, hQ _ s.heap _ (Nat.le_trans (by decide +kernel : ("[]" : Str).length ≤ 5) (Nat.le_add_left _ _)) fun _ _ e => e⟩
  | cons x l =>
    refine wpAny_pyReprObjUnder_twin (twin := "list.__repr__.under") ⟨o, hk0 _ _ ho, hc⟩ F.slot_list_repr.toG rfl (by omega) ?_
    refine call_twin_plain F.plain_list_repr_under F.entry_list_repr_under F.check_list_repr_under ⟨o, hk0 _ _ ho, hc⟩ F.slot_list_repr.toG (F.args_list_repr_1 _) ?_
    refine list_at (k := k) (h₀ := h₀) (ns := ns) (R := callEnd _ _) (hk0 _ _ ho) hd hu hk0 (by rw [hT.len]; simp) (fun i y e => hT.get i y (by simpa using e)) (by omega) fun t h' u tk ht hk => ?_
    exact ⟨⟨_, _, rfl⟩, _, _, rfl, hQ t h' tk ht hk⟩
/-- the fold over a tuple's members -/
theorem fold_any {A : Around} {E : Value → Shared → Prop} (hu : A.units + k < cLine) : ∀ (l : List Value) (ns : List Nat) (acc : Array Str) (n : Nat) (s : Shared) (Q : (Array Str × Nat) → Shared → Prop), Each prog w h₀ k l ns → n + cst ns ≤ sizeLine → (∀ b o, h₀.get? b = some o → s.heap.get? b = some o) →
    (∀ (ts : List Str) h' tk, ts.length = l.length → piled ts ≤ cst ns → (∀ b o, s.heap.get? b = some o → h'.get? b = some o) → Q ⟨acc ++ ts.toArray, n + piled ts⟩ { s with heap := h', toks := tk }) → wpAny (model prog w) A (forIn l (⟨acc, n⟩ : (Array Str × Nat)) tupBody) Q E s := by
  intro l
  induction l with
  | nil =>
    intro ns acc n s Q hT hn _ h
    have h0 := h [] s.heap s.toks rfl (Nat.zero_le _) fun _ _ e => e
    simp only [List.forIn_nil]
    exact wpAny_pure (by simpa [piled] using h0)
  | cons x l ih =>
    intro ns acc n s Q hT hn hk0 h
    cases hT with
    | @cons _ c _ cs hx hl =>
      rw [cst_cons] at hn
      rw [List.forIn_cons]
      refine wpAny_bind (wpAny_bind (hx (n + 1) (by omega) _ _ _ _ hu hk0 fun t h' tk ht hkp => wpAny_pure ?_))
      refine ih cs (acc.push t) (n + (t.length + 2)) _ Q hl (by omega) (fun b o e => hkp _ _ (hk0 _ _ e)) fun ts h'' tk' hl' hp' hk2 => ?_
      have e : n + piled (t :: ts) = n + (t.length + 2) + piled ts := by rw [piled_cons]; omega
      have h1 := h (t :: ts) h'' tk' (by simp [hl']) (by rw [piled_cons, cst_cons]; omega) fun b o e => hk2 _ _ (hkp _ _ e)
      rw [e] at h1
      simpa using h1
theorem tupleText_le (ts : List Str) : (tupleText ts).length ≤ piled ts + 2 := fmt_text ts
theorem tup_rest {A : Around} {E : Value → Shared → Prop} {s : Shared} {Q : Fin → Shared → Prop} {a : Addr} {xs : List Value} {ns : List Nat} {base : Nat} (ha : TupAt h₀ a xs) (hT : Each prog w h₀ k xs ns) (hu : A.units + k < cLine) (hk0 : ∀ b o, h₀.get? b = some o → s.heap.get? b = some o) (hsz : base + cst ns + 5 ≤ sizeLine)
    (hQ : ∀ (t : Str) h' u tk, t.length ≤ cst ns + 5 → (∀ b o, s.heap.get? b = some o → h'.get? b = some o) → Q (.done (.ret (.str t u))) { s with heap := h', toks := tk }) : wpAny (model prog w) A (Builtin.tupleReprAt base ⟨[.ref a], []⟩) Q E s := by
  obtain ⟨o, n, ho, hc, hd⟩ := ha.ex
  rw [tuple_repr_tree]
  refine wpAny_bind (fmt_underWay fun c => ?_)
  cases c with
  | true =>
    refine PySem.W.KFB.if_so rfl ?_
    refine wpAny_bind (wpAny_rule ?_)
    refine wpAny_bind (wpAny_mkStr (wpAny_pure ?_) (by decide +kernel))
    exact hQ "(...)" s.heap _ _ (Nat.le_trans fmt_way (Nat.le_add_left _ _)) fun _ _ e => e
  | false =>
    refine PySem.W.KFB.if_not rfl ?_
    unfold tupleReprRest Builtin.Tuple.tupleItemsOf
    refine wpAny_bind (wpAny_bind (wpAny_seqItems (hk0 _ _ ho) hd (wpAny_pure ?_)))
    rw [← Array.forIn_toList]
    refine wpAny_bind (fold_any hu _ ns _ _ _ _ (by simpa using hT) (by omega) hk0 fun ts h' tk hl hp hkp => ?_)
    have ht := tupleText_le ts
    have hl2 : ts.length = xs.toArray.size := by simpa using hl
    have hz : (tupleText ts).length ≤ sizeLine := by omega
    refine wpAny_bind (wpAny_mkStr (wpAny_pure ?_) (by simpa [tupleText, hl2] using hz))
    have h1 := hQ (tupleText ts) h' tk (tk + 1) (by omega) hkp
    simpa [tupleText, hl2] using h1
theorem tup_top {A : Around} {E : Value → Shared → Prop} {s : Shared} {Q : Value → Shared → Prop} {a : Addr} {xs : List Value} {ns : List Nat} (ha : TupAt h₀ a xs) (hT : Each prog w h₀ k xs ns) (hu : A.units + (k + 1) < cLine) (hk0 : ∀ b o, h₀.get? b = some o → s.heap.get? b = some o) (hsz : cst ns + 5 ≤ sizeLine)
    (hQ : ∀ (t : Str) h' u tk, t.length ≤ cst ns + 5 → (∀ b o, s.heap.get? b = some o → h'.get? b = some o) → Q (.str t u) { s with heap := h', toks := tk }) : wpAny (model prog w) A (pyReprObj (.ref a)) Q E s := by
  obtain ⟨o, n, ho, hc, hd⟩ := id ha.ex
  have hTy : s.TypeIs (.ref a) "tuple" := ⟨o, hk0 _ _ ho, hc⟩
  unfold pyReprObj
  refine wpAny_bind (wpAny_cRoomFor (by omega) ?_)
  refine wpAny_bind (wpAny_specialOf (name := Str.ofString "__repr__") hTy F.slot_tuple_repr.lookup ?_)
  refine wpAny_bind (m := callSpecialIfBound? (.ref a) (Str.ofString "__repr__")) (wpAny_callSpecialIfBound?_slotG (name := Str.ofString "__repr__") hTy F.slot_tuple_repr ?_)
  refine wpAny_call (codeAny_call_builtin_own (Code.quiet_builtin _ (by decide +kernel)) F.entry_tuple_repr (F.slot_tuple_repr.check _ _ _ _ _ _ _ _ hTy (F.args_tuple_repr_1 _) (wpOwn_of_wpAny ?_)))
  refine tup_rest (base := 0) ha hT (by rw [units_under_tuple_repr]; omega) hk0 (by omega) fun t h' u tk ht hk => ?_
  exact wpAny_bind (wpAny_isInstance (T := "str") (b := true) rfl isSubtype_str_str (wpAny_pure (hQ t h' u tk ht hk)))
theorem Shows.tup {a : Addr} {xs : List Value} {ns : List Nat} (ha : TupAt h₀ a xs) (hT : Each prog w h₀ k xs ns) : Shows prog w h₀ (k + 1) (cst ns + 5) (.ref a) := by
  obtain ⟨o, n, ho, hc, hd⟩ := id ha.ex
  intro b hb A E s Q hu hk0 hQ
  refine wpAny_pyReprUnder_ref (by omega) ?_
  refine wpAny_pyReprObjUnder_twin (twin := "tuple.__repr__.under") ⟨o, hk0 _ _ ho, hc⟩ F.slot_tuple_repr rfl (by omega) ?_
  refine call_twin_own (F.quiet_tuple_repr_under _) F.entry_tuple_repr_under F.check_tuple_repr_under ⟨o, hk0 _ _ ho, hc⟩ F.slot_tuple_repr (F.args_tuple_repr_1 _) (wpOwn_of_wpAny ?_)
  refine tup_rest ha hT (by rw [units_under_tuple_repr_under]; omega) hk0 (by omega) fun t h' u tk ht hk => ?_
  exact ⟨⟨_, _, rfl⟩, _, _, rfl, hQ t h' tk ht hk⟩
end
end Kr

namespace Kr
open PySem PySem.Spec PyProof.Rows L2
mutual
def costD : PyData → Nat
  | .str x => 10 * x.length + 2
  | .list ds => costAll ds + 5
  | .tuple ds => costAll ds + 5
  | _ => 0
def costAll : List PyData → Nat
  | [] => 0
  | d :: ds => costD d + 2 + costAll ds
end
mutual
def okD : PyData → Bool
  | .str x => x.cps.toList.all fun c => decide (c < 1114112)
  | .list ds => okAll ds
  | .tuple ds => okAll ds
  | _ => false
def okAll : List PyData → Bool
  | [] => true
  | d :: ds => okD d && okAll ds
end
theorem repr_le {x : Str} (h : okD (.str x) = true) : (reprText x).length ≤ 10 * x.length + 2 := StrLaws.reprText_len x fun c hc => by
  have h' : x.cps.toList.all (fun c => decide (c < 1114112)) = true := by simpa only [okD] using h
  exact Nat.lt_trans (of_decide_eq_true (List.all_eq_true.mp h' c hc)) (by decide)
section
variable {X : Cx} {pins : List (Addr × Obj)} {σ : L2.St} {H : Hp} {s : Shared} {prog : Program} {w : World}
mutual
theorem shows_of (I : Inv X pins σ H s) : ∀ (d : PyData) (v : V) (u : Value), Dp X.K H v d → RelV v u → okD d = true → costD d ≤ sizeLine → Shows prog w s.heap d.depth (costD d) u
  | .str x, _, _, h, r, ok, hz => by
    cases h
    obtain ⟨t, rfl⟩ := r
    have h1 := repr_le ok
    have e : costD (.str x) = 10 * x.length + 2 := by simp only [costD]
    rw [e] at hz ⊢
    exact (Shows.str x t (by omega)).le h1
  | .list ds, _, _, h, r, ok, hz => by
    cases h with
    | lst hs ha =>
      cases r
      obtain ⟨its, rv, ⟨o, n, ho, hc, _, hd⟩, _⟩ := I.list hs
      have e : costD (.list ds) = costAll ds + 5 := by simp only [costD]
      rw [e] at hz ⊢
      obtain ⟨ns, en, hT⟩ := shows_all I ds _ its ha rv (by simpa only [okD] using ok) (by omega)
      rw [← en]
      exact Shows.list ⟨o, n, ho, hc, hd⟩ hT
  | .tuple ds, _, _, h, r, ok, hz => by
    cases h with
    | tup hs ha =>
      cases r
      obtain ⟨its, rv, ⟨o, ho, hc, n, hd⟩, _⟩ := I.tuple hs
      have e : costD (.tuple ds) = costAll ds + 5 := by simp only [costD]
      rw [e] at hz ⊢
      obtain ⟨ns, en, hT⟩ := shows_all I ds _ its ha rv (by simpa only [okD] using ok) (by omega)
      rw [← en]
      exact Shows.tup ⟨o, n, ho, hc, hd⟩ hT
  | .none, _, _, _, _, ok, _ => by simp [okD] at ok
  | .bool _, _, _, _, _, ok, _ => by simp [okD] at ok
  | .int _, _, _, _, _, ok, _ => by simp [okD] at ok
  | .dict _, _, _, _, _, ok, _ => by simp [okD] at ok
theorem shows_all (I : Inv X pins σ H s) : ∀ (ds : List PyData) (vs : List V) (us : List Value), DpAll X.K H vs ds → Vals vs us → okAll ds = true → costAll ds ≤ sizeLine → ∃ ns, cst ns = costAll ds ∧ Each prog w s.heap (PyData.depthAll ds) us ns
  | [], _, _, h, r, _, _ => by
    cases h
    cases r
    exact ⟨[], by simp [cst, costAll], .nil⟩
  | d :: ds, _, _, h, r, ok, hz => by
    cases h with
    | cons h1 h2 =>
      cases r with
      | cons r1 r2 =>
        have e : costAll (d :: ds) = costD d + 2 + costAll ds := by simp only [costAll]
        have o2 : (okD d && okAll ds) = true := by simpa only [okAll] using ok
        obtain ⟨oa, ob⟩ := Bool.and_eq_true_iff.mp o2
        have q1 := shows_of I d _ _ h1 r1 oa (by omega)
        obtain ⟨ns, en, q2⟩ := shows_all I ds _ _ h2 r2 ob (by omega)
        have hm : PyData.depthAll (d :: ds) = max d.depth (PyData.depthAll ds) := by simp only [PyData.depthAll]
        refine ⟨costD d :: ns, by rw [cst_cons, en, e], ?_⟩
        rw [hm]
        exact .cons (q1.unit (Nat.le_max_left _ _)) (Paired.mono (fun _ _ z => z.unit (Nat.le_max_right _ _)) q2)
end
end
/-- {x!r}: some text -/
def tFmtD (K : PySem.W.Frag) (te : TE) : TE := fun σ H Q => te σ H fun x H1 => ∃ d, Dp K H1 x d ∧ okD d = true ∧ costD d ≤ 1000000 ∧ d.depth ≤ 20 ∧ ∀ m : Str, m.length ≤ costD d → Q (.str m) H1
section
variable {X : Cx}
theorem pe_fmtD {e : Expr} {te : TE} {pos : Pos} {k : Nat} (hr : Room k X.A) (he : PE X e te) : PE X (.FormattedValue e 114 none pos) (tFmtD X.K te) := by
  refine ⟨fun pins s σ H Q I h => ?_⟩
  refine wpAny_FormattedValue_repr (thn (he.run pins s σ H _ I h) fun v s1 hv => ?_)
  obtain ⟨x, H1, I1, r1, d, hd, ok, hz, hdp, q⟩ := hv
  have hu := hr.units
  have hz' : costD d ≤ sizeLine := Nat.le_trans hz (by decide)
  have fin : ∀ (t : Str) (h' : Heap) (u tk : Nat), t.length ≤ costD d → (∀ b o, s1.heap.get? b = some o → h'.get? b = some o) → wpAny (model X.prog X.w) X.A (formatField (.str t u) Str.empty) (EP X pins σ Q) X.xe { s1 with heap := h', toks := tk } := fun t h' u tk ht hk =>
    wpAny_formatField_str ⟨.str t, H1, (I1.kept (t' := tk) hk).tok _, ⟨_, rfl⟩, q t ht⟩ ⟨.str t, H1, (I1.kept (t' := tk) hk).tok _, ⟨_, rfl⟩, q t ht⟩ (by omega)
  cases hd with
  | str y =>
    obtain ⟨t, rfl⟩ := r1
    have h1 := repr_le ok
    have e : costD (.str y) = 10 * y.length + 2 := by simp only [costD]
    exact pyReprObj_str (fin _ s1.heap _ _ (by omega) fun _ _ z => z) (by omega)
  | @lst a xs ds hs ha =>
    cases r1
    obtain ⟨its, rv, ⟨o, n, ho, hc, _, hdt⟩, _⟩ := I1.list hs
    have e : costD (.list ds) = costAll ds + 5 := by simp only [costD]
    obtain ⟨ns, en, hT⟩ := shows_all (prog := X.prog) (w := X.w) I1 ds _ its ha rv (by simpa only [okD] using ok) (by omega)
    have hdp' : PyData.depthAll ds + 1 ≤ 20 := by simpa only [PyData.depth] using hdp
    exact list_top ⟨o, n, ho, hc, hdt⟩ hT (by omega) (fun _ _ z => z) (by omega) fun t h' u tk ht hk => fin t h' u tk (by omega) hk
  | @tup a xs ds hs ha =>
    cases r1
    obtain ⟨its, rv, ⟨o, ho, hc, n, hdt⟩, _⟩ := I1.tuple hs
    have e : costD (.tuple ds) = costAll ds + 5 := by simp only [costD]
    obtain ⟨ns, en, hT⟩ := shows_all (prog := X.prog) (w := X.w) I1 ds _ its ha rv (by simpa only [okD] using ok) (by omega)
    have hdp' : PyData.depthAll ds + 1 ≤ 20 := by simpa only [PyData.depth] using hdp
    exact tup_top ⟨o, n, ho, hc, hdt⟩ hT (by omega) (fun _ _ z => z) (by omega) fun t h' u tk ht hk => fin t h' u tk (by omega) hk
  | non => simp [okD] at ok
  | bl b => simp [okD] at ok
  | int i => simp [okD] at ok
end
end Kr

/-! An own error as a value: made, asked for its class, its fields read. Texts times numbers. -/
namespace Ke
open PySem PySem.Spec PyProof.Rows L2 Kx Kr
theorem Same.tupS {K : PySem.W.Frag} {H H' : Hp} {a : Addr} {xs : List V} (e : Same H H') (h : SqT K H a xs) : SqT K H' a xs := by
  rcases h with (h | ⟨o, h⟩) | h
  · exact .inl (.inl (e _ _ h))
  · exact .inl (.inr ⟨o, e _ _ h⟩)
  · exact .inr h
mutual
theorem dp_same {K : PySem.W.Frag} {H H' : Hp} (e : Same H H') : ∀ (d : PyData) (v : V), Dp K H v d → Dp K H' v d
  | .none, _, h => by cases h; exact .non
  | .bool b, _, h => by cases h; exact .bl b
  | .int i, _, h => by cases h; exact .int i
  | .str x, _, h => by cases h; exact .str x
  | .list ds, _, h => by
    cases h with
    | lst hs ha => exact .lst (e.seq hs) (dpAll_same e ds _ ha)
  | .tuple ds, _, h => by
    cases h with
    | tup hs ha => exact .tup (Same.tupS e hs) (dpAll_same e ds _ ha)
  | .dict _, _, h => by cases h
theorem dpAll_same {K : PySem.W.Frag} {H H' : Hp} (e : Same H H') : ∀ (ds : List PyData) (vs : List V), DpAll K H vs ds → DpAll K H' vs ds
  | [], _, h => by cases h; exact .nil
  | d :: ds, _, h => by
    cases h with
    | cons h1 h2 => exact .cons (dp_same e d _ h1) (dpAll_same e ds _ h2)
end
mutual
theorem eqv_self : ∀ d : PyData, okD d = true → PyData.eqv d d = true
  | .str x, _ => by simp [PyData.eqv]
  | .list ds, h => by
    have h' : okAll ds = true := by simpa only [okD] using h
    have := eqvAll_self ds h'
    simpa [PyData.eqv] using this
  | .tuple ds, h => by
    have h' : okAll ds = true := by simpa only [okD] using h
    have := eqvAll_self ds h'
    simpa [PyData.eqv] using this
  | .none, h => by simp [okD] at h
  | .bool _, h => by simp [okD] at h
  | .int _, h => by simp [okD] at h
  | .dict _, h => by simp [okD] at h
theorem eqvAll_self : ∀ ds : List PyData, okAll ds = true → PyData.eqvAll ds ds = true
  | [], _ => by simp [PyData.eqvAll]
  | d :: ds, h => by
    have h' : (okD d && okAll ds) = true := by simpa only [okAll] using h
    obtain ⟨h1, h2⟩ := Bool.and_eq_true_iff.mp h'
    have e1 := eqv_self d h1
    have e2 := eqvAll_self ds h2
    simp [PyData.eqvAll, e1, e2]
end
/-! ### an error as a value -/
/-- an error of the class at C stands at a; its fields (at least) g -/
def ErrAt (C : Addr) (H : Hp) (a : Addr) (g : List (Str × V)) : Prop := (g = [] ∧ H a = some (exo a C none)) ∨ ∃ (d : Addr) (fs : List (Str × V)), H a = some (exo a C (some d)) ∧ H d = some (exd d fs) ∧ ∀ f v, g.lookup f = some v → fs.lookup f = some v
theorem ErrAt.same {C a : Addr} {H H' : Hp} {g : List (Str × V)} (h : ErrAt C H a g) (s : Same H H') : ErrAt C H' a g := by
  rcases h with ⟨e, h⟩ | ⟨d, fs, h1, h2, h3⟩
  · exact .inl ⟨e, s _ _ h⟩
  · exact .inr ⟨d, fs, s _ _ h1, s _ _ h2, h3⟩
/-- C.__init__ -/
def spErr (C : Addr) (cond : List V → Hp → Prop) (g : List V → List (Str × V)) : Sp := fun vs H Q _ => ∃ (a : Addr) (xs : List V), vs = .ref a :: xs ∧ cond xs H ∧ H a = some (exo a C none) ∧
  ∀ H', (∀ b o, H b = some o → b ≠ a → H' b = some o) → ErrAt C H' a (g xs) → Q .non H'
structure MkE (P : Program) (w : World) (K : PySem.W.Frag) (mg : Str → Option Value) (base : Heap) (x : Str) (C : Addr) (k : Nat) (ps : List Str) (cond : List V → Hp → Prop) (g : List V → List (Str × V)) : Prop where
  ex : ∃ (fI : Addr) (fd : FuncData), PySem.W.findIn K (.ref C) "__init__" = some (some (.ref fI)) ∧ PySem.W.typeIn K (.ref fI) = some (.type "function") ∧ FnOk P w K mg base CX0 k fI fd ps (spErr C cond g) ∧ Binds K fd ps []
  T : OexC K C
  g_ : mg x = some (.ref C)
section
variable {X : Cx} {x : Str} {C : Addr} {k : Nat} {ps : List Str} {cond : List V → Hp → Prop} {g : List V → List (Str × V)} {e : Expr} {es : List Expr} {ta : TA} {p pos : Pos}
theorem err_run {pins : List (Addr × Obj)} {σ : L2.St} {H1 : Hp} {s1 : Shared} {Q : VK} {vs : List V} {us : List Value} (M : MkE X.prog X.w X.K X.mg X.base x C k ps cond g) (hr : Room (k + 1) X.A) (I1 : Inv X pins σ H1 s1) (r1 : Vals vs us)
    (hz : vs.length ≤ 1000) (hc : ∀ H', Same H1 H' → cond vs H') (q : ∀ a H2, Same H1 H2 → ErrAt C H2 a (g vs) → Q (.ref a) H2) : wpAny (model X.prog X.w) X.A (call (.ref C) us) (EP X pins σ Q) X.xe s1 := by
  obtain ⟨fI, fd, iC, tI, F1, hb⟩ := M.ex
  obtain ⟨nm, qn, N, bs, bm, sn, sub, ab, col, dd, k0, k1, k2, k3, k5, hC, hbm⟩ := M.T.cls
  obtain ⟨hp, gs, dr, tk, os⟩ := s1
  have hsz : hp.objs.size ≤ hp.objs.size + 1 := Nat.le_succ _
  have hn : H1 (hp.objs.size + 1) = none := I1.hok.fresh hsz
  have kk : ∀ b o, hp.get? b = some o → ((hp.push (PySem.W.kdv_tup us)).push (PySem.HandSPX.excO C hp.objs.size)).get? b = some o := fun b o e => Heap.get?_push_of_some _ (Heap.get?_push_of_some _ e)
  have hget : ((hp.push (PySem.W.kdv_tup us)).push (PySem.HandSPX.excO C hp.objs.size)).get? (hp.objs.size + 1) = some (PySem.HandSPX.excO C hp.objs.size) := by heap_get
  have I2 : Inv X pins σ (upd H1 (hp.objs.size + 1) (exo (hp.objs.size + 1) C none)) ⟨(hp.push (PySem.W.kdv_tup us)).push (PySem.HandSPX.excO C hp.objs.size), gs, dr, tk, os⟩ :=
    I1.laid (t' := tk) (a := hp.objs.size + 1) (o := exo (hp.objs.size + 1) C none) (h' := (hp.push (PySem.W.kdv_tup us)).push (PySem.HandSPX.excO C hp.objs.size)) kk hsz (exo_ok hget)
  have hq : spErr C cond g (.ref (hp.objs.size + 1) :: vs) (upd H1 (hp.objs.size + 1) (exo (hp.objs.size + 1) C none)) (fun v H2 => v = .non ∧ Q (.ref (hp.objs.size + 1)) H2) (fun _ _ _ => False) :=
    ⟨_, vs, rfl, hc _ (same_upd hn), upd_same, fun H' hk he => ⟨rfl, q _ H' (fun b o hb => hk b o (by rw [upd_ne (ne_of_none hb hn)]; exact hb) (ne_of_none hb hn)) he⟩⟩
  have r2 : Vals (V.ref (hp.objs.size + 1) :: vs) (Value.ref (hp.objs.size + 1) :: us) := .cons rfl r1
  have hl : (Value.ref (hp.objs.size + 1) :: us ++ []).length = ps.length := by
    rw [List.append_nil]
    have e := r2.length
    rw [F1.len _ _ _ _ hq] at e
    exact e.symm
  have bind := hb _ (Value.ref (hp.objs.size + 1) :: us) I2.kIn hl
  rw [List.append_nil] at bind
  have hus : us.length ≤ sizeLine := by
    rw [← Paired.length r1, sizeLine_eq]
    omega
  refine wpAny_call (PySem.HandSPX.call_own F.excBase_ValueError (fun Y => PySem.HandSPX.refsVE_contains Y bm hbm) (I1.kIn _ _ hC) (PySem.W.looks_findIn I1.kIn iC) (fun self => PySem.W.bind_fn I1.kIn self tI) hus
    (codeAny_mono (F1.run _ X.stack _ _ ⟨Value.ref (hp.objs.size + 1) :: us, []⟩ (Value.ref (hp.objs.size + 1) :: us) _ _ (fun _ _ _ => False) (hr.make C us []) (I2.env0.make C us []) bind r2 hq) fun r s' hq' => ?_))
  cases r with
  | error er => exact pass0 pins σ _ _ er s' I2 hq'
  | ok fl =>
    cases fl with
    | ret u =>
      obtain ⟨v, H', J', rv, ev, q3⟩ := I2.after hq'
      subst ev
      exact ⟨rv, ⟨V.ref (hp.objs.size + 1), H', J', rfl, q3⟩⟩
    | next => exact False.elim hq'
    | brk => exact False.elim hq'
    | cont => exact False.elim hq'
def tErr (C : Addr) (cond : List V → Hp → Prop) (g : List V → List (Str × V)) (ta : TA) : TE := fun σ H Q => ta σ H fun vs H1 => vs.length ≤ 1000 ∧ (∀ H', Same H1 H' → cond vs H') ∧ ∀ a H2, Same H1 H2 → ErrAt C H2 a (g vs) → Q (.ref a) H2
theorem pe_err (M : MkE X.prog X.w X.K X.mg X.base x C k ps cond g) (hr : Room (k + 1) X.A) (hg : Gl X x) (ha : PA X (e :: es) ta) (hdb : (x == ("__debug__" : Str)) = false := by decide)
    (he : starEach (e :: es) X.env = (false, eval e X.env) :: starEach es X.env := by rfl) (hpl : (backTo pos (starEach es X.env)).any (·.1) = false := by rfl) : PE X (.Call (.Name x p) (e :: es) [] pos) (tErr C cond g ta) := by
  refine ⟨fun pins s σ H Q I h => ?_⟩
  refine wpAny_Call_Name_kw (ld_glob I hg M.g_ ?_ hdb)
  refine PySem.W.callWith_K (h₀ := X.base) I.ok.mod.kin M.T.kC (thn (ha.run pos pins s σ H _ I h) fun us s1 ⟨vs, H1, I1, r1, hz, hc, q⟩ => ⟨I1.kIn, ?_⟩) he hpl
  exact err_run M hr I1 r1 hz hc q
theorem pe_err0 (M : MkE X.prog X.w X.K X.mg X.base x C k ps cond g) (hr : Room (k + 1) X.A) (hg : Gl X x) (hdb : (x == ("__debug__" : Str)) = false := by decide) : PE X (.Call (.Name x p) [] [] pos) (tErr C cond g tNil) := by
  refine ⟨fun pins s σ H Q I h => ?_⟩
  refine wpAny_Call_Name_kw (ld_glob I hg M.g_ ?_ hdb)
  obtain ⟨hz, hc, q⟩ := h
  exact PySem.W.callWith_K0 I.kIn M.T.kC (err_run M hr I .nil hz hc q)
/-- isinstance(e, c), e an error of the class at C -/
def rIsO (K : PySem.W.Frag) (C : Addr) : List V → Hp → VK → Prop := fun xs H Q => ∃ (a : Addr) (g : List (Str × V)) (c : V) (cv : Value) (b : Bool), xs = [.ref a, c] ∧ ErrAt C H a g ∧ (∀ u, RelV c u → u = cv) ∧ PySem.W.kitOne K (.ref C) cv = some b ∧ Q (.bl b) H
theorem err_inst {C a : Addr} {H : Hp} {g : List (Str × V)} {pins : List (Addr × Obj)} {σ : L2.St} {s : Shared} (I : Inv X pins σ H s) (h : ErrAt C H a g) : ∃ oe od, PySem.W.InstAt s.heap a oe C od ∧ ∃ vs, oe.data = .fields vs := by
  rcases h with ⟨_, h⟩ | ⟨d, fs, h1, h2, _⟩
  · obtain ⟨t1, ho⟩ := exo_at I.hok h
    exact ⟨_, none, ⟨ho, rfl, rfl, trivial⟩, _, rfl⟩
  · obtain ⟨t1, ho⟩ := exo_at I.hok h1
    obtain ⟨mA, hns, rel⟩ := exd_at I.hok h2
    obtain ⟨od, hod, _⟩ := lookIn_ns hns
    exact ⟨_, some od, ⟨ho, rfl, rfl, hod⟩, _, rfl⟩
theorem call_isO (D : ExcC X.K C) : CallR X (.builtin "isinstance") (rIsO X.K C) := by
  intro pins s σ H xs us Q I r h
  obtain ⟨a, g, c, cv, b, rfl, he, hcv, e, q⟩ := h
  cases r with
  | cons rx rr =>
    cases rr with
    | cons rt rr =>
      cases rr
      cases rx
      have ec := hcv _ rt
      subst ec
      obtain ⟨oe, od, J, _⟩ := err_inst I he
      have hcl : (PySem.W.clsIn X.K C).isSome = true := by
        obtain ⟨cd, hc, _⟩ := PySem.W.any_some D.hd
        rw [hc]; rfl
      exact PySem.W.kia_one (PySem.W.kitx_exc hcl D.hg D.hk D.hs D.ha D.hn D.ht D.hm) I.kIn J e (fun z => nomatch z) fun tk => ⟨.bl b, H, I.kept (t' := tk) fun _ _ z => z, rfl, q⟩
/-- e.f -/
def tEf (K : PySem.W.Frag) (f : Str) (te : TE) : TE := fun σ H Q => te σ H fun x H1 => ∃ (a C : Addr) (g : List (Str × V)) (v : V), x = .ref a ∧ ErrAt C H1 a g ∧ XfC K C ∧ PySem.W.findIn K (.ref C) f = some none ∧ g.lookup f = some v ∧ Q v H1
theorem pe_ef {f : Str} {te : TE} (he : PE X e te) (hb : attributeBase e f X.env (eval e X.env) = eval e X.env := by rfl) : PE X (.Attribute e f pos) (tEf X.K f te) := by
  refine ⟨fun pins s σ H Q I h => ?_⟩
  refine attr_of hb (thn (he.run pins s σ H _ I h) fun u s1 hh => ?_)
  obtain ⟨x, H1, I1, rx, a, C, g, v, rfl, hE, T, hno, l, q⟩ := hh
  obtain rfl : u = Value.ref a := rx
  rcases hE with ⟨rfl, _⟩ | ⟨d, fs, h1, h2, h3⟩
  · cases l
  · obtain ⟨t1, ho⟩ := exo_at I1.hok h1
    obtain ⟨mA, hns, rel⟩ := exd_at I1.hok h2
    obtain ⟨od, hod, hl⟩ := lookIn_ns hns
    have hv := h3 f v l
    obtain ⟨u, hu, ru⟩ := RelO.some_of (v := v) (o := mA f) (by rw [← hv]; exact rel f)
    exact PySem.HandSPX.exc_get I1.kIn (od := some od) (x := a) ⟨ho, rfl, rfl, hod⟩ T.ga T.gg T.exC (PySem.W.findObj_own T.hdC hno rfl (by rw [hl, hu])) (handed_of ru) ⟨v, H1, I1.tok _, ru, q⟩
end
end Ke

namespace Ke
open PySem PySem.Spec PyProof.Rows L2 Kx Kr
/-- a text of few and plain signs -/
def Sht (z : Str) (n : Nat) : Prop := z.length ≤ n ∧ ∀ c ∈ z.cps.toList, c < 1114112
theorem Sht.le {z : Str} {n m : Nat} (h : Sht z n) (hn : n ≤ m) : Sht z m := ⟨Nat.le_trans h.1 hn, h.2⟩
theorem Sht.app {y z : Str} {n m : Nat} (h : Sht y n) (h' : Sht z m) : Sht (y ++ z) (n + m) := by
  refine ⟨?_, fun c hc => ?_⟩
  · have e : (y ++ z).length = y.length + z.length := Array.size_append
    rw [e]
    exact Nat.add_le_add h.1 h'.1
  · have hc' : c ∈ (y.cps ++ z.cps).toList := hc
    rw [Array.toList_append, List.mem_append] at hc'
    exact hc'.elim (h.2 c) (h'.2 c)
theorem Sht.sz {z : Str} {n : Nat} (h : Sht z n) (hn : n ≤ 100000) : z.length ≤ sizeLine := sz9 (Nat.le_trans h.1 hn)
theorem sht_of {z : Str} {n : Nat} (h1 : z.length ≤ n) (h2 : okD (.str z) = true) : Sht z n := by
  refine ⟨h1, fun c hc => ?_⟩
  have h' : z.cps.toList.all (fun c => decide (c < 1114112)) = true := by simpa only [okD] using h2
  exact of_decide_eq_true (List.all_eq_true.mp h' c hc)
theorem Sht.ok {z : Str} {n : Nat} (h : Sht z n) : okD (.str z) = true := by
  have h' : z.cps.toList.all (fun c => decide (c < 1114112)) = true := List.all_eq_true.mpr fun c hc => decide_eq_true (h.2 c hc)
  simpa only [okD] using h'
theorem rep_fold (x : Array Nat) : ∀ (n : Nat) (acc : Array Nat), ((List.replicate n x).foldl (· ++ ·) acc).size = acc.size + n * x.size ∧ ∀ c ∈ ((List.replicate n x).foldl (· ++ ·) acc).toList, c ∈ acc.toList ∨ c ∈ x.toList
  | 0, acc => ⟨by simp, fun c hc => .inl hc⟩
  | n + 1, acc => by
    rw [List.replicate_succ, List.foldl_cons]
    obtain ⟨h1, h2⟩ := rep_fold x n (acc ++ x)
    refine ⟨?_, fun c hc => ?_⟩
    · rw [h1, Array.size_append, Nat.succ_mul]
      omega
    · rcases h2 c hc with h | h
      · rw [Array.toList_append, List.mem_append] at h
        exact h
      · exact .inr h
/-- a text of one sign times a small number -/
def rRepS : R2 := fun x y H Q => ∃ (z : Str) (n : Int), x = .str z ∧ y = .int n ∧ z.length = 1 ∧ (∀ c ∈ z.cps.toList, c < 1114112) ∧ -1000 ≤ n ∧ n ≤ 1000 ∧ ∀ t : Str, Sht t n.toNat → Q (.str t) H
section
variable {X : Cx}
theorem op_repS : OpR X (binaryOp .Mult) rRepS := by
  intro pins s σ H x y v u Q I rx ry h
  obtain ⟨z, n, rfl, rfl, hz, hc, h1, h2, q⟩ := h
  obtain ⟨t, rfl⟩ := rx
  obtain ⟨t', rfl⟩ := ry
  have en : ((n.toNat : Nat) : Int) = n ∨ n < 0 := by omega
  refine PySem.P.mul_str (by rw [decide_eq_false (by omega), decide_eq_false (by omega)]; rfl) (fun hn _ => ?_) (fun hn _ => ?_) ?_
  · have hd : 1 ≤ (2 ^ 63 - 1 : Int) / n := by
      rw [Int.le_ediv_iff_mul_le (by omega)]
      omega
    rw [hz]
    have : ((1 : Nat) : Int) = 1 := rfl
    omega
  · rw [hz]
    exact decide_eq_false (Nat.not_lt.mpr (sz9 (by omega)))
  · by_cases hn : n < 1
    · rw [if_pos hn]
      refine ⟨by decide, .str Str.empty, H, I.tok _, ⟨_, rfl⟩, q _ ⟨Nat.zero_le _, ?_⟩⟩
      show ∀ c ∈ (Str.empty).cps.toList, c < 1114112
      decide +kernel
    · rw [if_neg hn]
      split
      · rename_i h1'
        exact ⟨.str z, H, I, ⟨t, rfl⟩, q _ ⟨by omega, hc⟩⟩
      · obtain ⟨e1, e2⟩ := rep_fold z.cps n.toNat #[]
        have hz' : z.cps.size = 1 := hz
        rw [hz'] at e1
        have e1' : ((List.replicate n.toNat z.cps).foldl (· ++ ·) #[]).size = n.toNat := by
          rw [e1]
          simp
        refine ⟨?_, .str _, H, I.tok _, ⟨_, rfl⟩, q _ ⟨Nat.le_of_eq e1', fun c hm => ?_⟩⟩
        · have hh : ((List.replicate n.toNat z.cps).foldl (· ++ ·) #[]).size ≤ sizeLine := by
            rw [e1']
            exact sz9 (by omega)
          exact hh
        · rcases e2 c hm with h | h
          · simp at h
          · exact hc c h
end
end Ke

/-! names by number, exactly; data of texts and of pairs of texts -/
namespace Kn
open PySem PySem.Spec PyProof.Rows L2 Kx Ke Kr
def repT (c n : Nat) : Str := ⟨(List.replicate n c).toArray⟩
theorem rep_foldl (c : Nat) : ∀ (n : Nat) (acc : Array Nat), (List.replicate n #[c]).foldl (· ++ ·) acc = acc ++ (List.replicate n c).toArray
  | 0, acc => by simp
  | n + 1, acc => by
    rw [List.replicate_succ, List.foldl_cons, rep_foldl c n, List.replicate_succ]
    apply Array.toList_inj.mp
    simp
/-- one sign times a number, exactly -/
def rRepE : R2 := fun x y H Q => ∃ (z : Str) (c : Nat) (n : Int), x = .str z ∧ y = .int n ∧ z.cps = #[c] ∧ -1000 ≤ n ∧ n ≤ 1000 ∧ Q (.str (repT c n.toNat)) H
theorem op_repE {X : Cx} : OpR X (binaryOp .Mult) rRepE := by
  intro pins s σ H x y v u Q I rx ry h
  obtain ⟨z, c, n, rfl, rfl, hz, h1, h2, q⟩ := h
  obtain ⟨t, rfl⟩ := rx
  obtain ⟨t', rfl⟩ := ry
  have hl : z.length = 1 := by show z.cps.size = 1; rw [hz]; rfl
  have hzE : z = ⟨#[c]⟩ := by cases z; cases hz; rfl
  refine PySem.P.mul_str (by rw [decide_eq_false (by omega), decide_eq_false (by omega)]; rfl) (fun hn _ => ?_) (fun hn _ => ?_) ?_
  · have hd : 1 ≤ (2 ^ 63 - 1 : Int) / n := by
      rw [Int.le_ediv_iff_mul_le (by omega)]
      omega
    rw [hl]
    have : ((1 : Nat) : Int) = 1 := rfl
    omega
  · rw [hl]
    exact decide_eq_false (Nat.not_lt.mpr (sz9 (by omega)))
  · by_cases hn : n < 1
    · rw [if_pos hn]
      have e : n.toNat = 0 := by omega
      rw [e] at q
      exact ⟨by decide, .str Str.empty, H, I.tok _, ⟨_, rfl⟩, q⟩
    · rw [if_neg hn]
      split
      · rename_i h1'
        have e : n = 1 := by
          rcases Bool.or_eq_true_iff.mp h1' with h | h
          · exact beq_iff_eq.mp h
          · exact absurd (beq_iff_eq.mp h) (by omega)
        subst e
        rw [hzE]
        exact ⟨.str ⟨#[c]⟩, H, I, ⟨t, rfl⟩, q⟩
      · have e : (⟨(List.replicate n.toNat z.cps).foldl (· ++ ·) #[]⟩ : Str) = repT c n.toNat := by
          rw [hz, rep_foldl]
          unfold repT
          simp
        rw [e]
        refine ⟨?_, .str _, H, I.tok _, ⟨_, rfl⟩, q⟩
        show (List.replicate n.toNat c).toArray.size ≤ sizeLine
        rw [List.size_toArray, List.length_replicate]
        exact sz9 (by omega)
/-! ### the names -/
def A26 : Str := "abcdefghijklmnopqrstuvwxyz"
def oneV (k st : Int) : Nat := A26.cps.toList.getD ((k * 7 + st / 4) % 26).toNat 0
def WS : List Str := ["write", "none", "read", "own", "close", "leads", "program", "to", "begin", "quit"]
def tS (n : Int) : Str := ((toString n : String) : Str)
def baseV (k st : Int) : Str := (⟨#[oneV k st]⟩ : Str) ++ tS (st / 4 % 10000)
def nameV (k st : Int) : Str :=
  if st % 4 = 1 ∧ st / 4 % 2 = 1 then WS.getD (k % 10).toNat "" ++ repT 50 (k / 10).toNat
  else if st % 4 = 3 ∧ st / 4 % 2 = 1 then repT 98 (k / 7).toNat ++ repT 97 (k % 7 + 1).toNat
  else if st % 4 = 1 then repT 113 (k % 3).toNat ++ ⟨#[oneV k st]⟩
  else if st % 4 = 2 then (if k % 4 = 3 then baseV k st ++ repT 120 (8 - ((baseV k st).length : Int)).toNat else baseV k st ++ repT 120 (k % 4).toNat)
  else if st % 4 = 3 then ("m" : Str) ++ tS (100 - 7 * k)
  else ⟨#[oneV k st]⟩
theorem a26_len : A26.cps.toList.length = 26 := by decide +kernel
theorem a26_nd : A26.cps.toList.Nodup := by decide +kernel
theorem a26_lt : ∀ c ∈ A26.cps.toList, c < 1114112 := by decide +kernel
theorem at_26 (k st : Int) : atI A26.cps.toList ((k * 7 + st / 4) % 26) = some (oneV k st) := by
  obtain ⟨j, hj⟩ : ∃ j : Nat, (k * 7 + st / 4) % 26 = (j : Int) := ⟨((k * 7 + st / 4) % 26).toNat, by omega⟩
  have hl : j < A26.cps.toList.length := by rw [a26_len]; omega
  unfold oneV
  rw [hj, Int.toNat_natCast]
  refine atI_nat ?_
  rw [List.getD_eq_getElem?_getD, List.getElem?_eq_getElem hl]
  rfl
theorem nd_inj {l : List Nat} (h : l.Nodup) {i j : Nat} (hi : i < l.length) (hj : j < l.length) (e : l[i] = l[j]) : i = j := by
  rcases Nat.lt_trichotomy i j with g | g | g
  · exact absurd e (List.pairwise_iff_getElem.mp h i j hi hj g)
  · exact g
  · exact absurd e.symm (List.pairwise_iff_getElem.mp h j i hj hi g)
theorem one_inj {k k' st : Int} (h0 : 0 ≤ k) (h1 : k < 16) (h0' : 0 ≤ k') (h1' : k' < 16) (h : oneV k st = oneV k' st) : k = k' := by
  have hl : ((k * 7 + st / 4) % 26).toNat < A26.cps.toList.length := by rw [a26_len]; omega
  have hl' : ((k' * 7 + st / 4) % 26).toNat < A26.cps.toList.length := by rw [a26_len]; omega
  unfold oneV at h
  rw [List.getD_eq_getElem?_getD, List.getD_eq_getElem?_getD, List.getElem?_eq_getElem hl, List.getElem?_eq_getElem hl'] at h
  have e := nd_inj a26_nd hl hl' h
  omega
theorem one_lt (k st : Int) : oneV k st < 1114112 := by
  have hl : ((k * 7 + st / 4) % 26).toNat < A26.cps.toList.length := by rw [a26_len]; omega
  unfold oneV
  rw [List.getD_eq_getElem?_getD, List.getElem?_eq_getElem hl]
  exact a26_lt _ (List.getElem_mem hl)
theorem app_cps (a b : Str) : (a ++ b).cps.toList = a.cps.toList ++ b.cps.toList := by
  show (a.cps ++ b.cps).toList = _
  rw [Array.toList_append]
theorem rep_cps (c n : Nat) : (repT c n).cps.toList = List.replicate n c := by
  unfold repT
  simp
theorem str_ext {a b : Str} (h : a.cps.toList = b.cps.toList) : a = b := by
  cases a
  cases b
  have := Array.toList_inj.mp h
  simp at this
  rw [this]
theorem digits_dig (n : Nat) : ∀ d ∈ Nat.toDigits 10 n, d.isDigit = true := fun d hd => Nat.isDigit_of_mem_toDigits (by decide) (by decide) hd
theorem tS_nat (n : Nat) : (tS (n : Int)).cps.toList = (Nat.toDigits 10 n).map Char.toNat := by
  have e : tS (n : Int) = ⟨((Nat.toDigits 10 n).map Char.toNat).toArray⟩ := text_ofNat n
  rw [e]
/-- the first sign of a number is a digit -/
theorem tS_head (n : Nat) : ∃ c r, (tS (n : Int)).cps.toList = c :: r ∧ 48 ≤ c ∧ c ≤ 57 := by
  rw [tS_nat]
  cases h : Nat.toDigits 10 n with
  | nil =>
    have := Nat.length_toDigits_pos (b := 10) (n := n)
    rw [h] at this
    simp at this
  | cons d r =>
    refine ⟨d.toNat, r.map Char.toNat, rfl, ?_⟩
    have hd := digits_dig n d (by rw [h]; exact List.mem_cons_self)
    simp only [Char.isDigit, Bool.and_eq_true, decide_eq_true_eq] at hd
    obtain ⟨a, b⟩ := hd
    exact ⟨a, b⟩
theorem tS_sht {n : Nat} (h : n < 10 ^ 10) : Sht (tS (n : Int)) 10 := by
  refine ⟨?_, fun c hc => ?_⟩
  · show (tS (n : Int)).cps.size ≤ 10
    rw [← Array.length_toList, tS_nat, List.length_map]
    exact digits10_le (by decide) h
  · rw [tS_nat] at hc
    obtain ⟨d, _, rfl⟩ := List.mem_map.mp hc
    have h2 : d.val.toNat < 0xd800 ∨ (0xdfff < d.val.toNat ∧ d.val.toNat < 0x110000) := d.valid
    show d.val.toNat < 1114112
    omega
/-- finite kinds -/
def ws10 (k : Nat) : Str := WS.getD (k % 10) "" ++ repT 50 (k / 10)
def ba (k : Nat) : Str := repT 98 (k / 7) ++ repT 97 (k % 7 + 1)
def m7 (k : Nat) : Str := ("m" : Str) ++ tS (100 - 7 * (k : Int))
def finB (f : Nat → Str) : Bool := (List.range 16).all fun a => decide ((f a).length ≤ 12) && decide (f a ≠ "zz9") && ((f a).cps.toList.all fun c => decide (c < 1114112)) && (List.range 16).all fun b => decide (f a = f b → a = b)
theorem fin_ws : finB ws10 = true := by decide +kernel
theorem fin_ba : finB ba = true := by decide +kernel
theorem fin_m7 : finB m7 = true := by decide +kernel
theorem fin_of {f : Nat → Str} (h : finB f = true) {a : Nat} (ha : a < 16) : Sht (f a) 12 ∧ f a ≠ "zz9" ∧ ∀ b, b < 16 → f a = f b → a = b := by
  have h1 := List.all_eq_true.mp h a (List.mem_range.mpr ha)
  simp only [Bool.and_eq_true] at h1
  obtain ⟨⟨⟨a1, a2⟩, a3⟩, a4⟩ := h1
  exact ⟨⟨of_decide_eq_true a1, fun c hc => of_decide_eq_true (List.all_eq_true.mp a3 c hc)⟩, of_decide_eq_true a2, fun b hb => of_decide_eq_true (List.all_eq_true.mp a4 b (List.mem_range.mpr hb))⟩
theorem sht_rep {c n : Nat} (h : c < 1114112) : Sht (repT c n) n := by
  refine ⟨?_, fun d hd => ?_⟩
  · show (repT c n).cps.size ≤ n
    rw [← Array.length_toList, rep_cps, List.length_replicate]
    exact Nat.le_refl _
  · rw [rep_cps] at hd
    rw [(List.mem_replicate.mp hd).2]
    exact h
theorem sht_one (k st : Int) : Sht (⟨#[oneV k st]⟩ : Str) 1 := ⟨Nat.le_refl _, fun d hd => by
  have e : d = oneV k st := by simpa using hd
  rw [e]
  exact one_lt k st⟩
theorem base_len (k st : Int) : Sht (baseV k st) 11 := by
  unfold baseV
  obtain ⟨m, hm⟩ : ∃ m : Nat, st / 4 % 10000 = (m : Int) := ⟨(st / 4 % 10000).toNat, by omega⟩
  rw [hm]
  exact (sht_one k st).app (tS_sht (n := m) (by omega))
theorem zz9 : ("zz9" : Str).cps.toList = [122, 122, 57] := by decide +kernel
theorem name_facts {k st : Int} (h0 : 0 ≤ k) (h1 : k < 16) : Sht (nameV k st) 20 ∧ nameV k st ≠ "zz9" ∧ ∀ k', 0 ≤ k' → k' < 16 → nameV k st = nameV k' st → k = k' := by
  obtain ⟨a, rfl⟩ : ∃ a : Nat, k = (a : Int) := ⟨k.toNat, by omega⟩
  have ha : a < 16 := by omega
  unfold nameV
  by_cases c1 : st % 4 = 1 ∧ st / 4 % 2 = 1
  · rw [if_pos c1]
    obtain ⟨f1, f2, f3⟩ := fin_of fin_ws ha
    have e : ∀ b : Nat, WS.getD ((b : Int) % 10).toNat "" ++ repT 50 ((b : Int) / 10).toNat = ws10 b := fun b => by
      unfold ws10
      rw [show ((b : Int) % 10).toNat = b % 10 by omega, show ((b : Int) / 10).toNat = b / 10 by omega]
    rw [e]
    refine ⟨f1.le (by decide), f2, fun k' g0 g1 h => ?_⟩
    obtain ⟨b, rfl⟩ : ∃ b : Nat, k' = (b : Int) := ⟨k'.toNat, by omega⟩
    rw [if_pos c1, e] at h
    have := f3 b (by omega) h
    omega
  rw [if_neg c1]
  by_cases c2 : st % 4 = 3 ∧ st / 4 % 2 = 1
  · rw [if_pos c2]
    obtain ⟨f1, f2, f3⟩ := fin_of fin_ba ha
    have e : ∀ b : Nat, repT 98 ((b : Int) / 7).toNat ++ repT 97 ((b : Int) % 7 + 1).toNat = ba b := fun b => by
      unfold ba
      rw [show ((b : Int) / 7).toNat = b / 7 by omega, show ((b : Int) % 7 + 1).toNat = b % 7 + 1 by omega]
    rw [e]
    refine ⟨f1.le (by decide), f2, fun k' g0 g1 h => ?_⟩
    obtain ⟨b, rfl⟩ : ∃ b : Nat, k' = (b : Int) := ⟨k'.toNat, by omega⟩
    rw [if_neg c1, if_pos c2, e] at h
    have := f3 b (by omega) h
    omega
  rw [if_neg c2]
  by_cases c3 : st % 4 = 1
  · rw [if_pos c3]
    have lt3 : ((a : Int) % 3).toNat ≤ 2 := by omega
    refine ⟨((sht_rep (by decide)).app (sht_one _ _)).le (by omega), fun h => ?_, fun k' g0 g1 h => ?_⟩
    · have h2 := congrArg (fun z : Str => z.cps.toList) h
      simp only [app_cps, rep_cps, zz9] at h2
      match ha3 : ((a : Int) % 3).toNat, lt3 with
      | 0, _ => rw [ha3] at h2; simp at h2
      | 1, _ => rw [ha3] at h2; simp at h2
      | 2, _ => rw [ha3] at h2; simp [List.replicate] at h2
    · rw [if_neg c1, if_neg c2, if_pos c3] at h
      have h2 := congrArg (fun z : Str => z.cps.toList.getLast?) h
      simp only [app_cps] at h2
      have h3 : oneV (a : Int) st = oneV k' st := by simpa using h2
      exact one_inj h0 h1 g0 g1 h3
  rw [if_neg c3]
  by_cases c4 : st % 4 = 2
  · rw [if_pos c4]
    have hb := base_len (a : Int) st
    have hd : ∀ b : Int, (baseV b st).cps.toList.head? = some (oneV b st) := fun b => by
      unfold baseV
      rw [app_cps]
      rfl
    have hz : ∀ x : Str, baseV (a : Int) st ++ x ≠ "zz9" := fun x h => by
      have h2 := congrArg (fun z : Str => z.cps.toList) h
      obtain ⟨m, hm⟩ : ∃ m : Nat, st / 4 % 10000 = (m : Int) := ⟨(st / 4 % 10000).toNat, by omega⟩
      obtain ⟨c, r, e, g1, g2⟩ := tS_head m
      simp only [baseV, app_cps, zz9, hm, e] at h2
      have h3 : c = 122 := by
        simp only [List.cons_append, List.nil_append] at h2
        injection h2 with _ h2
        injection h2 with h2 _
      omega
    have hi : ∀ (k' : Int) (x y : Str), 0 ≤ k' → k' < 16 → baseV (a : Int) st ++ x = baseV k' st ++ y → (a : Int) = k' := fun k' x y g0 g1 h => by
      have h2 := congrArg (fun z : Str => z.cps.toList.head?) h
      simp only [app_cps, List.head?_append, hd] at h2
      exact one_inj h0 h1 g0 g1 (by simpa using h2)
    refine ⟨?_, ?_, fun k' g0 g1 h => ?_⟩
    · split
      · exact (hb.app (sht_rep (c := 120) (by decide))).le (by omega)
      · exact (hb.app (sht_rep (c := 120) (by decide))).le (by omega)
    · split <;> exact hz _
    · rw [if_neg c1, if_neg c2, if_neg c3, if_pos c4] at h
      split at h <;> split at h <;> exact hi _ _ _ g0 g1 h
  rw [if_neg c4]
  by_cases c5 : st % 4 = 3
  · rw [if_pos c5]
    obtain ⟨f1, f2, f3⟩ := fin_of fin_m7 ha
    refine ⟨f1.le (by decide), f2, fun k' g0 g1 h => ?_⟩
    obtain ⟨b, rfl⟩ : ∃ b : Nat, k' = (b : Int) := ⟨k'.toNat, by omega⟩
    rw [if_neg c1, if_neg c2, if_neg c3, if_neg c4, if_pos c5] at h
    have := f3 b (by omega) h
    omega
  · rw [if_neg c5]
    refine ⟨(sht_one _ _).le (by decide), fun h => ?_, fun k' g0 g1 h => ?_⟩
    · have h2 := congrArg (fun z : Str => z.cps.toList) h
      rw [zz9] at h2
      simp at h2
    · rw [if_neg c1, if_neg c2, if_neg c3, if_neg c4, if_neg c5] at h
      have h2 := congrArg (fun z : Str => z.cps.toList) h
      exact one_inj h0 h1 g0 g1 (by simpa using h2)
/-! ### data -/
def tD (zs : List Str) : List PyData := zs.map PyData.str
def kPr (p : Str × Str) : PyData := .tuple [.str p.1, .str p.2]
theorem str_ok {z : Str} {n : Nat} (h : Sht z n) : PyData.strOk z = true := by
  unfold PyData.strOk
  rw [Array.all_eq_true']
  intro c hc
  exact decide_eq_true (h.2 c (by simpa using hc))
theorem eqv_txt (a b : Str) : PyData.eqv (.str a) (.str b) = decide (a = b) := by
  simp only [PyData.eqv]
  by_cases h : a = b
  · rw [h, decide_eq_true rfl]; exact beq_self_eq_true b
  · rw [decide_eq_false h]; exact beq_eq_false_iff_ne.mpr h
theorem eqv_txts : ∀ xs ys : List Str, PyData.eqvAll (tD xs) (tD ys) = decide (xs = ys)
  | [], [] => by simp [tD, PyData.eqvAll]
  | [], y :: ys => by simp [tD, PyData.eqvAll]
  | x :: xs, [] => by simp [tD, PyData.eqvAll]
  | x :: xs, y :: ys => by
    have h := eqv_txts xs ys
    simp only [tD] at h
    simp only [tD, List.map_cons, PyData.eqvAll, h, eqv_txt, List.cons.injEq, Bool.decide_and]
theorem eqv_pr (p q : Str × Str) : PyData.eqv (kPr p) (kPr q) = decide (p = q) := by
  simp only [kPr, PyData.eqv, PyData.eqvAll, Bool.and_true]
  have h1 := eqv_txt p.1 q.1
  have h2 := eqv_txt p.2 q.2
  simp only [PyData.eqv] at h1 h2
  rw [h1, h2, ← Bool.decide_and]
  exact decide_eq_decide.mpr (Prod.ext_iff.symm)
theorem eqv_prs : ∀ xs ys : List (Str × Str), PyData.eqvAll (xs.map kPr) (ys.map kPr) = decide (xs = ys)
  | [], [] => by simp [PyData.eqvAll]
  | [], y :: ys => by simp [PyData.eqvAll]
  | x :: xs, [] => by simp [PyData.eqvAll]
  | x :: xs, y :: ys => by simp only [List.map_cons, PyData.eqvAll, eqv_prs xs ys, eqv_pr, List.cons.injEq, Bool.decide_and]
theorem any_pr (xs : List (Str × Str)) (p : Str × Str) : ((xs.map kPr).any fun z => PyData.eqv z (kPr p)) = decide (p ∈ xs) := by
  rw [Bool.eq_iff_iff, List.any_map, List.any_eq_true, decide_eq_true_iff]
  constructor
  · rintro ⟨y, hy, e⟩
    simp only [Function.comp_apply, eqv_pr, decide_eq_true_eq] at e
    exact e ▸ hy
  · intro h
    exact ⟨p, h, by simp only [Function.comp_apply, eqv_pr, decide_true]⟩
theorem lay_txts : ∀ {xs : List Str} {n : Nat}, (∀ x ∈ xs, Sht x n) → PyData.canLayAll0 (tD xs) = true
  | [], _, _ => rfl
  | x :: xs, n, h => by
    have := lay_txts (xs := xs) (n := n) fun y hy => h y (List.mem_cons_of_mem _ hy)
    simp only [tD] at this
    simp only [tD, List.map_cons, PyData.canLayAll0, PyData.canLay0, str_ok (h x List.mem_cons_self), this]
    decide
theorem dep_txts : ∀ xs : List Str, PyData.depthAll (tD xs) = 0
  | [] => rfl
  | x :: xs => by
    have := dep_txts xs
    simp only [tD] at this
    simp only [tD, List.map_cons, PyData.depthAll, PyData.depth, this, Nat.max_self]
theorem shp_txts {xs : List Str} {n : Nat} (h : ∀ x ∈ xs, Sht x n) : SeqAt.shaped (.list (tD xs)) = true := by
  unfold SeqAt.shaped
  simp only [PyData.canLay0, PyData.depth, lay_txts h, dep_txts, Bool.true_and]
  decide
theorem lay_prs : ∀ {xs : List (Str × Str)} {n : Nat}, (∀ x ∈ xs, Sht x.1 n ∧ Sht x.2 n) → PyData.canLayAll0 (xs.map kPr) = true
  | [], _, _ => rfl
  | x :: xs, n, h => by
    have h1 := h x List.mem_cons_self
    have h2 := lay_prs (xs := xs) (n := n) fun y hy => h y (List.mem_cons_of_mem _ hy)
    simp only [List.map_cons, PyData.canLayAll0, kPr, PyData.canLay0, Bool.and_true]
    rw [str_ok h1.1, str_ok h1.2]
    simpa only [kPr, Bool.true_and] using h2
theorem dep_prs : ∀ xs : List (Str × Str), PyData.depthAll (xs.map kPr) ≤ 1
  | [] => by decide
  | x :: xs => by
    have := dep_prs xs
    simp only [List.map_cons, PyData.depthAll, kPr, PyData.depth] at this ⊢
    omega
theorem shp_prs {xs : List (Str × Str)} {n : Nat} (h : ∀ x ∈ xs, Sht x.1 n ∧ Sht x.2 n) : SeqAt.shaped (.list (xs.map kPr)) = true := by
  unfold SeqAt.shaped
  rw [Bool.and_eq_true]
  refine ⟨by simp only [PyData.canLay0, lay_prs h], decide_eq_true ?_⟩
  have := dep_prs xs
  simp only [PyData.depth]
  omega
theorem shp_pr {p : Str × Str} {n : Nat} (h : Sht p.1 n ∧ Sht p.2 n) : SeqAt.shaped (kPr p) = true := by
  unfold SeqAt.shaped
  simp only [kPr, PyData.canLay0, PyData.canLayAll0, PyData.depth, PyData.depthAll]
  rw [str_ok h.1, str_ok h.2]
  decide
theorem dp_txts {K : PySem.W.Frag} {H : Hp} : ∀ xs : List Str, DpAll K H (xs.map V.str) (tD xs)
  | [] => .nil
  | x :: r => .cons (.str x) (dp_txts r)
end Kn

namespace Kx
open PySem PySem.Spec PyProof.Rows L2 NdefX
section
variable {X : Cx} {CX : CXT} {n : Nat} {C f : Addr} {fd : FuncData} {ps : List Str} {sp : Sp} {E : XK}
/-- an operator between two instances of the class at C, by its own method -/
def rOwn (C : Addr) (sp : Sp) (E : XK) : R2 := fun x y H Q => ∃ a b dx dy fs gs, x = .ref a ∧ y = .ref b ∧ H a = some (.ins C dx fs) ∧ H b = some (.ins C dy gs) ∧ sp [.ref a, .ref b] H Q E
theorem ep_back {pins : List (Addr × Obj)} {σ : L2.St} {Q : VK} {v : Value} {s' : Shared} (h : EP X pins σ Q v s') : PySem.W.CmpBack (EP X pins σ Q) v s' := by
  obtain ⟨x, H', I, r, q⟩ := id h
  cases v with
  | notImplemented =>
    cases x with
    | non => cases (show Value.notImplemented = Value.none from r)
    | bl b => cases (show Value.notImplemented = Value.bool b from r)
    | int i => obtain ⟨t, z⟩ := r; cases z
    | str z => obtain ⟨t, z⟩ := r; cases z
    | byt z => obtain ⟨t, z⟩ := r; cases z
    | flt z => obtain ⟨t, z⟩ := r; cases z
    | ref a => cases (show Value.notImplemented = Value.ref a from r)
    | ty n => cases (show Value.notImplemented = Value.type n from r)
  | _ => exact h
theorem op_ownC {op : CmpOp} (F : FnOk X.prog X.w X.K X.mg X.base CX n f fd ps sp) (hs : PySem.W.findIn X.K (.ref C) (cmpInfo op).2.1 = some (some (.ref f))) (hf : PySem.W.isFn X.K (.ref f) = true) (hb : Binds X.K fd ps []) (hx : Passes CX X E) (hr : Room n X.A)
    (hc : ∀ v u, compareOp op v u = richCompare op v u := by intro _ _; rfl) : OpR X (compareOp op) (rOwn C sp E) := by
  intro pins s σ H x y v u Q I rx ry h
  obtain ⟨a, b, dx, dy, fs, gs, rfl, rfl, ha, hb', q⟩ := h
  cases (show v = Value.ref a from rx)
  cases (show u = Value.ref b from ry)
  obtain ⟨mA, J, _⟩ := ins_get I.hok ha
  obtain ⟨mB, J', _⟩ := ins_get I.hok hb'
  obtain ⟨od, J, _⟩ := J.look
  obtain ⟨od', J', _⟩ := J'.look
  obtain ⟨m, hF⟩ := I.fr
  rw [hc]
  refine PySem.W.cmp_K (op := op) (tb := .ref C) (by have := hr.units; omega) hF I.ok.mod.kin J J'.type (by simp [PySem.W.notFirst]) hs hf ?_
  exact thn (run_fn (us := [.ref a, .ref b]) (vs := [.ref a, .ref b]) (dvs := []) (ds := []) F hr hb .nil hx I (.cons rfl (.cons rfl .nil)) q) fun v s' z => ep_back z
theorem op_ownB {op : Operator} (F : FnOk X.prog X.w X.K X.mg X.base CX n f fd ps sp) (hs : PySem.W.findIn X.K (.ref C) (PySem.dunder op.info.2) = some (some (.ref f))) (hf : PySem.W.isFn X.K (.ref f) = true) (hsf : PySem.W.selfFirst X.K C = true) (hb : Binds X.K fd ps []) (hx : Passes CX X E) (hr : Room n X.A) :
    OpR X (binaryOp op) (rOwn C sp E) := by
  intro pins s σ H x y v u Q I rx ry h
  obtain ⟨a, b, dx, dy, fs, gs, rfl, rfl, ha, hb', q⟩ := h
  cases (show v = Value.ref a from rx)
  cases (show u = Value.ref b from ry)
  obtain ⟨mA, J, _⟩ := ins_get I.hok ha
  obtain ⟨mB, J', _⟩ := ins_get I.hok hb'
  obtain ⟨od, J, _⟩ := J.look
  obtain ⟨od', J', _⟩ := J'.look
  obtain ⟨m, hF⟩ := I.fr
  refine PySem.W.binop_K hF I.ok.mod.kin J J'.type hsf hs hf ?_
  exact thn (run_fn (us := [.ref a, .ref b]) (vs := [.ref a, .ref b]) (dvs := []) (ds := []) F hr hb .nil hx I (.cons rfl (.cons rfl .nil)) q) fun v s' z => ep_back z
end
/-! ### isinstance of a caught error that has its own dict -/
section
variable {X : Cx}
/-- isinstance(e, c), e the caught exception at a of the class at D, its dict at d -/
def rIsD (K : PySem.W.Frag) (D a d : Addr) : List V → Hp → VK → Prop := fun xs H Q => ∃ (c : V) (cv : Value) (fs : List (Str × V)) (b : Bool), xs = [.ref a, c] ∧ H d = some (.xd fs) ∧ (∀ u, RelV c u → u = cv) ∧ PySem.W.kitOne K (.ref D) cv = some b ∧ Q (.bl b) H
theorem call_isD {a D d : Addr} {oe : Obj} {pn : List (Addr × Obj)} (C : ExcC X.K D) (hz : Zc (.ref D) (some d) oe) (hf : ∃ vs, oe.data = .fields vs) : CallR (X.suite a ((a, oe) :: pn)) (.builtin "isinstance") (rIsD X.K D a d) := by
  intro pins s σ H xs us Q I r h
  obtain ⟨c, cv, fs, b, rfl, ed, hcv, e, q⟩ := h
  cases r with
  | cons rx rr =>
    cases rr with
    | cons rt rr =>
      cases rr
      cases rx
      have ec := hcv _ rt
      subst ec
      obtain ⟨hget, _⟩ := I.pin (a, oe) (List.mem_append.mpr (.inl List.mem_cons_self))
      obtain ⟨vs, hv⟩ := hf
      have hx : ObjOk X.prog X.w H s.heap d (.xd fs) := I.hok d _ ed
      obtain ⟨mA, hns, hr⟩ := hx
      obtain ⟨od, ho, hl⟩ := lookIn_ns hns
      have J : PySem.W.InstAt s.heap a oe D (some od) := ⟨hget, hz.1, by unfold PySem.W.notCls; rw [hv] <;> rfl, by rw [hz.2]; exact ho⟩
      have hcl : (PySem.W.clsIn X.K D).isSome = true := by
        obtain ⟨cd, hc, _⟩ := PySem.W.any_some C.hd
        rw [hc]; rfl
      exact PySem.W.kia_one (PySem.W.kitx_exc hcl C.hg C.hk C.hs C.ha C.hn C.ht C.hm) I.kIn J e (fun z => nomatch z) fun tk => ⟨.bl b, H, I.kept (t' := tk) fun _ _ z => z, rfl, q⟩
end
end Kx

set_option maxHeartbeats 8000000
/-! sorted(set(xs)), xs a list of texts: what a set of texts holds, exactly -/
namespace Kz
open PySem PySem.Spec PyProof.Rows L2
def txK (e : Int × Value) : Str := match e.2 with
  | .str k _ => k
  | _ => Str.empty
def TxE (P : Program) (w : World) (e : Int × Value) : Prop := ∃ (k : Str) (tk : Tok), e.2 = Value.str k tk ∧ e.1 = (strKind P w).hash k
/-- one more text into what was met -/
def sdz (l : List Str) (v : Str) : List Str := if v ∈ l then l else l ++ [v]
def metz (ys : List Str) : List Str := ys.foldl sdz []
theorem sdz_nd {l : List Str} {v : Str} (h : l.Nodup) : (sdz l v).Nodup := by
  unfold sdz
  split
  · exact h
  · rename_i hv
    rw [List.nodup_append]
    refine ⟨h, by simp, fun a ha b hb e => ?_⟩
    rw [List.mem_singleton.mp hb] at e
    exact hv (e ▸ ha)
theorem sdz_mem {l : List Str} {v z : Str} : z ∈ sdz l v ↔ z ∈ l ∨ z = v := by
  unfold sdz
  split
  · rename_i hv
    exact ⟨.inl, fun h => h.elim id fun e => e ▸ hv⟩
  · rw [List.mem_append, List.mem_singleton]
theorem metz_fold : ∀ (ys l : List Str), l.Nodup → (ys.foldl sdz l).Nodup ∧ (∀ z, z ∈ ys.foldl sdz l ↔ z ∈ l ∨ z ∈ ys) ∧ (ys.foldl sdz l).length ≤ l.length + ys.length
  | [], l, h => ⟨h, fun z => by simp, Nat.le_refl _⟩
  | v :: ys, l, h => by
    obtain ⟨a, b, c⟩ := metz_fold ys (sdz l v) (sdz_nd h)
    rw [List.foldl_cons]
    refine ⟨a, fun z => ?_, ?_⟩
    · rw [b z, sdz_mem, List.mem_cons, or_assoc]
    · have : (sdz l v).length ≤ l.length + 1 := by
        unfold sdz
        split
        · omega
        · rw [List.length_append]; exact Nat.le_refl _
      rw [List.length_cons]
      omega
theorem metz_nd (ys : List Str) : (metz ys).Nodup := (metz_fold ys [] (by simp)).1
theorem metz_mem (ys : List Str) (z : Str) : z ∈ metz ys ↔ z ∈ ys := by
  have := (metz_fold ys [] (by simp)).2.1 z
  simpa [metz] using this
theorem metz_len (ys : List Str) : (metz ys).length ≤ ys.length := by
  have := (metz_fold ys [] (by simp)).2.2
  simpa [metz] using this
theorem metz_succ {ys : List Str} {i : Nat} {v : Str} (h : ys[i]? = some v) : metz (ys.take (i + 1)) = sdz (metz (ys.take i)) v := by
  unfold metz
  rw [List.take_add_one, h, List.foldl_append]
  rfl
/-- what stands in the table of a set of texts -/
structure Tb (P : Program) (w : World) (ks : List Str) (es : Array (Int × Value)) (t : SetTable) : Prop where
  each : ∀ e ∈ es.toList, TxE P w e
  perm : (es.toList.map txK).Perm ks
  nd : ks.Nodup
  few : es.size < scanBound
  fit : t.fits es.size = true
  ris : Ris t.place.toList
  led : w.params.followText "set-order" = true ∨ t.led = true
def XSet (P : Program) (w : World) (h : Heap) (a : Addr) (ks : List Str) : Prop := ∃ o es ep t, h.get? a = some o ∧ o.ExactSet ∧ o.data = .set es ep t ∧ Tb P w ks es t
section
variable {P : Program} {w : World} {A : Around} {E : Value → Shared → Prop} {s : Shared} {a : Addr}
theorem txe_is {e : Int × Value} (g : TxE P w e) (k : Str) : (strKind P w).is k e.2 = true ↔ txK e = k := by
  obtain ⟨k0, tk, h1, _⟩ := g
  have h2 : (strKind P w).is k0 e.2 = true := by rw [h1]; exact strKind_is P w k0 tk
  have h3 : txK e = k0 := by unfold txK; rw [h1]
  rw [KeyKind.is_eq_decide h2 k, h3, decide_eq_true_iff]
  exact eq_comm
theorem Tb.elems {ks : List Str} {es : Array (Int × Value)} {t : SetTable} (b : Tb P w ks es t) : ElemsOf (strKind P w) es.toList := fun e he => by
  obtain ⟨k, tk, g1, g2⟩ := b.each e he
  exact ⟨⟨k, by rw [g1]; exact strKind_is P w k tk, g2⟩, by rw [g1]; rfl⟩
theorem Tb.size {ks : List Str} {es : Array (Int × Value)} {t : SetTable} (b : Tb P w ks es t) : es.size = ks.length := by
  rw [← Array.length_toList, ← b.perm.length_eq, List.length_map]
theorem put_at {h : Heap} {o : Obj} {es es' : Array (Int × Value)} {ep : Nat} {t t' : SetTable} (ho : h.get? a = some o) (hd : o.data = .set es ep t) :
    (h.update a (Obj.putSet es' t')).get? a = some { o with data := .set es' (ep + 1) t' } := by
  have z := Heap.get?_update_self (Obj.putSet es' t') ho (by rw [putSet_of es' t' hd]; rfl)
  rwa [putSet_of es' t' hd] at z
/-- the end of an addition: the table may be laid anew -/
theorem x_tail {ru : Bool → Sem Unit} (hru : ∀ (b : Bool) (s1 : Shared) (R' : Unit → Shared → Prop), R' () s1 → wpAny (model P w) A (ru b) R' E s1)
    {o : Obj} {es : Array (Int × Value)} {ep : Nat} {t : SetTable} (ho : s.heap.get? a = some o) (hx : o.ExactSet) (hd : o.data = .set es ep t)
    {fs : Array (Int × Value)} {u : SetTable} {ks : List Str} (b : Tb P w ks fs u) {dm : Bool} {R : Option Bool → Shared → Prop}
    (hR : ∀ h', Heap.SameBut a s.heap h' → XSet P w h' a ks → R (some true) { s with heap := h' }) :
    wpAny (model P w) A (do
        storeSet a fs u
        if (!dm && u.tooFull) = true then do
            ru (relayAll u fs (SetTable.grown fs.size)).2.2
            storeSet a (relayAll u fs (SetTable.grown fs.size)).1 (relayAll u fs (SetTable.grown fs.size)).2.1
            pure (some true)
          else pure (some true)) R E s := by
  refine wpAny_bind (wpAny_storeSet_of ho hd ?_ (fits_of_scanBound b.few))
  have o1 := put_at (es' := fs) (t' := u) ho hd
  have same1 := Heap.SameBut.update s.heap a (Obj.putSet fs u)
  split
  · have q1 := relayAll_perm u fs (SetTable.grown fs.size)
    have q2 := relayAll_fits u fs (SetTable.grown fs.size)
    have q3 := relayAll_ris u fs (SetTable.grown fs.size)
    have q4 := relayAll_led u fs (SetTable.grown fs.size)
    generalize relayAll u fs (SetTable.grown fs.size) = Y at q1 q2 q3 q4 ⊢
    obtain ⟨gs, v, wh⟩ := Y
    dsimp only at q1 q2 q3 q4 ⊢
    have sz : gs.size = fs.size := by rw [← Array.length_toList, q1.length_eq, Array.length_toList]
    have b2 : Tb P w ks gs v := ⟨fun e he => b.each e (q1.mem_iff.mp he), (q1.map txK).trans b.perm, b.nd, by rw [sz]; exact b.few, by rw [sz]; rw [← sz]; exact q2, q3, b.led.imp id fun z => by rw [q4]; exact z⟩
    refine wpAny_bind (hru _ _ _ ?_)
    refine wpAny_bind (wpAny_storeSet_of o1 rfl ?_ (fits_of_scanBound b2.few))
    exact wpAny_pure (hR _ (same1.trans (Heap.SameBut.update _ a _)) ⟨_, gs, _, v, put_at (es' := gs) (t' := v) o1 rfl, hx, rfl, b2⟩)
  · exact wpAny_pure (hR _ same1 ⟨_, fs, _, u, o1, hx, rfl, b⟩)
theorem x_add {x : Str} {tx : Tok} {ks : List Str} {Q : Bool → Shared → Prop} (R : XSet P w s.heap a ks) (room : ks.length + 1 < scanBound)
    (hQ : ∀ (c : Bool) h', Heap.SameBut a s.heap h' → XSet P w h' a (sdz ks x) → Q c { s with heap := h' }) :
    wpAny (model P w) A (setAddHashed a (.str x tx) ((strKind P w).hash x)) Q E s := by
  obtain ⟨o, es, ep, t, ho, hx, hd, b⟩ := R
  have key : (strKind P w).is x (.str x tx) = true := strKind_is P w x tx
  have scn : (Value.str x tx).scannable = true := rfl
  have el := b.elems
  unfold setAddHashed setAddHashedIn
  refine wpAny_holding (wpAny_bind (wpAny_setState_of ho hd b.fit ?_))
  dsimp only
  rw [byScan_of scn b.few el]
  simp only [↓reduceIte]
  unfold setAddByScan
  refine wpAny_bind ?_
  refine wpAny_bind (wpAny_rule ?_)
  refine wpAny_bind (wpAny_setScan_of key ho hd b.fit el ?_)
  cases fi : List.findIdx? (fun e => (strKind P w).is x e.2) es.toList with
  | some j =>
    dsimp only
    obtain ⟨hj, pj, _⟩ := List.findIdx?_eq_some_iff_getElem.mp fi
    have mx : x ∈ ks := b.perm.mem_iff.mp (List.mem_map.mpr ⟨_, List.getElem_mem hj, (txe_is (b.each _ (List.getElem_mem hj)) x).mp pj⟩)
    refine wpAny_pure (wpAny_pure ?_)
    exact hQ _ s.heap (Heap.SameBut.refl a s.heap) ⟨o, es, ep, t, ho, hx, hd, by rw [sdz, if_pos mx]; exact b⟩
  | none =>
    dsimp only
    have nx : x ∉ ks := fun z => by
      obtain ⟨e, he, ee⟩ := List.mem_map.mp (b.perm.mem_iff.mpr z)
      have c := List.findIdx?_eq_none_iff.mp fi e he
      rw [(txe_is (b.each e he) x).mpr ee] at c
      cases c
    have ruw : ∀ (c : Bool) {s1 : Shared} {R' : Unit → Shared → Prop}, R' () s1 → wpAny (model P w) A (match c with | true => rule "set.scan.the-table-gave-way" | false => pure ()) R' E s1 :=
      fun c s1 R' z => by cases c <;> first | exact wpAny_pure z | exact wpAny_rule z
    have l1 := layNew_perm t es ((strKind P w).hash x) (.str x tx)
    have l2 := layNew_fits t es ((strKind P w).hash x) (.str x tx)
    have l3 := layNew_ris t es ((strKind P w).hash x) (.str x tx) b.ris
    have l4 := layNew_led t es ((strKind P w).hash x) (.str x tx)
    generalize layNew t es ((strKind P w).hash x) (.str x tx) = Y at l1 l2 l3 l4 ⊢
    obtain ⟨fs, u, dm, gv⟩ := Y
    dsimp only at l1 l2 l3 l4 ⊢
    rw [Array.toList_push] at l1
    have pc : fs.toList.Perm (((strKind P w).hash x, Value.str x tx) :: es.toList) := l1.trans (List.perm_append_singleton _ _)
    have esz : fs.size = ks.length + 1 := by rw [← Array.length_toList, pc.length_eq, List.length_cons, Array.length_toList, b.size]
    have b0 : ∀ u' : SetTable, u'.fits fs.size = true → Ris u'.place.toList → u'.led = t.led → Tb P w (sdz ks x) fs u' := fun u' f1 f2 f3 => by
      refine ⟨fun e he => ?_, ?_, sdz_nd b.nd, by rw [esz]; exact room, f1, f2, b.led.imp id fun z => by rw [f3]; exact z⟩
      · rcases List.mem_cons.mp (pc.mem_iff.mp he) with z | z
        · rw [z]; exact ⟨x, tx, rfl, rfl⟩
        · exact b.each e z
      · rw [sdz, if_neg nx]
        refine (pc.map txK).trans ?_
        rw [List.map_cons]
        exact (List.Perm.cons x b.perm).trans (List.perm_append_singleton x ks).symm
    refine wpAny_bind (ruw _ ?_)
    split
    · refine wpAny_bind ?_
      rw [hashByValue_scannable 8 scn]
      refine wpAny_pure ?_
      refine x_tail (fun c s1 R' z => by cases c <;> first | exact wpAny_pure z | exact wpAny_rule z) ho hx hd (b0 _ ?_ ?_ ?_) fun h' sb r => ?_
      · first | (split <;> first | exact l2 | exact SetTable.fits_plain_off l2) | exact l2
      · first | (split <;> exact l3) | exact l3
      · first | (split <;> exact l4) | exact l4
      · dsimp only; exact wpAny_pure (hQ _ h' sb r)
    · refine wpAny_bind (wpAny_pure ?_)
      simp only [↓reduceIte]
      refine x_tail (fun c s1 R' z => by cases c <;> first | exact wpAny_pure z | exact wpAny_rule z) ho hx hd (b0 _ l2 l3 l4) fun h' sb r => ?_
      dsimp only; exact wpAny_pure (hQ _ h' sb r)
end
end Kz

namespace Kz
open PySem PySem.Spec PyProof.Rows L2
section
variable {P : Program} {w : World} {A : Around} {E : Value → Shared → Prop} {R : Result → Shared → Prop} {I : Addr} {fp wr : List Addr} {G : Array GenState → Array GenState → Prop} {n : Nat} {Pv : Nat → Value → Prop} {St : Nat → Shared → Prop}
theorem XSet.at {h h' : Heap} {a : Addr} {ks : List Str} (x : XSet P w h a ks) (k : ∀ o, h.get? a = some o → h'.get? a = some o) : XSet P w h' a ks := by
  obtain ⟨o, es, ep, t, ho, r⟩ := x
  exact ⟨o, es, ep, t, k o ho, r⟩
theorem x_loop (W : WalksS P w A.in1 I fp wr G n Pv St) (S : Addr) (hS : S ∉ fp) (ys : List Str) (hy : ys.length = n) (hv : ∀ i v, Pv i v → ∃ (x : Str) (t : Tok), ys[i]? = some x ∧ v = .str x t) (hb : n + 1 < scanBound) :
    ∀ (m i : Nat) (s : Shared), n - i = m → i ≤ n → St i s → XSet P w s.heap S (metz (ys.take i)) →
      (∀ s2, Moved (S :: wr) G s s2 → XSet P w s2.heap S (metz ys) → R (.ok (.ret .none)) s2) → codeAny (model P w) A (.builtin "set.update.loop" ⟨[.ref S, .ref I], []⟩) R s := by
  have off : S ∉ wr := fun z => hS (W.sub _ z)
  have more : ∀ b ∈ wr, b ∈ S :: wr := fun b z => List.mem_cons_of_mem _ z
  intro m
  induction m with
  | zero =>
    intro i s hm hi st x hR
    obtain rfl : i = n := by omega
    rw [show ys.take i = ys by rw [← hy, List.take_length]] at x
    refine codeAny_builtin PyProof.Rows.F.entry_set_update_loop ?_
    rw [Around.under_plainId PyProof.Rows.F.plain_set_update_loop _]
    show wpAny _ A.in1 (pyNext (.ref I) >>= _) _ _ s
    refine wpAny_bind (W.done s _ _ st fun s2 mv => ?_)
    show wpAny _ A.in1 (ret Value.none) _ _ s2
    exact wpAny_pure (hR s2 (mv.mono more) (x.at fun o e => mv.heap S o off e))
  | succ m ih =>
    intro i s hm hi st x hR
    have lt : i < n := by omega
    refine codeAny_builtin PyProof.Rows.F.entry_set_update_loop ?_
    rw [Around.under_plainId PyProof.Rows.F.plain_set_update_loop _]
    show wpAny _ A.in1 (pyNext (.ref I) >>= _) _ _ s
    refine wpAny_bind (W.item i s _ _ lt st fun v s2 hP st2 mv => ?_)
    obtain ⟨z, t, hz, rfl⟩ := hv i v hP
    have x2 : XSet P w s2.heap S (metz (ys.take i)) := x.at fun o e => mv.heap S o off e
    show wpAny _ A.in1 (holding [Value.str z t] (setAdd S (.str z t)) >>= _) _ _ s2
    refine wpAny_bind (wpAny_holding ?_)
    unfold setAdd
    refine wpAny_holding ?_
    refine wpAny_bind ((strKind P w).pyHash (k := z) (strKind_is _ _ _ _) ?_)
    have room : (metz (ys.take i)).length + 1 < scanBound := by
      have := metz_len (ys.take i)
      rw [List.length_take] at this
      omega
    refine x_add (s := { s2 with toks := s2.toks + 1 }) x2 room fun c h' sb x3 => ?_
    rw [← metz_succ hz] at x3
    refine wpAny_pure ⟨plainId_quiet PyProof.Rows.F.plain_set_update_loop _, ih (i + 1) _ (by omega) lt (W.frame _ s2 _ _ st2 (Nat.le_succ _) fun b q o e => ?_) x3 fun s3 mv3 x4 => ?_⟩
    · rw [sb.2 b (fun e1 : b = S => hS (by rw [← e1]; exact q))]
      exact e
    · refine hR s3 (Moved.trans W.gtrans ((mv.mono more).then_heap (Nat.le_succ _) fun b o q e => ?_) mv3) x4
      rw [sb.2 b (fun e1 : b = S => q (by rw [e1]; exact List.mem_cons_self))]
      exact e
end
end Kz
namespace PySem
section
variable {prog : Program} {w : World} {A : Around} {E : Value → Shared → Prop} {s : Shared}
abbrev bareSetZ (led : Bool) : Obj := { cls := .type "set", dict := none, data := .set #[] 0 (.fresh 0 0 led) }
theorem x_fresh {h : Heap} {a : Addr} (e : h.get? a = some (bareSetZ (!w.params.followText "set-order"))) : Kz.XSet prog w h a [] := by
  have tb : Kz.Tb prog w [] #[] (.fresh 0 0 (!w.params.followText "set-order")) := by
    refine ⟨fun z hz => by simp at hz, List.Perm.refl _, by simp, by decide, by rfl, List.Pairwise.nil, ?_⟩
    show _ ∨ (!w.params.followText "set-order") = true
    cases w.params.followText "set-order" with
    | true => exact .inl rfl
    | false => exact .inr rfl
  exact ⟨_, #[], 0, _, e, ⟨rfl, rfl, rfl⟩, rfl, tb⟩
theorem set_of_lst {l : Addr} {items : Array Value} {ys : List Str} {Q : Value → Shared → Prop} (hh : A.handled = none) (hl : s.heap.IsList l items) (hy : ys.length = items.size) (hi : ∀ (i : Nat) (v : Value), items[i]? = some v → ∃ (x : Str) (t : Tok), ys[i]? = some x ∧ v = .str x t) (hb : items.size + 1 < scanBound)
    (h : ∀ (h' : Heap) (tk : Nat), Kz.XSet prog w h' s.heap.objs.size (Kz.metz ys) → (∀ b o, b < s.heap.objs.size → s.heap.get? b = some o → h'.get? b = some o) → Q (.ref s.heap.objs.size) { s with heap := h', toks := tk }) :
    wpAny (model prog w) A (call (.type "set") [.ref l]) Q E s := by
  have a1 := F.called_set.notType; have a2 := F.called_set.canCreate; have a3 := F.typeCall_set_1 (.ref l); have a4 := F.called_set.made; have a5 := F.called_set.sub
  obtain ⟨c, tl, hmro⟩ := F.called_set.mro
  refine wpAny_call (codeAny_of_tree ?_); show wpAny _ _ (callAny (.type "set") _) _ _ _
  refine wpAny_pure ⟨Code.quiet_builtin _ (by decide +kernel), ?_⟩; refine codeAny_builtin F.entry_type_call ?_; rw [Around.under_plain (weight_type_call_type "set" [.ref l] []) rfl]
  repeat (any_goals (first | assumption | wp_step))
  refine codeAny_mono (L2.code_set_led1 (.ref l) (E := E) (Q₁ := fun obj s1 => obj = .ref s.heap.objs.size ∧ s1 = { s with heap := s.heap.push (bareSetZ (!w.params.followText "set-order")) }) ⟨rfl, rfl⟩) fun r s1 hr => ?_
  cases r with
  | error e => exact hr
  | ok fl =>
    cases fl with
    | ret obj =>
      obtain ⟨rfl, rfl⟩ := hr
      have hS : (s.heap.push (bareSetZ (!w.params.followText "set-order"))).get? s.heap.objs.size = some (bareSetZ (!w.params.followText "set-order")) := Heap.get?_push_size _ rfl
      have hT : Shared.TypeIs { s with heap := s.heap.push (bareSetZ (!w.params.followText "set-order")) } (.ref s.heap.objs.size) "set" := ⟨_, hS, rfl⟩
      have b1 := F.called_set.init.lookup; have b2 := F.called_set.init.bind (.ref s.heap.objs.size)
      repeat (any_goals (first | assumption | wp_step))
      refine codeAny_mono (codeAny_call_builtin (R := wants (fun r s2 => r = .none ∧ ∃ h' tk, s2 = { s with heap := h', toks := tk } ∧ Kz.XSet prog w h' s.heap.objs.size (Kz.metz ys) ∧
          (∀ b o, b < s.heap.objs.size → s.heap.get? b = some o → h'.get? b = some o)) E) F.called_set.init.plain F.entry_set_init (check_set_init_1 hT ?_)) fun r2 s2 hr2 => ?_
      · obtain ⟨ol, hol, hcl, nl, hdl⟩ := hl
        obtain ⟨ocls, odict, odata, oslots⟩ := ol
        simp only at hcl hdl; subst hcl; subst hdl
        have hol' : (s.heap.push (bareSetZ (!w.params.followText "set-order"))).get? l = some { cls := .type "list", dict := odict, data := .seq items nl, slots := oslots } := Heap.get?_push_of_some _ hol
        have d1 := F.sub_list_set; have d2 := F.sub_list_frozenset
        have d3 : (Value.type "list" == Value.type "dict") = false := by decide
        have tp : (s.heap.push (bareSetZ (!w.params.followText "set-order"))).IsList l items := ⟨_, hol', rfl, nl, rfl⟩
        unfold Builtin.«set.__init__» noKeywords Builtin.Frozenset.updateFrom; generalize hPI : pyIter = PI
        wp_walk
        subst hPI
        refine wpAny_pyIter_list tp ?_; refine wpAny_bind (wpAny_runValue ?_)
        have lS : l < s.heap.objs.size := Heap.lt_size hol
        have h3 : A.in1.in1.in1.handled = none := by simp [hh]
        have ne1 : l ≠ (s.heap.push (bareSetZ (!w.params.followText "set-order"))).objs.size := by
          rw [Heap.size_push]; exact Nat.ne_of_lt (Nat.lt_succ_of_lt lS)
        have no1 : s.heap.objs.size ∉ [(s.heap.push (bareSetZ (!w.params.followText "set-order"))).objs.size, l] := by
          rw [Heap.size_push]; simp only [List.mem_cons, List.mem_singleton, List.not_mem_nil, or_false, not_or]; exact ⟨Nat.ne_of_lt (Nat.lt_succ_self _), Nat.ne_of_gt lS⟩
        refine Kz.x_loop ((Walks.list h3 _ l ne1 items).toS) s.heap.objs.size no1 ys hy hi hb (items.size - 0) 0 _ (by omega) (Nat.zero_le _) ⟨⟨_, Heap.get?_push_size _ rfl, rfl, rfl⟩, (tp.push _)⟩ ?hS0 ?hR
        case hS0 => exact x_fresh (Heap.get?_push_of_some _ hS)
        case hR =>
          intro s' mv hS'
          obtain ⟨h', g', d', tk', os'⟩ := s'
          have eg : g' = s.gens := mv.gens; have ed : d' = s.drawn := mv.drawn; have eo : os' = s.os := mv.os
          subst eg; subst ed; subst eo
          show wpAny _ _ _ _ _ _
          refine wpAny_pure ?_; show wpAny _ _ (ret Value.none) _ _ _
          refine wpAny_pure ⟨rfl, h', tk', rfl, hS', fun b o lt e => ?_⟩
          have n2 : b ≠ (s.heap.push (bareSetZ (!w.params.followText "set-order"))).objs.size := by
            rw [Heap.size_push]; exact Nat.ne_of_lt (Nat.lt_succ_of_lt lt)
          exact mv.heap b o (by simp only [List.mem_cons, List.mem_singleton, List.not_mem_nil, or_false, not_or]; exact ⟨Nat.ne_of_lt lt, n2⟩) (Heap.get?_push_of_some _ (Heap.get?_push_of_some _ e))
      · cases r2 with
        | error e => exact hr2
        | ok fl2 =>
          cases fl2 with
          | ret r =>
            obtain ⟨rfl, h', tk, rfl, hS', hk'⟩ := hr2
            repeat (any_goals (first | assumption | wp_step))
            exact h _ _ hS' hk'
          | _ => exact hr2.elim
    | _ => exact hr.elim
end
end PySem

namespace Kz
open PySem PySem.Spec PyProof.Rows L2
theorem strs_are : ∀ (vs : List Value), (∀ v ∈ vs, ∃ (k : Str) (t : Tok), v = Value.str k t) → ∃ ss : List Str, StrsAre vs ss ∧ ss = vs.map fun v => txK (0, v)
  | [], _ => ⟨[], .nil, rfl⟩
  | v :: vs, h => by
    obtain ⟨k, t, rfl⟩ := h v List.mem_cons_self
    obtain ⟨ss, a, b⟩ := strs_are vs fun u hu => h u (List.mem_cons_of_mem _ hu)
    exact ⟨k :: ss, .cons k t a, by rw [List.map_cons, ← b]; rfl⟩
section
variable {P : Program} {w : World} {A : Around} {E : Value → Shared → Prop} {s : Shared} {a : Addr}
theorem sorted_x {ks : List Str} {Q : Value → Shared → Prop} (R : XSet P w s.heap a ks) (hh : A.handled = none) (few : ks.length < 64)
    (hQ : ∀ s' p (out : Array Value) (c : Nat) (ns : List Str), (∀ b o, s.heap.get? b = some o → s'.heap.get? b = some o) → s'.gens = s.gens → s'.os = s.os → s.heap.objs.size ≤ p →
      s'.heap.get? p = some (seqObj "list" out c) → StrsAre out.toList ns → ns.Perm ks → sortedS ns = true → Q (.ref p) s') :
    wpAny (model P w) A (call (.builtin "sorted") [.ref a]) Q E s := by
  obtain ⟨o, es, ep, t, ho, hx, hd, b⟩ := R
  refine Calls.call_function_entry kind_sorted plain_sorted entry_sorted (args_sorted1 _) ?_
  unfold Builtin.«sorted»
  refine wpAny_bind (m := checkCount "sorted" 1 1 _) (wpAny_pure ?_)
  refine wpAny_bind (collect_set (A := A.in1) hh ⟨o, ho, hx.1, hd⟩ b.fit b.few b.ris b.led fun s1 vs k1 hz g1 o1 pm => ?_)
  have ev : ∀ v ∈ vs, ∃ (k : Str) (t : Tok), v = Value.str k t := fun v hv => by
    obtain ⟨e, he, q⟩ := List.mem_map.mp (pm.mem_iff.mp hv)
    obtain ⟨k, tk, h1, _⟩ := b.each e he
    exact ⟨k, tk, by rw [← q]; exact h1⟩
  obtain ⟨ss, hS, ess⟩ := strs_are vs ev
  have pk : ss.Perm ks := by
    rw [ess]
    refine (pm.map fun v => txK (0, v)).trans ?_
    rw [List.map_map]
    exact b.perm
  have vl : vs.length < 64 := by rw [← List.length_map (f := fun v => txK (0, v)), ← ess, pk.length_eq]; exact few
  refine wpAny_bind (wpAny_newList ?_ (by rw [sizeLine_eq]; omega))
  have oL : (s1.heap.push (seqObj "list" vs.toArray 0)).get? s1.heap.objs.size = some (seqObj "list" vs.toArray 0) := Heap.get?_push_size _ rfl
  refine wpAny_bind (wpAny_holding (wpAny_call_entry slot_list_sort ⟨_, oL, rfl⟩ entry_list_sort
    (list_sort_treeK strKind_oneLt oL hS.keysOf (fun v1 v2 rest e => keyKind_strs (by rw [← e]; exact hS)) vl fun st a1 a2 => ⟨_, rfl, ?_⟩) (args_list_sort _)))
  obtain ⟨ns, n1, n2, n3⟩ := sorted_out_str hS a1 a2
  obtain ⟨c, hc⟩ := sortedHeap_at (vs := vs) (out := (arrOf st).map (·.2)) oL
  refine wpAny_pure ⟨_, rfl, hQ _ s1.heap.objs.size _ c ns (fun b u e => ?_) g1 o1 hz hc n1 (n2.trans pk) n3⟩
  have q := k1 b u e
  have lt := Heap.lt_size q
  show (sortedHeap (s1.heap.push (seqObj "list" vs.toArray 0)) s1.heap.objs.size vs _).get? b = some u
  rw [sortedHeap_old (Nat.ne_of_lt lt) (by rw [size_push']; exact Nat.lt_succ_of_lt lt)]
  exact Heap.get?_push_of_some _ q
end
section
variable {X : Cx}
theorem txt_at : ∀ {ys : List Str} {its : List Value}, Vals (ys.map V.str) its → ∀ (i : Nat) (v : Value), its[i]? = some v → ∃ (x : Str) (t : Tok), ys[i]? = some x ∧ v = Value.str x t
  | [], _, r, i, v, e => by
    cases r
    simp at e
  | y :: ys, _, r, 0, v, e => by
    cases r with
    | cons r1 r2 =>
      obtain ⟨t, rfl⟩ := r1
      exact ⟨y, t, rfl, (Option.some.inj e).symm⟩
  | y :: ys, _, r, i + 1, v, e => by
    cases r with
    | cons r1 r2 =>
      obtain ⟨x, t, h1, h2⟩ := txt_at r2 i v (by simpa using e)
      exact ⟨x, t, by simpa using h1, h2⟩
theorem vals_txt : ∀ {vs : List Value} {ns : List Str}, StrsAre vs ns → Vals (ns.map V.str) vs
  | _, _, .nil => .nil
  | _, _, .cons k t r => .cons ⟨t, rfl⟩ (vals_txt r)
theorem x_fin {pins : List (Addr × Obj)} {σ : L2.St} {H1 : Hp} {s2 s' : Shared} {p c : Nat} {out : Array Value} {ns : List Str} (I2 : Inv X pins σ H1 s2) (k : ∀ b o, s2.heap.get? b = some o → s'.heap.get? b = some o) (g : s'.gens = s2.gens) (o : s'.os = s2.os) (hp : s2.heap.objs.size ≤ p)
    (hgt : s'.heap.get? p = some (seqObj "list" out c)) (hst : StrsAre out.toList ns) (hl : ns.length ≤ 64) : H1 p = none ∧ Inv X pins σ (upd H1 p (.lst (ns.map V.str))) s' := by
  have hlen : (ns.map V.str).length ≤ sizeLine := by rw [List.length_map, sizeLine_eq]; omega
  have hn : H1 p = none := I2.hok.fresh hp
  have J : Inv X pins σ (upd H1 p (.lst (ns.map V.str))) { s2 with heap := s'.heap, gens := s'.gens, drawn := s'.drawn, toks := s'.toks } :=
    I2.call (ch := []) (Un.laid k hp hn) (I2.hok.laid k hp ⟨hlen, out.toList, c, vals_txt hst, hgt⟩) (by rw [g]; exact I2.bare) (fun _ z => nomatch z)
  have e : s' = { s2 with heap := s'.heap, gens := s'.gens, drawn := s'.drawn, toks := s'.toks } := by
    cases s'
    cases s2
    cases o
    rfl
  rw [e]
  exact ⟨hn, J⟩
/-- sorted(set(xs)), xs a list of texts, fewer than 64 -/
def tSorS (K : PySem.W.Frag) (ta : TE) : TE := fun σ H Q => ta σ H fun x H1 => ∃ (l : Addr) (ys : List Str), x = V.ref l ∧ SqL K H1 l (ys.map V.str) ∧ ys.length < 64 ∧
  ∀ (zs : List Str) (p : Addr), zs.Nodup → sortedS zs = true → (∀ z, z ∈ zs ↔ z ∈ ys) → H1 p = none → Q (.ref p) (upd H1 p (.lst (zs.map V.str)))
theorem pe_sorS {a : Expr} {ta : TE} {p p2 q pos : Pos} (hc : X.calm = true) (hg : Gl X "sorted") (hm : X.mg "sorted" = none) (hg2 : Gl X "set") (hm2 : X.mg "set" = none) (ha : PE X a ta) (na : starEach [a] X.env = (false, eval a X.env) :: starEach [] X.env := by rfl) :
    PE X (.Call (.Name "sorted" p) [.Call (.Name "set" p2) [a] [] q] [] pos) (tSorS X.K ta) := by
  refine ⟨fun pins s σ H Q I h => ?_⟩
  refine Call_ (ld_blt I hg hm PyProof.Rows.boot_sorted ?_)
  refine PyProof.Rows.callWith_builtin1 (PyProof.Rows.args_cons ?_ rfl) rfl rfl
  refine Call_ (ld_blt I hg2 hm2 PyProof.Rows.boot_set ?_)
  refine PyProof.Rows.callWith_type1 (PyProof.Rows.args_cons (thn (ha.run pins s σ H _ I h) fun v s1 ⟨x, H1, I1, r1, hh⟩ => PyProof.Rows.args_nil ?_) na) na rfl
  obtain ⟨l, ys, rfl, hq, h1, hQ⟩ := hh
  cases r1
  obtain ⟨its, r, pl, hz⟩ := I1.list hq
  have hl : ys.length = its.toArray.size := by rw [List.size_toArray, ← r.length, List.length_map]
  refine PySem.set_of_lst (I1.ok.hd hc) pl.isList hl (fun i v e => txt_at r i v (by simpa using e)) (by rw [← hl]; unfold scanBound; omega) fun h' tk hS hk => ?_
  refine PyProof.Rows.args_nil ?_
  have I2 : Inv X pins σ H1 { s1 with heap := h', toks := tk } := I1.kept fun b o e => hk b o (Heap.lt_size e) e
  have ml := metz_len ys
  refine sorted_x (A := _) hS (I2.ok.hd hc) (by omega) fun s' p out c ns k g o hp hgt hst hpm hso => ?_
  obtain ⟨hn, J⟩ := x_fin I2 k g o hp hgt hst (by rw [hpm.length_eq]; omega)
  exact ⟨.ref p, _, J, rfl, hQ ns p (hpm.nodup_iff.mpr (metz_nd ys)) hso (fun z => by rw [hpm.mem_iff]; exact metz_mem ys z) hn⟩
end
end Kz

namespace Kz
open PySem PySem.Spec PyProof.Rows L2
/-! sorted texts stand in one way only -/
theorem lc_cons {x y : Nat} {a b : List Nat} : ltCps (x :: a) (y :: b) = false ↔ y < x ∨ (x = y ∧ ltCps a b = false) := by
  simp only [ltCps, Bool.or_eq_false_iff, Bool.and_eq_false_iff, decide_eq_false_iff_not, beq_eq_false_iff_ne]
  constructor
  · rintro ⟨h1, h2⟩
    by_cases e : x = y
    · exact .inr ⟨e, h2.resolve_left fun h => h e⟩
    · exact .inl (by omega)
  · rintro (h | ⟨h, h2⟩)
    · exact ⟨by omega, .inl (by omega)⟩
    · exact ⟨by omega, .inr h2⟩
theorem lc_anti : ∀ {a b : List Nat}, ltCps a b = false → ltCps b a = false → a = b
  | [], [], _, _ => rfl
  | [], y :: b, h, _ => by simp [ltCps] at h
  | x :: a, [], _, h => by simp [ltCps] at h
  | x :: a, y :: b, h, h' => by
    rcases lc_cons.mp h with h1 | ⟨h1, h2⟩
    · rcases lc_cons.mp h' with g1 | ⟨g1, g2⟩ <;> omega
    · rcases lc_cons.mp h' with g1 | ⟨g1, g2⟩
      · omega
      · rw [h1, lc_anti h2 g2]
theorem lc_trans : ∀ {a b c : List Nat}, ltCps b a = false → ltCps c b = false → ltCps c a = false
  | [], _, [], _, _ => rfl
  | [], _, _ :: _, _, _ => rfl
  | x :: a, [], _, h, _ => by simp [ltCps] at h
  | x :: a, y :: b, [], _, h => by simp [ltCps] at h
  | x :: a, y :: b, z :: c, h, h' => by
    rw [lc_cons] at h h' ⊢
    rcases h with h1 | ⟨h1, h2⟩
    · rcases h' with g1 | ⟨g1, g2⟩
      · exact .inl (by omega)
      · exact .inl (by omega)
    · rcases h' with g1 | ⟨g1, g2⟩
      · exact .inl (by omega)
      · exact .inr ⟨by omega, lc_trans h2 g2⟩
/-- not behind -/
def LeS (a b : Str) : Prop := ltCps b.cps.toList a.cps.toList = false
theorem LeS.trans {a b c : Str} (h : LeS a b) (h' : LeS b c) : LeS a c := lc_trans h h'
theorem LeS.anti {a b : Str} (h : LeS a b) (h' : LeS b a) : a = b := by
  have e := lc_anti h' h
  cases a
  cases b
  have e2 := Array.toList_inj.mp e
  simp at e2
  rw [e2]
theorem ris_all : ∀ (l : List Str) (p : Str), risingS p l = true → ∀ x ∈ l, LeS p x
  | [], _, _, x, h => by cases h
  | y :: l, p, h, x, hx => by
    simp only [risingS, Bool.and_eq_true, Bool.not_eq_true'] at h
    rcases List.mem_cons.mp hx with rfl | hx
    · exact h.1
    · exact LeS.trans (show LeS p y from h.1) (ris_all l y h.2 x hx)
theorem sorted_pw : ∀ {l : List Str}, sortedS l = true → l.Pairwise LeS
  | [], _ => .nil
  | [x], _ => List.pairwise_singleton _ _
  | x :: y :: l, h => by
    have h' : risingS x (y :: l) = true := h
    have h2 : sortedS (y :: l) = true := by
      simp only [risingS, Bool.and_eq_true] at h'
      exact h'.2
    exact List.pairwise_cons.mpr ⟨ris_all _ _ h', sorted_pw h2⟩
theorem pw_uniq : ∀ {xs ys : List Str}, xs.Pairwise LeS → ys.Pairwise LeS → xs.Perm ys → xs = ys
  | [], ys, _, _, h => (List.nil_perm.mp h).symm
  | x :: xs, [], _, _, h => by have := h.length_eq; simp at this
  | x :: xs, y :: ys, hx, hy, h => by
    obtain ⟨h1, h2⟩ := List.pairwise_cons.mp hx
    obtain ⟨g1, g2⟩ := List.pairwise_cons.mp hy
    have e : x = y := by
      have a : x ∈ y :: ys := h.mem_iff.mp List.mem_cons_self
      have b : y ∈ x :: xs := h.mem_iff.mpr List.mem_cons_self
      rcases List.mem_cons.mp a with a | a
      · exact a
      · rcases List.mem_cons.mp b with b | b
        · exact b.symm
        · exact LeS.anti (h1 y b) (g1 x a)
    subst e
    rw [pw_uniq h2 g2 ((List.perm_cons x).mp h)]
theorem sorted_uniq {xs ys : List Str} (h : sortedS xs = true) (h' : sortedS ys = true) (p : xs.Perm ys) : xs = ys := pw_uniq (sorted_pw h) (sorted_pw h') p
theorem sorted_same {xs ys : List Str} (h : sortedS xs = true) (h' : sortedS ys = true) (n : xs.Nodup) (n' : ys.Nodup) (m : ∀ z, z ∈ xs ↔ z ∈ ys) : xs = ys := sorted_uniq h h' ((List.perm_ext_iff_of_nodup n n').mpr m)
end Kz

/-! tuples of texts: their order, and how a sort asks for it -/
namespace Ky
open PySem PySem.Spec PyProof.Rows L2 Kz
abbrev lq (x y : Str) : Bool := ltCps x.cps.toList y.cps.toList
theorem lcp_asym : ∀ {a b : List Nat}, ltCps a b = true → ltCps b a = false
  | [], [], h => by simp [ltCps] at h
  | [], _ :: _, _ => rfl
  | _ :: _, [], h => by simp [ltCps] at h
  | x :: a, y :: b, h => by
    rw [lc_cons]
    simp only [ltCps, Bool.or_eq_true, Bool.and_eq_true, decide_eq_true_eq, beq_iff_eq] at h
    rcases h with h | ⟨h, h2⟩
    · exact .inl h
    · exact .inr ⟨h.symm, lcp_asym h2⟩
theorem lq_irr (x : Str) : lq x x = false := by
  cases h : lq x x with
  | false => rfl
  | true => exact (lcp_asym h).symm.trans h |>.symm
/-- tuples of texts, one ahead of the other -/
def lexT : List Str → List Str → Bool
  | [], [] => false
  | [], _ :: _ => true
  | _ :: _, [] => false
  | x :: xs, y :: ys => if x = y then lexT xs ys else lq x y
theorem lexT_asym : ∀ {a b : List Str}, lexT a b = true → lexT b a = false
  | [], [], h => by simp [lexT] at h
  | [], _ :: _, _ => rfl
  | _ :: _, [], h => by simp [lexT] at h
  | x :: a, y :: b, h => by
    unfold lexT at h ⊢
    by_cases e : x = y
    · rw [if_pos e] at h
      rw [if_pos e.symm]
      exact lexT_asym h
    · rw [if_neg e] at h
      rw [if_neg (Ne.symm e)]
      exact lcp_asym h
theorem lexT_anti : ∀ {a b : List Str}, lexT a b = false → lexT b a = false → a = b
  | [], [], _, _ => rfl
  | [], _ :: _, h, _ => by simp [lexT] at h
  | _ :: _, [], _, h => by simp [lexT] at h
  | x :: a, y :: b, h, h' => by
    unfold lexT at h h'
    by_cases e : x = y
    · rw [if_pos e] at h
      rw [if_pos e.symm] at h'
      rw [e, lexT_anti h h']
    · rw [if_neg e] at h
      rw [if_neg (Ne.symm e)] at h'
      exact absurd (LeS.anti (a := x) (b := y) h' h) e
theorem lexT_tr : ∀ {a b c : List Str}, lexT b a = false → lexT c b = false → lexT c a = false
  | [], _, [], _, _ => rfl
  | [], [], _ :: _, _, _ => rfl
  | [], _ :: _, _ :: _, _, _ => rfl
  | _ :: _, [], [], h, _ => by simp [lexT] at h
  | _ :: _, _ :: _, [], _, h => by simp [lexT] at h
  | _ :: _, [], _ :: _, h, _ => by simp [lexT] at h
  | x :: a, y :: b, z :: c, h, h' => by
    unfold lexT at h h' ⊢
    by_cases e1 : y = x
    · rw [if_pos e1] at h
      subst e1
      by_cases e2 : z = y
      · rw [if_pos e2] at h'
        rw [if_pos e2]
        exact lexT_tr h h'
      · rw [if_neg e2] at h'
        rw [if_neg e2]
        exact h'
    · rw [if_neg e1] at h
      by_cases e2 : z = y
      · subst e2
        rw [if_neg e1]
        exact h
      · rw [if_neg e2] at h'
        by_cases e3 : z = x
        · subst e3
          exact absurd (LeS.anti (a := z) (b := y) h h') e2
        · rw [if_neg e3]
          exact LeS.trans (a := x) (b := y) (c := z) h h'
theorem swo_tx (k : Value → List Str) : SrtO.Swo fun v u => lexT (k v) (k u) := ⟨fun _ _ h => lexT_asym h, fun _ _ _ h h' => lexT_tr h h'⟩
section
variable {P : Program} {w : World} {A : Around} {E : Value → Shared → Prop} {s : Shared}
/-- the tuple at a is of these texts -/
abbrev IsX (P : Program) (w : World) (h : Heap) (k : List Str) (a : Addr) : Prop := IsTupleKey (PySem.strKind P w) h k a
theorem kat_txt {Q : Bool → Shared → Prop} : ∀ {ks js : List Str} {vs us : List Value} (i : Nat), ItemsAre (PySem.strKind P w) ks vs → ItemsAre (PySem.strKind P w) js us → ks.length = js.length → Q (lexT ks js) s →
    PySem.W.KatLex P w A true false Q (vs.zip us) i s
  | [], [], _, _, i, .nil, .nil, _, h => PySem.W.kat_nil h
  | [], _ :: _, _, _, _, _, _, e, _ => absurd e (by simp)
  | _ :: _, [], _, _, _, _, _, e, _ => absurd e (by simp)
  | x :: ks, y :: js, _, _, i, .cons h1 r1, .cons h2 r2, e, h => by
    obtain ⟨t, rfl⟩ := Value.isStrOf_shape h1
    obtain ⟨u, rfl⟩ := Value.isStrOf_shape h2
    rw [List.zip_cons_cons]
    refine PySem.W.kat_cons (SeqAt.EqAt.str_str x t y u P w _ _ ?_)
    refine PySem.W.kat_go (fun e1 => ?_) (fun e1 => ?_)
    · have ex : x = y := by simpa using e1
      refine PySem.W.kat_yes (kat_txt (i + 1) r1 r2 (by simpa using e) ?_)
      unfold lexT at h
      rw [if_pos ex] at h
      exact h
    · have ex : ¬ x = y := by simpa using e1
      unfold lexT at h
      rw [if_neg ex] at h
      refine PySem.W.kat_no ?_
      have h' : Q (decide (x.cps.toList < y.cps.toList)) s := by rw [lt_meets]; exact h
      cases i with
      | zero => exact oneLt_str h'
      | succ i => exact PySem.W.kat_one _ _ (PyProof.Rows.lt_str h')
theorem tup_cmp {vs : List Value} {k : Value → List Str} {d : Nat} (hp : ∀ v ∈ vs, (k v).length = d ∧ ∃ a, v = .ref a ∧ IsX P w s.heap (k v) a) : SrtO.Cmp P w A s (tuples' true) (fun p => p.1 ∈ vs) (SrtO.lt2 fun v u => lexT (k v) (k u)) := by
  intro p q hm hm'
  obtain ⟨l1, a1, e1, o1, i1, n1, g1, c1, d1, m1⟩ := hp _ hm
  obtain ⟨l2, a2, e2, o2, i2, n2, g2, c2, d2, m2⟩ := hp _ hm'
  show wpAny (model P w) A (keyLt' (tuples' true) p.1 q.1) (fun r s' => s' = s ∧ r = lexT (k p.1) (k q.1)) (fun _ _ => False) s
  generalize k p.1 = ks at *
  generalize k q.1 = js at *
  rw [e1, e2]
  refine PySem.W.kat_lt g1 d1 g2 d2 ?_
  have el : decide (i1.size < i2.size) = false := by
    have z1 : i1.size = ks.length := by rw [← Array.length_toList]; exact m1.length.symm
    have z2 : i2.size = js.length := by rw [← Array.length_toList]; exact m2.length.symm
    exact decide_eq_false (by omega)
  rw [el]
  exact kat_txt 0 m1 m2 (by omega) ⟨rfl, rfl⟩
theorem firsts_tx {h : Heap} {k : Value → List Str} {d : Nat} (hd : 1 ≤ d) : ∀ vs : List Value, (∀ v ∈ vs, (k v).length = d ∧ ∃ a, v = .ref a ∧ IsX P w h (k v) a) → ∃ fs : List Value, PySem.W.KatTups h vs fs ∧ fs.length = vs.length ∧ ∀ f ∈ fs, ∃ (x : Str) (t : Tok), f = Value.str x t
  | [], _ => ⟨[], PySem.W.KatTups.nil, rfl, fun f hf => nomatch hf⟩
  | v :: vs, hp => by
    obtain ⟨fs, a, b, c⟩ := firsts_tx hd vs fun u hu => hp u (List.mem_cons_of_mem _ hu)
    obtain ⟨l1, a1, rfl, o1, i1, n1, g1, c1, d1, m1⟩ := hp v List.mem_cons_self
    generalize k (.ref a1) = ks at l1 m1
    cases ks with
    | nil => simp at l1; omega
    | cons x ks =>
      generalize hz : i1.toList = zs at m1
      cases m1 with
      | cons h1 r1 =>
        rename_i v0 vs0
        obtain ⟨t, rfl⟩ := Value.isStrOf_shape h1
        have e0 : i1[0]? = some (Value.str x t) := by rw [← Array.getElem?_toList, hz]; rfl
        refine ⟨Value.str x t :: fs, PySem.W.KatTups.cons g1 c1 d1 e0 a, by rw [List.length_cons, List.length_cons, b], fun f hf => ?_⟩
        rcases List.mem_cons.mp hf with rfl | hf
        · exact ⟨x, t, rfl⟩
        · exact c f hf
theorem isX_keep {h h' : Heap} {k : List Str} {b : Addr} (x : IsX P w h k b) (hk : ∀ o, h.get? b = some o → o.cls = .type "tuple" → h'.get? b = some o) : IsX P w h' k b := by
  obtain ⟨o, items, n, ho, hc, r⟩ := x
  exact ⟨o, items, n, hk o ho hc, hc, r⟩
theorem tups_sortable {a : Addr} {vs : List Value} {k : Value → List Str} {d : Nat} (hd : 1 ≤ d) (h0 : 0 < vs.length) (hp : ∀ v ∈ vs, (k v).length = d ∧ ∃ a, v = .ref a ∧ IsX P w s.heap (k v) a) (ha : ∀ o, s.heap.get? a = some o → o.cls ≠ .type "tuple") :
    SrtO.SortableO P w A s a vs fun v u => lexT (k v) (k u) := by
  intro h' keep
  have hp' : ∀ v ∈ vs, (k v).length = d ∧ ∃ a, v = .ref a ∧ IsX P w h' (k v) a := fun v hm => by
    obtain ⟨l, b, e, x⟩ := hp v hm
    exact ⟨l, b, e, isX_keep x fun o g c => keep b o (fun z => by subst z; exact ha o g c) g⟩
  obtain ⟨fs, h1, h2, h3⟩ := firsts_tx hd vs hp'
  refine ⟨tuples' true, fun Q E hq => ?_, tup_cmp hp'⟩
  refine PySem.W.kat_kind (T := .type "str") h1 (by omega) (fun f hm => ?_) (by rfl) ?_
  · obtain ⟨x, t, rfl⟩ := h3 f hm
    exact PySem.W.Looks.now
  · have e : (Value.type "str" != Value.type "tuple") = true := by decide
    rw [e]
    exact hq
end
end Ky

/-! sets of tuples of texts: the table -/
namespace Ky
open PySem PySem.Spec PyProof.Rows L2 Kz
abbrev hsX (P : Program) (w : World) (k : List Str) : Int := tupleKeyHash (PySem.strKind P w) k
abbrev stN (m : Nat) (h : Int) (c : Nat) : SetTable.Probe := nth m (runAt m (SetTable.bits h % (m + 1)) (SetTable.bits h)) c
theorem stN_dm (m : Nat) (h : Int) : ∀ c, (stN m h c).dummy = none
  | 0 => rfl
  | c + 1 => by
    show (nth m _ (c + 1)).dummy = none
    rw [nth_succ]
    unfold adv
    have q := stN_dm m h c
    split <;> exact q
theorem stN_add (m : Nat) (h : Int) (c q : Nat) : nth m (stN m h c) q = stN m h (c + q) := (nth_add m c _ q).symm
/-- a value of a text shows nothing of itself -/
theorem items_txt {P : Program} {w : World} {k : List Str} {vs : List Value} (h : ItemsAre (PySem.strKind P w) k vs) : ∀ v ∈ vs, ∃ (x : Str) (t : Tok), v = Value.str x t := by
  induction h with
  | nil => intro v hv; cases hv
  | cons h1 _ ih =>
    intro v hv
    rcases List.mem_cons.mp hv with rfl | hv
    · exact Value.isStrOf_shape h1 |>.elim fun t e => ⟨_, t, e⟩
    · exact ih v hv
theorem cls_txt (n : Nat) (x : Str) (t : Tok) : ofAClassStatement n (.str x t) = pure false := by
  cases n <;> rfl
theorem hsh_txt (n : Nat) (x : Str) (t : Tok) : hashByValue n (.str x t) = pure false := by
  have q := hashByValue_scannable n (x := Value.str x t) rfl
  rw [q]
  rfl
section
variable {P : Program} {w : World} {A : Around} {E : Value → Shared → Prop} {s : Shared}
theorem cls_tx {k : List Str} {b : Addr} {Q : Bool → Shared → Prop} (hk : IsX P w s.heap k b) (h : Q false s) : wpAny (model P w) A (ofAClassStatement 8 (.ref b)) Q E s := by
  have hT := hk.typeIs
  obtain ⟨o, items, n, ho, _, hd, hi⟩ := hk
  have tx := items_txt hi
  unfold ofAClassStatement
  refine wpAny_bind (wpAny_typeOf hT ?_)
  dsimp only
  have e : (("tuple" : String) == "tuple") = true := by decide
  simp only [e, if_true, Bool.not_true, Bool.false_eq_true, if_false]
  try refine wpAny_bind (wpAny_pure ?_)
  try simp only [Bool.not_true, Bool.false_eq_true, if_false]
  show wpAny _ _ (seqItems? (.ref b) >>= _) _ _ s
  refine wpAny_bind (wpAny_seqItems ho hd ?_)
  dsimp only
  refine wpAny_bind ?_
  show wpAny _ _ (forIn items _ _) _ _ s
  rw [← Array.forIn_toList]
  refine wpAny_forIn_list _ (fun rest r s' => r.1 = none ∧ s' = s ∧ ∀ v ∈ rest, ∃ (x : Str) (t : Tok), v = Value.str x t) _ ?_ ?_ _ _ ⟨rfl, rfl, tx⟩
  · rintro v rest r s' ⟨hr, rfl, al⟩
    obtain ⟨x, t, rfl⟩ := al v List.mem_cons_self
    rw [cls_txt]
    refine wpAny_bind (wpAny_pure ?_)
    simp only [Bool.false_eq_true, if_false]
    exact wpAny_pure ⟨rfl, rfl, fun u z => al u (List.mem_cons_of_mem _ z)⟩
  · rintro ⟨r1, r2⟩ s' ⟨hr, rfl, _⟩
    cases hr
    exact wpAny_pure h
theorem hsh_tx {k : List Str} {b : Addr} {Q : Bool → Shared → Prop} (hk : IsX P w s.heap k b) (h : ∀ c, Q c s) : wpAny (model P w) A (hashByValue 8 (.ref b)) Q E s := by
  have hT := hk.typeIs
  obtain ⟨o, items, n, ho, _, hd, hi⟩ := hk
  have tx := items_txt hi
  unfold hashByValue
  refine wpAny_bind (wpAny_specialOf hT F.slot_tuple_hash.lookup ?_)
  show wpAny _ _ (seqItems? (.ref b) >>= _) _ _ s
  refine wpAny_bind (wpAny_seqItems ho hd ?_)
  refine wpAny_bind ?_
  show wpAny _ _ (forIn items _ _) _ _ s
  rw [← Array.forIn_toList]
  refine wpAny_forIn_list _ (fun rest r s' => r.1 = none ∧ s' = s ∧ ∀ v ∈ rest, ∃ (x : Str) (t : Tok), v = Value.str x t) _ ?_ ?_ _ _ ⟨rfl, rfl, tx⟩
  · rintro v rest r s' ⟨hr, rfl, al⟩
    obtain ⟨x, t, rfl⟩ := al v List.mem_cons_self
    rw [hsh_txt]
    refine wpAny_bind (wpAny_pure ?_)
    simp only [Bool.not_false, if_true]
    exact wpAny_pure (wpAny_pure (h false))
  · rintro ⟨r1, r2⟩ s' ⟨hr, rfl, _⟩
    cases hr
    exact wpAny_pure (h true)
theorem seen_tx {k : List Str} {b : Addr} {Q : Bool → Shared → Prop} (hk : IsX P w s.heap k b) {ys : List Value} (hy : ∀ y ∈ ys, ∃ k' c, y = Value.ref c ∧ IsX P w s.heap k' c) (h : Q false s) :
    wpAny (model P w) A (searchCouldBeSeen (.ref b) ys) Q E s := by
  unfold searchCouldBeSeen
  refine wpAny_bind ?_
  refine wpAny_forIn_list _ (fun rest r s' => r.1 = none ∧ s' = s ∧ ∀ y ∈ rest, ∃ k' c, y = Value.ref c ∧ IsX P w s.heap k' c) _ ?_ ?_ _ _ ⟨rfl, rfl, hy⟩
  · rintro v rest r s' ⟨hr, rfl, al⟩
    obtain ⟨k', c, rfl, hc⟩ := al v List.mem_cons_self
    have al2 : ∀ y ∈ rest, ∃ k' c, y = Value.ref c ∧ IsX P w s'.heap k' c := fun u z => al u (List.mem_cons_of_mem _ z)
    dsimp only
    by_cases hv : (b == c || (carriedByValue (.ref b) && carriedByValue (.ref c))) = true
    · exact wp_if_pos hv (wpAny_pure ⟨rfl, rfl, al2⟩)
    · refine wp_if_neg hv ?_
      refine wpAny_bind (wpAny_eqIsQuiet_tuple hk ?_)
      simp only [Bool.not_true, Bool.false_eq_true, if_false]
      refine wpAny_bind (wpAny_eqIsQuiet_tuple hc ?_)
      simp only [Bool.not_true, Bool.false_eq_true, if_false]
      refine wpAny_bind (cls_tx hk ?_)
      simp only [Bool.false_eq_true, if_false]
      refine wpAny_bind (cls_tx hc ?_)
      simp only [Bool.false_eq_true, if_false]
      exact wpAny_pure ⟨rfl, rfl, al2⟩
  · rintro ⟨r1, r2⟩ s' ⟨hr, rfl, _⟩
    cases hr
    exact wpAny_pure h
/-! ### what a set of tuples of texts is -/
def rwX (P : Program) (w : World) (L : List (Addr × List Str)) : List (Int × Value) := L.map fun p => (hsX P w p.2, Value.ref p.1)
/-- without the tuples themselves -/
structure TX0 (P : Program) (w : World) (h : Heap) (a : Addr) (L : List (Addr × List Str)) (es : Array (Int × Value)) (ep : Nat) (t : SetTable) : Prop where
  ob : ∃ o, h.get? a = some o ∧ o.ExactSet ∧ o.data = .set es ep t
  rows : es.toList = rwX P w L
  tab : TabOk t (L.map fun p => hsX P w p.2)
  nd : (L.map (·.2)).Nodup
  led : w.params.followText "set-order" = true ∨ t.led = true
  room : L.length * 5 < t.mask * 3
  few : L.length < 77
structure TX (P : Program) (w : World) (h : Heap) (a : Addr) (L : List (Addr × List Str)) (es : Array (Int × Value)) (ep : Nat) (t : SetTable) : Prop extends TX0 P w h a L es ep t where
  tup : ∀ p ∈ L, IsX P w h p.2 p.1
variable {a : Addr} {L : List (Addr × List Str)} {es : Array (Int × Value)} {ep : Nat} {t : SetTable}
theorem rwX_len {es : Array (Int × Value)} {L : List (Addr × List Str)} (h : es.toList = rwX P w L) : es.size = L.length := by
  rw [← Array.length_toList, h, rwX, List.length_map]
theorem rwX_at {es : Array (Int × Value)} {L : List (Addr × List Str)} (h : es.toList = rwX P w L) {i : Nat} {p : Addr × List Str} (e : L[i]? = some p) : es[i]? = some (hsX P w p.2, Value.ref p.1) := by
  rw [← Array.getElem?_toList, h, rwX, List.getElem?_map, e]
  rfl
theorem TX0.fits (R : TX0 P w s.heap a L es ep t) : t.fits es.size = true := by
  have h1 := R.tab.sz
  rw [List.length_map] at h1
  have h2 := rwX_len R.rows
  have h3 := R.room
  unfold SetTable.fits SetTable.fill
  rw [R.tab.dm, Bool.and_eq_true, beq_iff_eq, decide_eq_true_eq]
  show t.place.size = es.size ∧ t.place.size + 0 ≤ t.mask
  omega
theorem TX0.gw (R : TX0 P w s.heap a L es ep t) : ¬ t.gaveWay = true := by
  unfold SetTable.gaveWay
  rw [mask_odd R.tab.mok]
  decide
/-- what is met on the way: a tuple that is the one or is not, or the free slot -/
theorem hunt (R : TX P w s.heap a L es ep t) {x : Addr} {k : List Str} (hx : IsX P w s.heap k x) (hu : A.units < cLine) {K : Nat} (hKf : K < 10 * SetTable.turns t.mask)
    (hK : way t.mask (hsX P w k) K ∉ t.place.toList) (hKb : ∀ c, c < K → way t.mask (hsX P w k) c ∈ t.place.toList) {Q : SetFound → Shared → Prop}
    (hin : k ∈ L.map (·.2) → Q (.there none) s) (hout : k ∉ L.map (·.2) → Q (.free (way t.mask (hsX P w k) K) false) s) :
    ∀ (f c : Nat) (stand : Option SetTable.Probe), stand.getD (t.probeStart (hsX P w k)) = stN t.mask (hsX P w k) c → c ≤ K → K - c < f →
      (∀ (i : Nat) p, L[i]? = some p → p.2 = k → ∃ c', c ≤ c' ∧ c' < K ∧ t.place.toList[i]? = some (way t.mask (hsX P w k) c')) →
      wpAny (model P w) A (setSearchFrom a (.ref x) (hsX P w k) true f stand) Q E s
  | 0, c, stand, _, _, hf, _ => absurd hf (Nat.not_lt_zero _)
  | f + 1, c, stand, hst, hc, hf, hre => by
    obtain ⟨o, ho, hex, hd⟩ := R.ob
    have ent : ∀ (i : Nat) p, L[i]? = some p → (es[i]?.map (·.1)).getD 0 = hsX P w p.2 := fun i p hp => by
      rw [rwX_at R.rows hp]
      rfl
    rw [setSearchFrom_succ]
    refine wpAny_bind (wpAny_setState_of ho hd R.fits ?_)
    dsimp only
    refine wp_if_neg R.gw ?_
    try refine wpAny_bind (wpAny_pure ?_)
    have js : ∀ q, (nth t.mask (stN t.mask (hsX P w k) c) q).j = way t.mask (hsX P w k) (c + q) := fun q => congrArg SetTable.Probe.j (stN_add _ _ c q)
    have spec := go_spec t R.tab.ris R.tab.dm (fun i => (es[i]?.map (·.1)).getD 0) (hsX P w k) (10 * SetTable.turns t.mask) (K - c) _ (stN_dm t.mask (hsX P w k) c) (by omega)
      (fun q hq => by rw [js]; exact hKb (c + q) (by omega)) (by rw [js, Nat.add_sub_cancel' hc]; exact hK)
    rcases spec with ⟨q, i, hq, hi, hh, hno, hpr⟩ | ⟨hno, hpr⟩
    · have hp1 : t.probe (fun i => (es[i]?.map (·.1)).getD 0) (hsX P w k) (stand.getD (t.probeStart (hsX P w k))) = some (.candidate (way t.mask (hsX P w k) (c + q)) i (stN t.mask (hsX P w k) (c + (q + 1)))) := by
        rw [hst, ← js, ← stN_add]
        exact hpr
      rw [hp1]
      dsimp only
      rw [js] at hi
      have il : i < L.length := by
        have h1 : i < t.place.toList.length := (List.getElem?_eq_some_iff.mp hi).1
        have h2 := R.tab.sz
        rw [List.length_map] at h2
        rw [Array.length_toList] at h1
        omega
      obtain ⟨p, hp⟩ : ∃ p, L[i]? = some p := ⟨_, List.getElem?_eq_getElem il⟩
      have pm : p ∈ L := List.mem_of_getElem? hp
      have go : wpAny (model P w) A (searchRest a (.ref x) (hsX P w k) true f es t (way t.mask (hsX P w k) (c + q)) i (stN t.mask (hsX P w k) (c + (q + 1)))) Q E s := by
        unfold searchRest
        rw [rwX_at R.rows hp]
        dsimp only
        refine wpAny_bind (wpAny_holding (wpAny_eqBool_tuple hu (R.tup p pm) hx ?_))
        refine wpAny_bind (wpAny_setState_of ho hd R.fits ?_)
        dsimp only
        by_cases ek : p.2 = k
        · exact wp_if_pos (by simp [ek]) (wpAny_pure (hin (List.mem_map.mpr ⟨p, pm, ek⟩)))
        · refine wp_if_neg (by simp [ek]) ?_
          try refine wpAny_bind (wpAny_pure ?_)
          rw [sameMem]
          dsimp only
          have sl : t.slot (way t.mask (hsX P w k) (c + q)) = .live i := slot_live R.tab.ris hi
          simp only [if_true, sl, rwX_at R.rows hp]
          refine wpAny_bind (wpAny_isSame_ref_self (wpAny_bind (wpAny_pure ?_)))
          simp only [if_true]
          refine wp_if_neg (by simp [ek]) ?_
          refine hunt R hx hu hKf hK hKb hin hout f (c + (q + 1)) _ rfl (by omega) (by omega) fun i0 p0 h0 k0 => ?_
          obtain ⟨c', a1, a2, a3⟩ := hre i0 p0 h0 k0
          refine ⟨c', ?_, a2, a3⟩
          rcases Nat.lt_trichotomy c' (c + q) with z | z | z
          · refine absurd ((ent i0 p0 h0).trans (congrArg (hsX P w) k0)) (hno (c' - c) i0 (by omega) ?_)
            rw [js, Nat.add_sub_cancel' a1]
            exact a3
          · rw [z] at a3
            have s0 := slot_live R.tab.ris a3
            rw [sl] at s0
            injection s0 with s0
            rw [← s0, hp] at h0
            exact absurd ((congrArg Prod.snd (Option.some.inj h0)).trans k0) ek
          · omega
      by_cases hl : t.led = true
      · refine wp_if_neg (by simp [hl]) ?_
        try refine wpAny_bind (wpAny_pure ?_)
        exact go
      · refine wp_if_pos (by simp [hl]) ?_
        refine wpAny_bind (seen_tx hx (fun y hy => ?_) ?_)
        · obtain ⟨e, he, ee⟩ := List.mem_map.mp hy
          have he1 : e ∈ es ∧ e.1 = hsX P w k := by simpa using he
          have he2 : e ∈ es.toList := by simpa using he1.1
          rw [R.rows] at he2
          obtain ⟨p2, m2, e2⟩ := List.mem_map.mp he2
          exact ⟨p2.2, p2.1, by rw [← ee, ← e2], R.tup p2 m2⟩
        · refine wp_if_neg (by decide) ?_
          try refine wpAny_bind (wpAny_pure ?_)
          exact go
    · have hp1 : t.probe (fun i => (es[i]?.map (·.1)).getD 0) (hsX P w k) (stand.getD (t.probeStart (hsX P w k))) = some (.empty (way t.mask (hsX P w k) K) none) := by
        have e2 : way t.mask (hsX P w k) K = (nth t.mask (stN t.mask (hsX P w k) c) (K - c)).j := by rw [js, Nat.add_sub_cancel' hc]
        rw [hst, e2]
        exact hpr
      rw [hp1]
      dsimp only
      refine wpAny_pure (hout fun hm => ?_)
      obtain ⟨p0, m0, k0⟩ := List.mem_map.mp hm
      obtain ⟨i0, l0, e0⟩ := List.getElem_of_mem m0
      have h0 : L[i0]? = some p0 := by rw [List.getElem?_eq_getElem l0, e0]
      obtain ⟨c', a1, a2, a3⟩ := hre i0 p0 h0 k0
      refine hno (c' - c) i0 (by omega) ?_ ((ent i0 p0 h0).trans (congrArg (hsX P w) k0))
      rw [js, Nat.add_sub_cancel' a1]
      exact a3
theorem hunted (R : TX P w s.heap a L es ep t) {x : Addr} {k : List Str} (hx : IsX P w s.heap k x) (hu : A.units < cLine) {Q : SetFound → Shared → Prop} (hin : k ∈ L.map (·.2) → Q (.there none) s)
    (hout : ∀ K, k ∉ L.map (·.2) → way t.mask (hsX P w k) K ∉ t.place.toList → (∀ c, c < K → way t.mask (hsX P w k) c ∈ t.place.toList) → Q (.free (way t.mask (hsX P w k) K) false) s) :
    wpAny (model P w) A (setSearch a (.ref x) (hsX P w k) true) Q E s := by
  have hroom := R.room
  obtain ⟨K, kf, hK, hKb⟩ := R.tab.first (by rw [List.length_map]; omega) (hsX P w k)
  have big : K < 100000 := by
    have : 10 * SetTable.turns t.mask ≤ 1420 := by
      unfold SetTable.turns
      rcases R.tab.mok with e | e | e <;> omega
    omega
  unfold setSearch
  refine hunt R hx hu kf hK hKb hin (fun hn => hout K hn hK hKb) 100000 0 none rfl (Nat.zero_le _) (by omega) fun i p hp hk => ?_
  have hi : (L.map fun p => hsX P w p.2)[i]? = some (hsX P w k) := by rw [List.getElem?_map, hp, ← hk]; rfl
  have il : i < t.place.toList.length := by
    have h1 : i < L.length := (List.getElem?_eq_some_iff.mp hp).1
    have h2 := R.tab.sz
    rw [List.length_map] at h2
    rw [Array.length_toList]
    omega
  obtain ⟨c, hc, e⟩ := R.tab.before hK hi (List.getElem?_eq_getElem il)
  exact ⟨c, Nat.zero_le _, hc, by rw [List.getElem?_eq_getElem il, e]⟩
end
end Ky

/-! sets of tuples of texts: one more -/
namespace Ky
open PySem PySem.Spec PyProof.Rows L2 Kz
theorem all_at {α : Type} : ∀ L : List α, (List.range L.length).filterMap (fun i => L[i]?) = L
  | [] => rfl
  | x :: L => by
    rw [List.length_cons, List.range_succ_eq_map, List.filterMap_cons_some (f := fun i => (x :: L)[i]?) (a := 0) (b := x) rfl, List.filterMap_map]
    exact congrArg (x :: ·) (all_at L)
theorem pick_h {α : Type} (g : α → Int) (L : List α) : ∀ l : List Nat, (∀ i ∈ l, i < L.length) → (l.filterMap fun i => L[i]?).map g = l.map fun i => ((L.map g)[i]?).getD 0
  | [], _ => rfl
  | i :: l, h => by
    have hi := h i List.mem_cons_self
    rw [List.filterMap_cons_some (f := fun i => L[i]?) (b := L[i]) (List.getElem?_eq_getElem hi), List.map_cons, List.map_cons, pick_h g L l fun j hj => h j (List.mem_cons_of_mem _ hj), List.getElem?_map, List.getElem?_eq_getElem hi]
    rfl
section
variable {P : Program} {w : World} {A : Around} {E : Value → Shared → Prop} {s : Shared} {a : Addr} {L : List (Addr × List Str)} {es : Array (Int × Value)} {ep : Nat} {t : SetTable}
theorem picked (order : Array Nat) (hr : es.toList = rwX P w L) (hp : order.toList.Perm (List.range L.length)) :
    ∃ L2, (order.filterMap (es[·]?)).toList = rwX P w L2 ∧ L2.Perm L ∧ (L2.map fun p => hsX P w p.2) = order.toList.map fun i => (es.map (·.1)).getD i 0 := by
  refine ⟨order.toList.filterMap fun i => L[i]?, ?_, ?_, ?_⟩
  · rw [Array.toList_filterMap, rwX, List.map_filterMap]
    refine congrArg (fun f => List.filterMap f order.toList) (funext fun i => ?_)
    rw [← Array.getElem?_toList, hr, rwX, List.getElem?_map]
  · have q := hp.filterMap fun i => L[i]?
    rwa [all_at] at q
  · rw [pick_h _ L _ fun i hi => List.mem_range.mp (hp.mem_iff.mp hi)]
    refine congrArg (fun f => List.map f order.toList) (funext fun i => ?_)
    have e1 : es.toList.map (·.1) = L.map fun p => hsX P w p.2 := by rw [hr, rwX, List.map_map]; rfl
    rw [← e1, Array.getD_eq_getD_getElem?, Array.getElem?_map, List.getElem?_map, Array.getElem?_toList]
theorem isX_same {h h' : Heap} {k : List Str} {b : Addr} {o : Obj} (hb : IsX P w h k b) (ho : h.get? a = some o) (hd : o.data = .set es ep t) (hs : Heap.SameBut a h h') : IsX P w h' k b :=
  isX_keep hb fun u e c => by
    have ne : b ≠ a := by
      rintro rfl
      obtain ⟨o', items, n, ho', _, hd', _⟩ := hb
      obtain rfl : o' = o := Option.some.inj (ho'.symm.trans ho)
      rw [hd] at hd'
      exact nomatch hd'
    exact (hs.2 b ne).trans e
/-- all laid anew -/
theorem relay_x {o : Obj} (ho : s.heap.get? a = some o) (hex : o.ExactSet) (hd : o.data = .set es ep t) (hrows : es.toList = rwX P w L) (hsz : t.place.size = es.size) (hdm : t.dummies = #[]) (hfl : es.size ≤ t.mask)
    (nd : (L.map (·.2)).Nodup) (tup : ∀ p ∈ L, IsX P w s.heap p.2 p.1) (ld : w.params.followText "set-order" = true ∨ t.led = true) (few : L.length < 77) {wanted M : Nat}
    (hw : SetTable.sizeAbove wanted - 1 = M) (hM : MaskOk M) (hw2 : SetTable.sizeAbove wanted ≤ 128) (hn : L.length * 5 < M * 3) {Q : Unit → Shared → Prop}
    (hQ : ∀ h' L' es' ep' t', Heap.SameBut a s.heap h' → TX P w h' a L' es' ep' t' → L'.Perm L → Q () { s with heap := h' }) : wpAny (model P w) A (setRelay a wanted) Q E s := by
  have hsl := rwX_len hrows
  have hfits : t.fits es.size = true := by
    unfold SetTable.fits SetTable.fill
    rw [hdm, Bool.and_eq_true, beq_iff_eq, decide_eq_true_eq]
    show t.place.size = es.size ∧ t.place.size + 0 ≤ t.mask
    omega
  obtain ⟨t', order, e, hp, T, em, el, _, ed⟩ := relaid_ok t (hs := es.map (·.1)) (wanted := wanted) hw hM (by rw [Array.size_map, hsl]; omega)
  rw [Array.size_map, hsl] at hp
  obtain ⟨L2, r1, r2, r3⟩ := picked order hrows hp
  rw [← r3] at T
  have hs2 : (order.filterMap (es[·]?)).size = es.size := by rw [rwX_len r1, r2.length_eq, hsl]
  rw [setRelay_eq]
  refine wpAny_bind (wpAny_setState_of ho hd hfits ?_)
  dsimp only
  refine wp_if_neg (by rw [sizeLine_eq]; omega) ?_
  try refine wpAny_bind (wpAny_pure ?_)
  rw [e]
  dsimp only
  refine wpAny_bind ?_
  refine wp_if_neg (by rw [hs2]; simp) ?_
  try refine wpAny_bind (wpAny_pure ?_)
  refine wpAny_pure ?_
  dsimp only
  refine wpAny_storeSet_of ho hd ?_ (by rw [hs2, hsl, sizeLine_eq]; omega)
  have sb : Heap.SameBut a s.heap (s.heap.update a (Obj.putSet (order.filterMap (es[·]?)) t')) := Heap.SameBut.update ..
  exact hQ _ L2 (order.filterMap (es[·]?)) (ep + 1) t' sb ⟨⟨⟨_, store_at ho hd, ⟨hex.1, hex.2.1, hex.2.2⟩, rfl⟩, r1, T, (r2.map (·.2)).nodup_iff.mpr nd, by rw [el]; exact ld, by rw [r2.length_eq, em]; exact hn, by rw [r2.length_eq]; exact few⟩,
    fun p hpm => isX_same (tup p (r2.mem_iff.mp hpm)) ho hd sb⟩ r2
theorem rwX_put (L : List (Addr × List Str)) (p : Nat) (x : Addr) (k : List Str) : rwX P w (L.take p ++ (x, k) :: L.drop p) = (rwX P w L).take p ++ (hsX P w k, Value.ref x) :: (rwX P w L).drop p := by
  rw [rwX, rwX, List.map_append, List.map_cons, List.map_take, List.map_drop]
theorem add_x (R : TX P w s.heap a L es ep t) {x : Addr} {k : List Str} (hx : IsX P w s.heap k x) (hu : A.units < cLine) (hfew : L.length + 1 < 77) {Q : Bool → Shared → Prop}
    (hQ : ∀ b h' L' es' ep' t', Heap.SameBut a s.heap h' → TX P w h' a L' es' ep' t' → (k ∈ L.map (·.2) → L' = L) → (k ∉ L.map (·.2) → L'.Perm ((x, k) :: L)) → Q b { s with heap := h' }) :
    wpAny (model P w) A (setAddHashed a (.ref x) (hsX P w k)) Q E s := by
  obtain ⟨o, ho, hex, hd⟩ := R.ob
  have hsl := rwX_len R.rows
  have hroom := R.room
  unfold setAddHashed
  refine wpAny_holding ?_
  rw [show (100000 : Nat) = 99999 + 1 from rfl, setAddHashedIn_succ]
  refine wpAny_bind (wpAny_setState_of ho hd R.fits ?_)
  dsimp only
  refine wp_if_neg (by simp [byScan, Value.scannable]) ?_
  try refine wpAny_bind (wpAny_pure ?_)
  refine wpAny_bind (hunted R hx hu (fun hm => ?_) fun K hm hK hb => ?_)
  · dsimp only
    exact wpAny_pure (hQ false s.heap L es ep t (Heap.SameBut.refl a s.heap) R (fun _ => rfl) fun z => absurd hm z)
  · dsimp only
    refine wpAny_bind (wpAny_setState_of ho hd R.fits ?_)
    dsimp only
    obtain ⟨q1, q2, q3, q4, q5, q6, q7, q8, q9⟩ := R.tab.put hK hb
    generalize hpt : t.put (way t.mask (hsX P w k) K) = pt at q1 q3 q4 q5 q6 q7 q8 q9 ⊢
    obtain ⟨t1, p⟩ := pt
    dsimp only at q1 q3 q4 q5 q6 q7 q8 q9 ⊢
    subst q1
    have hin : (SetTable.insertAt es (SetTable.below t.place (way t.mask (hsX P w k) K)) (hsX P w k, Value.ref x)).toList = rwX P w (L.take (SetTable.below t.place (way t.mask (hsX P w k) K)) ++ (x, k) :: L.drop (SetTable.below t.place (way t.mask (hsX P w k) K))) := by
      rw [SetTable.toList_insertAt, rwX_put, R.rows]
    generalize hpp : SetTable.below t.place (way t.mask (hsX P w k) K) = p at q2 q3 hin ⊢
    have pm := put_perm L p (x, k)
    have hlen : (L.take p ++ (x, k) :: L.drop p).length = L.length + 1 := pm.length_eq
    have hhs : (L.take p ++ (x, k) :: L.drop p).map (fun p => hsX P w p.2) = (L.map fun p => hsX P w p.2).take p ++ hsX P w k :: (L.map fun p => hsX P w p.2).drop p := by
      rw [List.map_append, List.map_cons, List.map_take, List.map_drop]
    rw [← hhs] at q3
    have nd1 : ((L.take p ++ (x, k) :: L.drop p).map (·.2)).Nodup := (pm.map (·.2)).nodup_iff.mpr (List.nodup_cons.mpr ⟨hm, R.nd⟩)
    have hes := rwX_len hin
    rw [hlen] at hes
    generalize SetTable.insertAt es p (hsX P w k, Value.ref x) = es1 at hin hes ⊢
    generalize L.take p ++ (x, k) :: L.drop p = L1 at pm hlen q3 nd1 hin
    -- with the table t2, which may have another mark
    have fin : ∀ t2 : SetTable, t2.place = t1.place → t2.dummies = t1.dummies → t2.mask = t1.mask → t2.led = t1.led → t2.tooFull = t1.tooFull →
        wpAny (model P w) A (do storeSet a es1 t2; if (!false && t2.tooFull) = true then do setRelay a (SetTable.grown (es.size + 1)); pure true else pure true) Q E s := by
      intro t2 z1 z2 z3 z4 z5
      have q3' : TabOk t2 (L1.map fun p => hsX P w p.2) := ⟨by rw [z1]; exact q3.ris, by rw [z2]; exact q3.dm, by rw [z1]; exact q3.sz, by rw [z3]; exact q3.mok, fun y hy => by rw [z1] at hy; rw [z3]; exact q3.bd y hy, fun i h j h1 h2 => by
        rw [z1] at h2
        obtain ⟨c, d1, d2⟩ := q3.reach i h j h1 h2
        exact ⟨c, by rw [z3]; exact d1, fun c' hc' => by rw [z3, z1]; exact d2 c' hc'⟩⟩
      refine wpAny_bind (wpAny_storeSet_of ho hd ?_ (by rw [hes, sizeLine_eq]; omega))
      have sb : Heap.SameBut a s.heap (s.heap.update a (Obj.putSet es1 t2)) := Heap.SameBut.update ..
      have ho1 := store_at (es' := es1) (t' := t2) ho hd
      generalize s.heap.update a (Obj.putSet es1 t2) = h1 at sb ho1 ⊢
      have tup1 : ∀ p ∈ L1, IsX P w h1 p.2 p.1 := fun p hp => by
        rcases List.mem_cons.mp (pm.mem_iff.mp hp) with e | hp
        · rw [e]; exact isX_same hx ho hd sb
        · exact isX_same (R.tup p hp) ho hd sb
      have ld1 : w.params.followText "set-order" = true ∨ t2.led = true := by rw [z4, q5]; exact R.led
      have fl : t1.tooFull = true ↔ (L.length + 1) * 5 ≥ t.mask * 3 := by
        unfold SetTable.tooFull
        rw [decide_eq_true_eq, q9, List.length_map, q4]
      by_cases hf : t2.tooFull = true
      · refine wp_if_pos (by simp [hf]) ?_
        refine wpAny_bind ?_
        have hfull := fl.mp (z5 ▸ hf)
        rw [hsl]
        have hsz1 : t2.place.size = es1.size := by
          have h := q3'.sz
          rw [List.length_map, hlen] at h
          rw [h, hes]
        have two : (t.mask = 7 ∧ L.length = 4) ∨ (t.mask = 31 ∧ L.length = 18) := by
          rcases R.tab.mok with e | e | e
          · left; rw [e] at hfull hroom; exact ⟨e, by omega⟩
          · right; rw [e] at hfull hroom; exact ⟨e, by omega⟩
          · exfalso; rw [e] at hfull; omega
        have go : ∀ M, SetTable.sizeAbove (SetTable.grown (L.length + 1)) - 1 = M → MaskOk M → SetTable.sizeAbove (SetTable.grown (L.length + 1)) ≤ 128 → (L.length + 1) * 5 < M * 3 →
            wpAny (model P w) A (setRelay a (SetTable.grown (L.length + 1))) (fun _ s' => wpAny (model P w) A (pure true) Q E s') E { s with heap := h1 } := fun M g1 g2 g3 g4 => by
          refine relay_x (s := { s with heap := h1 }) ho1 ⟨hex.1, hex.2.1, hex.2.2⟩ rfl hin hsz1 q3'.dm (by rw [hes, z3, q4]; rcases two with ⟨e, e2⟩ | ⟨e, e2⟩ <;> omega) nd1 tup1 ld1 (by rw [hlen]; exact hfew) g1 g2 g3 (by rw [hlen]; exact g4) ?_
          intro h2 L2 es2 ep2 t2 sb2 R2 pm2
          exact wpAny_pure (hQ true h2 L2 es2 ep2 t2 (sb.trans sb2) R2 (fun z => absurd z hm) fun _ => pm2.trans pm)
        rcases two with ⟨_, e2⟩ | ⟨_, e2⟩
        · exact go 31 (by rw [e2, size_20]) (.inr (.inl rfl)) (by rw [e2, size_20]; decide) (by omega)
        · exact go 127 (by rw [e2, size_76]) (.inr (.inr rfl)) (by rw [e2, size_76]; decide) (by omega)
      · refine wp_if_neg (by simp [hf]) ?_
        refine wpAny_pure (hQ true h1 L1 es1 (ep + 1) t2 sb ⟨⟨⟨_, ho1, ⟨hex.1, hex.2.1, hex.2.2⟩, rfl⟩, hin, q3', nd1, ld1, ?_, by rw [hlen]; exact hfew⟩, tup1⟩ (fun z => absurd z hm) fun _ => pm)
        rw [z5] at hf
        have nf := mt fl.mpr hf
        rw [hlen, z3, q4]
        omega
    by_cases hp1 : t1.plain = true
    · refine wp_if_pos hp1 (wpAny_bind (hsh_tx hx fun c => ?_))
      cases c
      · exact fin _ rfl rfl rfl rfl rfl
      · exact fin _ rfl rfl rfl rfl rfl
    · refine wp_if_neg hp1 ?_
      exact fin _ rfl rfl rfl rfl rfl
end
end Ky

/-! set(xs), xs a list of tuples of texts -/
namespace Ky
open PySem PySem.Spec PyProof.Rows L2 Kz
structure GotX (ks : List (Addr × List Str)) (i : Nat) (L : List (Addr × List Str)) : Prop where
  sub : ∀ p ∈ L, p ∈ ks.take i
  all : ∀ p ∈ ks.take i, p.2 ∈ L.map (·.2)
  len : L.length ≤ i
theorem GotX.zero (ks : List (Addr × List Str)) : GotX ks 0 [] := ⟨fun p h => (by cases h), fun p h => (by simp at h), Nat.le_refl _⟩
theorem GotX.next {ks L L' : List (Addr × List Str)} {i : Nat} {x : Addr × List Str} (g : GotX ks i L) (h : ks[i]? = some x) (c1 : x.2 ∈ L.map (·.2) → L' = L) (c2 : x.2 ∉ L.map (·.2) → L'.Perm (x :: L)) : GotX ks (i + 1) L' := by
  have e : ks.take (i + 1) = ks.take i ++ [x] := by rw [List.take_add_one, h]; rfl
  by_cases hm : x.2 ∈ L.map (·.2)
  · rw [c1 hm]
    refine ⟨fun p hp => ?_, fun p hp => ?_, Nat.le_succ_of_le g.len⟩
    · rw [e]
      exact List.mem_append_left _ (g.sub p hp)
    · rw [e] at hp
      rcases List.mem_append.mp hp with z | z
      · exact g.all p z
      · rw [List.mem_singleton.mp z]; exact hm
  · have pm := c2 hm
    refine ⟨fun p hp => ?_, fun p hp => ?_, ?_⟩
    · rw [e]
      rcases List.mem_cons.mp (pm.mem_iff.mp hp) with z | z
      · rw [z]; exact List.mem_append_right _ (List.mem_singleton.mpr rfl)
      · exact List.mem_append_left _ (g.sub p z)
    · rw [(pm.map (·.2)).mem_iff, List.map_cons]
      rw [e] at hp
      rcases List.mem_append.mp hp with z | z
      · exact List.mem_cons_of_mem _ (g.all p z)
      · rw [List.mem_singleton.mp z]; exact List.mem_cons_self
    · rw [pm.length_eq, List.length_cons]
      exact Nat.succ_le_succ g.len
def XTup (P : Program) (w : World) (h : Heap) (a : Addr) (L : List (Addr × List Str)) : Prop := ∃ es ep t, TX0 P w h a L es ep t
section
variable {P : Program} {w : World} {A : Around} {E : Value → Shared → Prop} {R : Result → Shared → Prop} {I : Addr} {fp wr : List Addr} {G : Array GenState → Array GenState → Prop} {n : Nat} {Pv : Nat → Value → Prop} {St : Nat → Shared → Prop}
theorem XTup.at {h h' : Heap} {a : Addr} {L : List (Addr × List Str)} (x : XTup P w h a L) (k : ∀ o, h.get? a = some o → h'.get? a = some o) : XTup P w h' a L := by
  obtain ⟨es, ep, t, x⟩ := x
  obtain ⟨o, ho, r⟩ := x.ob
  exact ⟨es, ep, t, ⟨o, k o ho, r⟩, x.rows, x.tab, x.nd, x.led, x.room, x.few⟩
theorem xt_loop (W : WalksS P w A.in1 I fp wr G n Pv St) (S : Addr) (hS : S ∉ fp) (ks : List (Addr × List Str)) (hy : n = ks.length) (hfew : ks.length < 77) (hv : ∀ i v, Pv i v → ∃ p, ks[i]? = some p ∧ v = Value.ref p.1)
    (h0 : Heap) (hk : ∀ p ∈ ks, IsX P w h0 p.2 p.1) (hS0 : h0.get? S = none) (hw0 : ∀ b ∈ wr, h0.get? b = none) (hu : A.in1.units < cLine) :
    ∀ (m i : Nat) (s : Shared), n - i = m → i ≤ n → St i s → (∀ b o, h0.get? b = some o → s.heap.get? b = some o) → (∃ L, XTup P w s.heap S L ∧ GotX ks i L) →
      (∀ s2 L, Moved (S :: wr) G s s2 → XTup P w s2.heap S L → GotX ks n L → (∀ b o, h0.get? b = some o → s2.heap.get? b = some o) → R (.ok (.ret .none)) s2) → codeAny (model P w) A (.builtin "set.update.loop" ⟨[.ref S, .ref I], []⟩) R s := by
  have off : S ∉ wr := fun z => hS (W.sub _ z)
  have more : ∀ b ∈ wr, b ∈ S :: wr := fun b z => List.mem_cons_of_mem _ z
  have kp : ∀ {s1 s2 : Shared}, Moved wr G s1 s2 → (∀ b o, h0.get? b = some o → s1.heap.get? b = some o) → ∀ b o, h0.get? b = some o → s2.heap.get? b = some o := fun mv q b o e =>
    mv.heap b o (fun z => by rw [hw0 b z] at e; cases e) (q b o e)
  intro m
  induction m with
  | zero =>
    intro i s hm hi st q ⟨L, x, g⟩ hR
    obtain rfl : i = n := by omega
    refine codeAny_builtin PyProof.Rows.F.entry_set_update_loop ?_
    rw [Around.under_plainId PyProof.Rows.F.plain_set_update_loop _]
    show wpAny _ A.in1 (pyNext (.ref I) >>= _) _ _ s
    refine wpAny_bind (W.done s _ _ st fun s2 mv => ?_)
    show wpAny _ A.in1 (ret Value.none) _ _ s2
    exact wpAny_pure (hR s2 L (mv.mono more) (x.at fun o e => mv.heap S o off e) g (kp mv q))
  | succ m ih =>
    intro i s hm hi st q ⟨L, x, g⟩ hR
    have lt : i < n := by omega
    refine codeAny_builtin PyProof.Rows.F.entry_set_update_loop ?_
    rw [Around.under_plainId PyProof.Rows.F.plain_set_update_loop _]
    show wpAny _ A.in1 (pyNext (.ref I) >>= _) _ _ s
    refine wpAny_bind (W.item i s _ _ lt st fun v s2 hP st2 mv => ?_)
    obtain ⟨p, hp, rfl⟩ := hv i v hP
    have q2 := kp mv q
    have x2 : XTup P w s2.heap S L := x.at fun o e => mv.heap S o off e
    have up : ∀ p ∈ ks, IsX P w s2.heap p.2 p.1 := fun p hp => isX_keep (hk p hp) fun o e _ => q2 p.1 o e
    have hx := up p (List.mem_of_getElem? hp)
    show wpAny _ A.in1 (holding [Value.ref p.1] (setAdd S (.ref p.1)) >>= _) _ _ s2
    refine wpAny_bind (wpAny_holding ?_)
    unfold setAdd
    refine wpAny_holding ?_
    refine wpAny_bind (wpAny_pyHash_tuple hu hx ?_)
    obtain ⟨es, ep, t, T⟩ := x2
    refine add_x (s := { s2 with toks := s2.toks + (p.2.length + 1) }) ⟨T, fun z hz => up z (List.mem_of_mem_take (g.sub z hz))⟩ hx hu (by have := g.len; omega) fun b h' L' es' ep' t' sb T' c1 c2 => ?_
    have q3 : ∀ b o, h0.get? b = some o → h'.get? b = some o := fun b o e => (sb.2 b (fun z => by rw [z, hS0] at e; cases e)).trans (q2 b o e)
    refine wpAny_pure ⟨plainId_quiet PyProof.Rows.F.plain_set_update_loop _, ih (i + 1) _ (by omega) lt (W.frame _ s2 _ _ st2 (Nat.le_add_right _ _) fun b z o e => ?_) q3 ⟨L', ⟨es', ep', t', T'.toTX0⟩, g.next hp c1 c2⟩ fun s3 L3 mv3 x4 g4 q4 => ?_⟩
    · rw [sb.2 b (fun e1 : b = S => hS (by rw [← e1]; exact z))]
      exact e
    · refine hR s3 L3 (Moved.trans W.gtrans ((mv.mono more).then_heap (Nat.le_add_right _ _) fun b o z e => ?_) mv3) x4 g4 q4
      rw [sb.2 b (fun e1 : b = S => z (by rw [e1]; exact List.mem_cons_self))]
      exact e
end
end Ky
namespace PySem
section
variable {prog : Program} {w : World} {A : Around} {E : Value → Shared → Prop} {s : Shared}
theorem xt_fresh {h : Heap} {a : Addr} (e : h.get? a = some (bareSetZ (!w.params.followText "set-order"))) : Ky.XTup prog w h a [] := by
  refine ⟨#[], 0, .fresh 0 0 (!w.params.followText "set-order"), ⟨⟨_, e, ⟨rfl, rfl, rfl⟩, rfl⟩, rfl, ⟨List.Pairwise.nil, rfl, rfl, .inl rfl, fun x hx => (by cases hx), fun i h j hi => (by simp at hi)⟩, List.nodup_nil, ?_, ?_, ?_⟩⟩
  · show _ ∨ (!w.params.followText "set-order") = true
    cases w.params.followText "set-order" with
    | true => exact .inl rfl
    | false => exact .inr rfl
  · show 0 * 5 < 7 * 3
    decide
  · show 0 < 77
    decide
theorem set_of_tx {l : Addr} {items : Array Value} (ks : List (Addr × List Str)) {Q : Value → Shared → Prop} (hh : A.handled = none) (hl : s.heap.IsList l items) (hit : items.toList = ks.map fun p => Value.ref p.1) (hk : ∀ p ∈ ks, Ky.IsX prog w s.heap p.2 p.1) (hfew : ks.length < 77) (hu : A.units + 3 < cLine)
    (h : ∀ (h' : Heap) (tk : Nat) L, Ky.XTup prog w h' s.heap.objs.size L → Ky.GotX ks ks.length L → (∀ b o, s.heap.get? b = some o → h'.get? b = some o) → Q (.ref s.heap.objs.size) { s with heap := h', toks := tk }) :
    wpAny (model prog w) A (call (.type "set") [.ref l]) Q E s := by
  have a1 := F.called_set.notType; have a2 := F.called_set.canCreate; have a3 := F.typeCall_set_1 (.ref l); have a4 := F.called_set.made; have a5 := F.called_set.sub
  obtain ⟨c, tl, hmro⟩ := F.called_set.mro
  refine wpAny_call (codeAny_of_tree ?_); show wpAny _ _ (callAny (.type "set") _) _ _ _
  refine wpAny_pure ⟨Code.quiet_builtin _ (by decide +kernel), ?_⟩; refine codeAny_builtin F.entry_type_call ?_; rw [Around.under_plain (weight_type_call_type "set" [.ref l] []) rfl]
  repeat (any_goals (first | assumption | wp_step))
  refine codeAny_mono (L2.code_set_led1 (.ref l) (E := E) (Q₁ := fun obj s1 => obj = .ref s.heap.objs.size ∧ s1 = { s with heap := s.heap.push (bareSetZ (!w.params.followText "set-order")) }) ⟨rfl, rfl⟩) fun r s1 hr => ?_
  cases r with
  | error e => exact hr
  | ok fl =>
    cases fl with
    | ret obj =>
      obtain ⟨rfl, rfl⟩ := hr
      have hS : (s.heap.push (bareSetZ (!w.params.followText "set-order"))).get? s.heap.objs.size = some (bareSetZ (!w.params.followText "set-order")) := Heap.get?_push_size _ rfl
      have hT : Shared.TypeIs { s with heap := s.heap.push (bareSetZ (!w.params.followText "set-order")) } (.ref s.heap.objs.size) "set" := ⟨_, hS, rfl⟩
      have b1 := F.called_set.init.lookup; have b2 := F.called_set.init.bind (.ref s.heap.objs.size)
      repeat (any_goals (first | assumption | wp_step))
      refine codeAny_mono (codeAny_call_builtin (R := wants (fun r s2 => r = .none ∧ ∃ h' tk L, s2 = { s with heap := h', toks := tk } ∧ Ky.XTup prog w h' s.heap.objs.size L ∧ Ky.GotX ks ks.length L ∧
          (∀ b o, s.heap.get? b = some o → h'.get? b = some o)) E) F.called_set.init.plain F.entry_set_init (check_set_init_1 hT ?_)) fun r2 s2 hr2 => ?_
      · obtain ⟨ol, hol, hcl, nl, hdl⟩ := hl
        obtain ⟨ocls, odict, odata, oslots⟩ := ol
        simp only at hcl hdl; subst hcl; subst hdl
        have hol' : (s.heap.push (bareSetZ (!w.params.followText "set-order"))).get? l = some { cls := .type "list", dict := odict, data := .seq items nl, slots := oslots } := Heap.get?_push_of_some _ hol
        have d1 := F.sub_list_set; have d2 := F.sub_list_frozenset
        have d3 : (Value.type "list" == Value.type "dict") = false := by decide
        have tp : (s.heap.push (bareSetZ (!w.params.followText "set-order"))).IsList l items := ⟨_, hol', rfl, nl, rfl⟩
        unfold Builtin.«set.__init__» noKeywords Builtin.Frozenset.updateFrom; generalize hPI : pyIter = PI
        wp_walk
        subst hPI
        refine wpAny_pyIter_list tp ?_; refine wpAny_bind (wpAny_runValue ?_)
        have lS : l < s.heap.objs.size := Heap.lt_size hol
        have h3 : A.in1.in1.in1.handled = none := by simp [hh]
        have ne1 : l ≠ (s.heap.push (bareSetZ (!w.params.followText "set-order"))).objs.size := by
          rw [Heap.size_push]; exact Nat.ne_of_lt (Nat.lt_succ_of_lt lS)
        have no1 : s.heap.objs.size ∉ [(s.heap.push (bareSetZ (!w.params.followText "set-order"))).objs.size, l] := by
          rw [Heap.size_push]; simp only [List.mem_cons, List.mem_singleton, List.not_mem_nil, or_false, not_or]; exact ⟨Nat.ne_of_lt (Nat.lt_succ_self _), Nat.ne_of_gt lS⟩
        have isz : items.size = ks.length := by rw [← Array.length_toList, hit, List.length_map]
        have hv : ∀ (i : Nat) (v : Value), items[i]? = some v → ∃ p, ks[i]? = some p ∧ v = .ref p.1 := fun i v hv => by
          rw [← Array.getElem?_toList, hit, List.getElem?_map] at hv
          obtain ⟨p, hp, e⟩ := Option.map_eq_some_iff.mp hv
          exact ⟨p, hp, e.symm⟩
        have off : ∀ b, s.heap.objs.size ≤ b → s.heap.get? b = none := fun b hb => by
          cases q : s.heap.get? b with
          | none => rfl
          | some o => exact absurd (Nat.lt_of_lt_of_le (Heap.lt_size q) hb) (Nat.lt_irrefl _)
        refine Ky.xt_loop ((Walks.list h3 _ l ne1 items).toS) s.heap.objs.size no1 ks isz hfew hv s.heap hk (off _ (Nat.le_refl _)) (fun b hb => off b (by rw [List.mem_singleton.mp hb, Heap.size_push]; exact Nat.le_succ _)) hu (items.size - 0) 0 _ (by omega) (Nat.zero_le _) ⟨⟨_, Heap.get?_push_size _ rfl, rfl, rfl⟩, (tp.push _)⟩
          (fun b o e => Heap.get?_push_of_some _ (Heap.get?_push_of_some _ e)) ?hS0 ?hR
        case hS0 => exact ⟨[], xt_fresh (Heap.get?_push_of_some _ hS), Ky.GotX.zero ks⟩
        case hR =>
          intro s' L mv hS' g' kp'
          rw [isz] at g'
          obtain ⟨h', g', d', tk', os'⟩ := s'
          have eg : g' = s.gens := mv.gens; have ed : d' = s.drawn := mv.drawn; have eo : os' = s.os := mv.os
          subst eg; subst ed; subst eo
          show wpAny _ _ _ _ _ _
          refine wpAny_pure ?_; show wpAny _ _ (ret Value.none) _ _ _
          exact wpAny_pure ⟨rfl, h', tk', L, rfl, hS', g', kp'⟩
      · cases r2 with
        | error e => exact hr2
        | ok fl2 =>
          cases fl2 with
          | ret r =>
            obtain ⟨rfl, h', tk, L, rfl, hS', g', hk'⟩ := hr2
            repeat (any_goals (first | assumption | wp_step))
            exact h _ _ _ hS' g' hk'
          | _ => exact hr2.elim
    | _ => exact hr.elim
end
end PySem

/-! sorted(set(xs)) and len(set(xs)), xs a list of tuples of texts -/
namespace Ky
open PySem PySem.Spec PyProof.Rows L2 Kz
def adV : Value → Addr
  | .ref b => b
  | _ => 0
def kyV (L : List (Addr × List Str)) (v : Value) : List Str := match v with
  | .ref b => ((L.find? fun q => q.1 == b).map (·.2)).getD []
  | _ => []
theorem kyV_at {L : List (Addr × List Str)} (one : ∀ p ∈ L, ∀ q ∈ L, p.1 = q.1 → p.2 = q.2) {p : Addr × List Str} (hp : p ∈ L) : kyV L (.ref p.1) = p.2 := by
  show ((L.find? fun q => q.1 == p.1).map (·.2)).getD [] = p.2
  cases e : L.find? fun q => q.1 == p.1 with
  | none => exact absurd (beq_self_eq_true p.1) (by simpa using List.find?_eq_none.mp e p hp)
  | some q =>
    have h1 : (q.1 == p.1) = true := List.find?_some (p := fun q : Addr × List Str => q.1 == p.1) e
    exact one q (List.mem_of_find?_eq_some e) p hp (beq_iff_eq.mp h1)
section
variable {P : Program} {w : World} {A : Around} {E : Value → Shared → Prop} {s : Shared} {a : Addr} {L : List (Addr × List Str)}
theorem sorted_xt {d : Nat} {Q : Value → Shared → Prop} (hd : 1 ≤ d) (x : XTup P w s.heap a L) (tup : ∀ p ∈ L, p.2.length = d ∧ IsX P w s.heap p.2 p.1) (hh : A.handled = none)
    (hQ : ∀ s' p (out : Array Value) (c : Nat) (L' : List (Addr × List Str)), (∀ b o, s.heap.get? b = some o → s'.heap.get? b = some o) → s'.gens = s.gens → s'.os = s.os → s.heap.objs.size ≤ p →
      s'.heap.get? p = some (seqObj "list" out c) → out.toList = L'.map (fun q => Value.ref q.1) → L'.Perm L → L'.Pairwise (fun q r => lexT r.2 q.2 = false) → Q (.ref p) s') :
    wpAny (model P w) A (call (.builtin "sorted") [.ref a]) Q E s := by
  obtain ⟨es, ep, t, R⟩ := x
  obtain ⟨o, ho, hex, hdt⟩ := R.ob
  have few := R.few
  have hes := rwX_len R.rows
  refine Calls.call_function_entry kind_sorted plain_sorted entry_sorted (args_sorted1 _) ?_
  unfold Builtin.«sorted»
  refine wpAny_bind (m := checkCount "sorted" 1 1 _) (wpAny_pure ?_)
  refine wpAny_bind (collect_set (A := A.in1) hh ⟨o, ho, hex.1, hdt⟩ R.fits (by unfold scanBound; omega) R.tab.ris R.led fun s1 vs k1 hz g1 o1 pm => ?_)
  have one : ∀ p ∈ L, ∀ q ∈ L, p.1 = q.1 → p.2 = q.2 := fun p hp q hq e => by
    have a1 := (tup p hp).2
    rw [e] at a1
    exact a1.inj (tup q hq).2
  have e1 : es.toList.map (·.2) = L.map fun q => Value.ref q.1 := by rw [R.rows, rwX, List.map_map]; rfl
  rw [e1] at pm
  have vl : vs.length = L.length := by rw [pm.length_eq, List.length_map]
  refine wpAny_bind (wpAny_newList ?_ (by rw [sizeLine_eq]; omega))
  have oL : (s1.heap.push (seqObj "list" vs.toArray 0)).get? s1.heap.objs.size = some (seqObj "list" vs.toArray 0) := Heap.get?_push_size _ rfl
  have up : ∀ v ∈ vs, (kyV L v).length = d ∧ ∃ b, v = .ref b ∧ IsX P w (s1.heap.push (seqObj "list" vs.toArray 0)) (kyV L v) b := fun v hv => by
    obtain ⟨q, hq, rfl⟩ := List.mem_map.mp (pm.mem_iff.mp hv)
    rw [kyV_at one hq]
    exact ⟨(tup q hq).1, q.1, rfl, isX_keep (tup q hq).2 fun u e _ => Heap.get?_push_of_some _ (k1 _ u e)⟩
  refine wpAny_bind (wpAny_holding (wpAny_call_entry slot_list_sort ⟨_, oL, rfl⟩ entry_list_sort (SrtO.list_sort_ord (s := { s1 with heap := s1.heap.push (seqObj "list" vs.toArray 0) }) (swo_tx (kyV L)) oL (by rw [sizeLine_eq]; omega)
    (fun h2 => tups_sortable (s := { s1 with heap := s1.heap.push (seqObj "list" vs.toArray 0) }) hd (by omega) up fun u e => ?_) fun out hs hb => ⟨_, rfl, ?_⟩) (args_list_sort _)))
  · have e' : some u = some (seqObj "list" vs.toArray 0) := e.symm.trans oL
    cases e'
    exact fun c => absurd (Value.type.inj c) (by decide)
  · obtain ⟨c, hc⟩ := sortedHeap_at (vs := vs) (out := out.toArray) oL
    have po : out.Perm (L.map fun q => Value.ref q.1) := hb.perm.trans pm
    have back : ∀ v ∈ out, Value.ref (adV v) = v := fun v hv => by
      obtain ⟨q, _, rfl⟩ := List.mem_map.mp (po.mem_iff.mp hv)
      rfl
    refine wpAny_pure ⟨_, rfl, hQ _ s1.heap.objs.size _ c (out.map fun v => (adV v, kyV L v)) (fun b u e => ?_) g1 o1 hz hc ?_ ?_ ?_⟩
    · have q := k1 b u e
      have lt := Heap.lt_size q
      show (sortedHeap (s1.heap.push (seqObj "list" vs.toArray 0)) s1.heap.objs.size vs _).get? b = some u
      rw [sortedHeap_old (Nat.ne_of_lt lt) (by rw [size_push']; exact Nat.lt_succ_of_lt lt)]
      exact Heap.get?_push_of_some _ q
    · show out = _
      rw [List.map_map]
      exact ((List.map_congr_left (g := id) fun v hv => back v hv).trans (List.map_id out)).symm
    · have q := po.map fun v => (adV v, kyV L v)
      rw [List.map_map] at q
      refine q.trans (List.Perm.of_eq ?_)
      refine (List.map_congr_left fun q hq => ?_).trans (List.map_id L)
      show (q.1, kyV L (.ref q.1)) = q
      rw [kyV_at one hq]
    · exact List.pairwise_map.mpr hs
end
section
variable {X : Cx}
theorem items_vals {P : Program} {w : World} : ∀ {k : List Str} {us : List Value}, Vals (k.map V.str) us → ItemsAre (PySem.strKind P w) k us
  | [], _, .nil => .nil
  | n :: k, _, .cons r t => by
    obtain ⟨tk, rfl⟩ := r
    exact .cons (PySem.strKind_is P w n tk) (items_vals t)
theorem refs_vals : ∀ {ks : List (Addr × List Str)} {us : List Value}, Vals (ks.map fun p => V.ref p.1) us → us = ks.map fun p => Value.ref p.1
  | [], _, .nil => rfl
  | p :: ks, _, .cons r t => by
    cases r
    rw [refs_vals t]
    rfl
theorem vals_refs : ∀ (ks : List (Addr × List Str)), Vals (ks.map fun p => V.ref p.1) (ks.map fun p => Value.ref p.1)
  | [] => .nil
  | p :: ks => .cons rfl (vals_refs ks)
theorem isX_of {pins : List (Addr × Obj)} {σ : L2.St} {H : Hp} {s : Shared} {b : Addr} {k : List Str} (I : Inv X pins σ H s) (h : SqT X.K H b (k.map V.str)) : IsX X.prog X.w s.heap k b := by
  obtain ⟨its, r, ⟨o, ho, hc, n, hd⟩, _⟩ := I.tuple h
  exact ⟨o, its.toArray, n, ho, hc, hd, by simpa using items_vals r⟩
/-- a list of tuples of d texts each -/
def Tups (K : PySem.W.Frag) (H : Hp) (d : Nat) (l : Addr) (ks : List (Addr × List Str)) : Prop := SqL K H l (ks.map fun p => V.ref p.1) ∧ ks.length < 77 ∧ ∀ p ∈ ks, p.2.length = d ∧ SqT K H p.1 (p.2.map V.str)
/-- L: what is in the set of these -/
structure Dist (ks L : List (Addr × List Str)) : Prop where
  nd : (L.map (·.2)).Nodup
  sub : ∀ p ∈ L, p ∈ ks
  all : ∀ p ∈ ks, p.2 ∈ L.map (·.2)
def tSorT (K : PySem.W.Frag) (d : Nat) (ta : TE) : TE := fun σ H Q => ta σ H fun x H1 => ∃ (l : Addr) (ks : List (Addr × List Str)), x = V.ref l ∧ Tups K H1 d l ks ∧
  ∀ (L : List (Addr × List Str)) (p : Addr), Dist ks L → L.Pairwise (fun q r => lexT r.2 q.2 = false) → H1 p = none → Q (.ref p) (upd H1 p (.lst (L.map fun q => V.ref q.1)))
def tLenT (K : PySem.W.Frag) (d : Nat) (ta : TE) : TE := fun σ H Q => ta σ H fun x H1 => ∃ (l : Addr) (ks : List (Addr × List Str)), x = V.ref l ∧ Tups K H1 d l ks ∧
  ∀ (L : List (Addr × List Str)), Dist ks L → Q (.int L.length) H1
theorem set_tx {pins : List (Addr × Obj)} {σ : L2.St} {H1 : Hp} {s1 : Shared} {l d : Nat} {ks : List (Addr × List Str)} {A : Around} {E : Value → Shared → Prop} {Q : Value → Shared → Prop} (I : Inv X pins σ H1 s1) (hh : A.handled = none) (hu : A.units + 3 < cLine) (h : Tups X.K H1 d l ks)
    (hQ : ∀ h' tk L, XTup X.prog X.w h' s1.heap.objs.size L → Dist ks L → (∀ b o, s1.heap.get? b = some o → h'.get? b = some o) → Q (.ref s1.heap.objs.size) { s1 with heap := h', toks := tk }) :
    wpAny (model X.prog X.w) A (call (.type "set") [.ref l]) Q E s1 := by
  obtain ⟨hl, hf, hk⟩ := h
  obtain ⟨its, rv, pl, hz⟩ := I.list hl
  refine PySem.set_of_tx (prog := X.prog) (w := X.w) ks hh pl.isList (by simpa using refs_vals rv) (fun p hp => isX_of I (hk p hp).2) hf hu fun h' tk L x g k => hQ h' tk L x ⟨?_, fun p hp => List.mem_of_mem_take (g.sub p hp), fun p hp => g.all p (by rw [List.take_length]; exact hp)⟩ k
  obtain ⟨es, ep, t, x⟩ := x
  exact x.nd
theorem fin_refs {pins : List (Addr × Obj)} {σ : L2.St} {H1 : Hp} {s2 s' : Shared} {p c : Nat} {out : Array Value} {L : List (Addr × List Str)} (I2 : Inv X pins σ H1 s2) (k : ∀ b o, s2.heap.get? b = some o → s'.heap.get? b = some o) (g : s'.gens = s2.gens) (o : s'.os = s2.os) (hp : s2.heap.objs.size ≤ p)
    (hgt : s'.heap.get? p = some (seqObj "list" out c)) (hout : out.toList = L.map fun q => Value.ref q.1) (hl : L.length ≤ 77) : H1 p = none ∧ Inv X pins σ (upd H1 p (.lst (L.map fun q => V.ref q.1))) s' := by
  have hlen : (L.map fun q => V.ref q.1).length ≤ sizeLine := by rw [List.length_map, sizeLine_eq]; omega
  have hn : H1 p = none := I2.hok.fresh hp
  have J : Inv X pins σ (upd H1 p (.lst (L.map fun q => V.ref q.1))) { s2 with heap := s'.heap, gens := s'.gens, drawn := s'.drawn, toks := s'.toks } :=
    I2.call (ch := []) (Un.laid k hp hn) (I2.hok.laid k hp ⟨hlen, out.toList, c, by rw [hout]; exact vals_refs L, hgt⟩) (by rw [g]; exact I2.bare) (fun _ z => nomatch z)
  have e : s' = { s2 with heap := s'.heap, gens := s'.gens, drawn := s'.drawn, toks := s'.toks } := by
    cases s'
    cases s2
    cases o
    rfl
  rw [e]
  exact ⟨hn, J⟩
theorem pe_sorT {a : Expr} {ta : TE} {d : Nat} {p p2 q pos : Pos} (hc : X.calm = true) (hu : X.A.units + 64 < cLine) (hd : 1 ≤ d) (hg : Gl X "sorted") (hm : X.mg "sorted" = none) (hg2 : Gl X "set") (hm2 : X.mg "set" = none) (ha : PE X a ta) (na : starEach [a] X.env = (false, eval a X.env) :: starEach [] X.env := by rfl) :
    PE X (.Call (.Name "sorted" p) [.Call (.Name "set" p2) [a] [] q] [] pos) (tSorT X.K d ta) := by
  refine ⟨fun pins s σ H Q I h => ?_⟩
  refine Call_ (ld_blt I hg hm PyProof.Rows.boot_sorted ?_)
  refine PyProof.Rows.callWith_builtin1 (PyProof.Rows.args_cons ?_ rfl) rfl rfl
  refine Call_ (ld_blt I hg2 hm2 PyProof.Rows.boot_set ?_)
  refine PyProof.Rows.callWith_type1 (PyProof.Rows.args_cons (thn (ha.run pins s σ H _ I h) fun v s1 ⟨x, H1, I1, r1, hh⟩ => PyProof.Rows.args_nil ?_) na) na rfl
  obtain ⟨l, ks, rfl, ht, hQ⟩ := hh
  cases r1
  refine set_tx I1 (I1.ok.hd hc) (by omega) ht fun h' tk L hS D hk => ?_
  refine PyProof.Rows.args_nil ?_
  have I2 : Inv X pins σ H1 { s1 with heap := h', toks := tk } := I1.kept hk
  refine sorted_xt (s := { s1 with heap := h', toks := tk }) hd hS (fun p hp => ⟨(ht.2.2 p (D.sub p hp)).1, isX_of I2 (ht.2.2 p (D.sub p hp)).2⟩) (I2.ok.hd hc) fun s' p out c L' k g o hp hgt hout pm pw => ?_
  have hfew : L.length < 77 := by obtain ⟨es, ep, t, x⟩ := hS; exact x.few
  have D' : Dist ks L' := ⟨(pm.map (·.2)).nodup_iff.mpr D.nd, fun p hp => D.sub p (pm.mem_iff.mp hp), fun p hp => (pm.map (·.2)).mem_iff.mpr (D.all p hp)⟩
  obtain ⟨hn, J⟩ := fin_refs I2 k g o hp hgt hout (by rw [pm.length_eq]; omega)
  exact ⟨.ref p, _, J, rfl, hQ L' p D' pw hn⟩
theorem pe_lenT {a : Expr} {ta : TE} {d : Nat} {p p2 q pos : Pos} (hc : X.calm = true) (hu : X.A.units + 64 < cLine) (hg : Gl X "len") (hm : X.mg "len" = none) (hg2 : Gl X "set") (hm2 : X.mg "set" = none) (ha : PE X a ta)
    (na : starEach [a] X.env = (false, eval a X.env) :: starEach [] X.env := by rfl) : PE X (.Call (.Name "len" p) [.Call (.Name "set" p2) [a] [] q] [] pos) (tLenT X.K d ta) := by
  refine ⟨fun pins s σ H Q I h => ?_⟩
  refine Call_ (ld_blt I hg hm PySem.boot_len ?_)
  refine PyProof.Rows.callWith_builtin1 (PyProof.Rows.args_cons ?_ rfl) rfl rfl
  refine Call_ (ld_blt I hg2 hm2 PyProof.Rows.boot_set ?_)
  refine PyProof.Rows.callWith_type1 (PyProof.Rows.args_cons (thn (ha.run pins s σ H _ I h) fun v s1 ⟨x, H1, I1, r1, hh⟩ => PyProof.Rows.args_nil ?_) na) na rfl
  obtain ⟨l, ks, rfl, ht, hQ⟩ := hh
  cases r1
  refine set_tx I1 (I1.ok.hd hc) (by omega) ht fun h' tk L hS D hk => ?_
  refine PyProof.Rows.args_nil ?_
  have I2 : Inv X pins σ H1 { s1 with heap := h', toks := tk } := I1.kept hk
  obtain ⟨es, ep, t, R⟩ := hS
  obtain ⟨o, ho, hex, hd⟩ := R.ob
  have z := rwX_len R.rows
  have z2 := R.few
  refine call_len_set ho hex hd (TX0.fits (s := { s1 with heap := h', toks := tk }) R) (by rw [z]; omega) ⟨.int L.length, H1, I2.tok _, ⟨_, by rw [z]⟩, hQ L D⟩
end
theorem nd_len {α : Type} [DecidableEq α] : ∀ (l D : List α), l.Nodup → (∀ x ∈ l, x ∈ D) → l.length ≤ D.length
  | [], _, _, _ => Nat.zero_le _
  | x :: l, D, hn, hs => by
    obtain ⟨h1, h2⟩ := List.nodup_cons.mp hn
    have hx : x ∈ D := hs x List.mem_cons_self
    have ih := nd_len l (D.erase x) h2 fun y hy => (List.mem_erase_of_ne (fun e : y = x => h1 (by rw [← e]; exact hy))).2 (hs y (List.mem_cons_of_mem _ hy))
    have e := List.length_erase_of_mem hx
    have hp : 0 < D.length := List.length_pos_of_mem hx
    rw [List.length_cons]
    omega
theorem nd_perm {α : Type} [DecidableEq α] : ∀ (l D : List α), l.Nodup → (∀ x ∈ l, x ∈ D) → D.length ≤ l.length → l.Perm D
  | [], D, _, _, h => by rw [List.eq_nil_of_length_eq_zero (Nat.le_zero.mp h)]
  | x :: l, D, hn, hs, h => by
    obtain ⟨h1, h2⟩ := List.nodup_cons.mp hn
    have hx : x ∈ D := hs x List.mem_cons_self
    have e := List.length_erase_of_mem hx
    rw [List.length_cons] at h
    have ih := nd_perm l (D.erase x) h2 (fun y hy => (List.mem_erase_of_ne (fun e : y = x => h1 (by rw [← e]; exact hy))).2 (hs y (List.mem_cons_of_mem _ hy))) (by omega)
    exact (ih.cons x).trans (List.perm_cons_erase hx).symm
theorem Dist.keys {ks L : List (Addr × List Str)} (D : Dist ks L) : ∀ z ∈ L.map (·.2), z ∈ ks.map (·.2) := fun z hz => by
  obtain ⟨p, hp, e⟩ := List.mem_map.mp hz
  exact List.mem_map.mpr ⟨p, D.sub p hp, e⟩
theorem Dist.le {ks L : List (Addr × List Str)} (D : Dist ks L) : L.length ≤ ks.length := by
  have l1 := nd_len _ _ D.nd D.keys
  rwa [List.length_map, List.length_map] at l1
/-- as many in the set as in the list: all differ -/
theorem Dist.len_iff {ks L : List (Addr × List Str)} (D : Dist ks L) : L.length = ks.length ↔ (ks.map (·.2)).Nodup := by
  constructor
  · intro e
    exact (nd_perm _ _ D.nd D.keys (by rw [List.length_map, List.length_map, e]; exact Nat.le_refl _)).nodup_iff.mp D.nd
  · intro nd
    have l2 := nd_len _ _ nd (fun z hz => by
      obtain ⟨p, hp, rfl⟩ := List.mem_map.mp hz
      exact D.all p hp : ∀ z ∈ ks.map (·.2), z ∈ L.map (·.2))
    have l1 := D.le
    rw [List.length_map, List.length_map] at l2
    omega
/-- what stands sorted and distinct stands in one way only -/
theorem sortT_uniq : ∀ {xs ys : List (List Str)}, xs.Pairwise (fun a b => lexT b a = false) → ys.Pairwise (fun a b => lexT b a = false) → xs.Perm ys → xs = ys
  | [], ys, _, _, h => (List.nil_perm.mp h).symm
  | x :: xs, [], _, _, h => by have := h.length_eq; simp at this
  | x :: xs, y :: ys, hx, hy, h => by
    obtain ⟨h1, h2⟩ := List.pairwise_cons.mp hx
    obtain ⟨g1, g2⟩ := List.pairwise_cons.mp hy
    have e : x = y := by
      have a : x ∈ y :: ys := h.mem_iff.mp List.mem_cons_self
      have b : y ∈ x :: xs := h.mem_iff.mpr List.mem_cons_self
      rcases List.mem_cons.mp a with a | a
      · exact a
      · rcases List.mem_cons.mp b with b | b
        · exact b.symm
        · exact lexT_anti (g1 x a) (h1 y b)
    subst e
    rw [sortT_uniq h2 g2 ((List.perm_cons x).mp h)]
end Ky

/-! d.items(), d a dict whose keys are tuples -/
namespace L2
open PySem PySem.Spec PyProof.Rows
section
variable {X : Cx} {pins : List (Addr × Obj)} {σ : St} {H : Hp} {s : Shared} {d : Addr} {o : Obj}
theorem paired_at {α β : Type} {F : α → β → Prop} : ∀ {l₁ : List α} {l₂ : List β} {i : Nat} {x : α}, Paired F l₁ l₂ → l₁[i]? = some x → ∃ y, l₂[i]? = some y ∧ F x y
  | _, _, i, x, .nil, e => by simp at e
  | _, _, 0, x, .cons h t, e => ⟨_, rfl, by cases e; exact h⟩
  | _, _, i + 1, x, .cons h t, e => by
    obtain ⟨y, h1, h2⟩ := paired_at t (i := i) (by simpa using e)
    exact ⟨y, by simpa using h1, h2⟩
theorem Inv.frzTV {kvs : List (List Key × V)} (I : Inv X pins σ H s) (h : H d = some (.frz o (.dT kvs))) :
    (d == sysModules) = false ∧ s.heap.get? d = some o ∧ o.ExactDict ∧ ∃ (es : Array DictEntry) (ep : Nat), o.data = .dict es ep ∧ es.size = kvs.length ∧
      ∀ (i : Nat) (k : List Key) (v : V), kvs[i]? = some (k, v) → ∃ (en : DictEntry) (q : Addr), es[i]? = some en ∧ en.key = .ref q ∧ H q = some (.tup (k.map kV)) ∧ RelV v en.val := by
  obtain ⟨hd, z, hs, xs, pr, o', es, ep, ho, hx, hdt, he, _⟩ := I.hok d _ h
  rw [hd] at ho
  cases ho
  refine ⟨hs, hd, hx, es, ep, hdt, ?_, fun i k v e => ?_⟩
  · have l1 : es.size = xs.length := size_of_entries he
    have l2 : kvs.length = xs.length := Paired.length pr
    omega
  · obtain ⟨b, hb, e1, e2, e3⟩ := paired_at pr e
    have q := entry_at he i
    rw [hb] at q
    exact ⟨_, b.2.1, q, rfl, e2, e3⟩
end
/-- the pairs, each a new tuple of the key's own tuple and the value -/
def Itit (d : Addr) (o : Obj) (kvs : List (List Key × V)) : It :=
  ⟨fun i H => H d = some (.frz o (.dT kvs)) ∧ i < kvs.length, fun i H x H' => ∃ (T q : Addr) (k : List Key) (v : V), kvs[i]? = some (k, v) ∧ H q = some (.tup (k.map kV)) ∧ x = .ref T ∧ H T = none ∧ H' = upd H T (.tup [.ref q, v]), fun i H => H d = some (.frz o (.dT kvs)) ∧ kvs.length ≤ i⟩
theorem turn_itemsT {P : Program} {w : World} {K : PySem.W.Frag} {d : Addr} {o : Obj} {es : Array DictEntry} {ep : Nat} {kvs : List (List Key × V)} {elts : List Expr} {kk : Nat} {tpos : Pos} (it : Addr) (hod : o.data = .dict es ep) :
    Turn P w K (.Tuple elts kk tpos) (Itit d o kvs) [it] it (fun i h => ∃ ok ov, IsItemIter h it d i kvs.length ep ok ov) where
  mem := by simp
  obj := fun i h st b hb => by
    have e : b = it := by simpa using hb
    subst e
    obtain ⟨ok, ov, e⟩ := st
    exact ⟨_, e, fun v z => nomatch z⟩
  keep := fun i h h' st k => let ⟨ok, ov, e⟩ := st; ⟨ok, ov, k it (by simp) _ e⟩
  item := by
    intro X hP hw hK hc i pins s σ H E I hf st hg
    subst hP hw hK
    obtain ⟨hd, hi⟩ := hg
    obtain ⟨hs, hgd, hx, es', ep', hdt, hsz, ent⟩ := I.frzTV hd
    obtain ⟨rfl, rfl⟩ := dict_ep hod hdt
    obtain ⟨⟨k, v⟩, hkv⟩ : ∃ p, kvs[i]? = some p := ⟨kvs[i], List.getElem?_eq_getElem hi⟩
    obtain ⟨en, q, hen, hkey, hq, rv⟩ := ent i k v hkv
    obtain ⟨ok, ov, he⟩ := st
    rw [← hsz] at he
    have hi' : i < es'.size := by rw [hsz]; exact hi
    have een : es'[i] = en := by
      rw [Array.getElem?_eq_getElem hi'] at hen
      exact Option.some.inj hen
    have hlt : it < s.heap.objs.size := Heap.lt_size he
    refine DT.nextI he ⟨o, hgd, hx, hod⟩ hi' fun h' ho hT hz hk => ?_
    rw [een, hkey] at hT ho
    refine ⟨_, rfl, wpAny_letOwnedTupleGo_items (s := { s with heap := h' }) ho fun h'' he' sb => ?_⟩
    have hT2 : h''.get? s.heap.objs.size = some { cls := .type "tuple", data := .seq #[.ref q, en.val] } := (sb.2 _ (Nat.ne_of_gt hlt)).trans hT
    have new : ObjOk X.prog X.w (upd H s.heap.objs.size (.tup [.ref q, v])) h'' s.heap.objs.size (.tup [.ref q, v]) :=
      ⟨by show 2 ≤ sizeLine; decide, [.ref q, en.val], .cons rfl (.cons rv .nil), ⟨_, hT2, rfl, _, rfl⟩⟩
    have I1 : Inv X pins σ (upd H s.heap.objs.size (.tup [.ref q, v])) { s with heap := h'' } :=
      I.turnedNew (t' := s.toks) (ch := [it]) (fun b ob hb e => (sb.2 b (by simpa using hb)).trans (hk b ob (by simpa using hb) e)) hf (Nat.le_refl _) new
    refine ⟨.ref s.heap.objs.size, _, I1, rfl, ⟨_, q, k, v, hkv, hq, rfl, I.hok.fresh (Nat.le_refl _), rfl⟩, ⟨.ref q, en.val, ?_⟩, fun b hb => ?_⟩
    · rw [← hsz]; exact he'
    · have e : b = it := by simpa using hb
      rw [e, upd_ne (Nat.ne_of_lt hlt)]
      exact (hf it (by simp)).1
  done := by
    intro X hP hw hK hc i pins s σ H E I hf st hg
    subst hP hw hK
    obtain ⟨hd, hi⟩ := hg
    obtain ⟨f0, f1, f2, f3, f4, f5⟩ := hf it (by simp)
    obtain ⟨hs, hgd, hx, es', ep', hdt, hsz, ent⟩ := I.frzTV hd
    obtain ⟨rfl, rfl⟩ := dict_ep hod hdt
    obtain ⟨ok, ov, he⟩ := st
    rw [← hsz] at he
    exact DT.endI (I.ok.hd hc) he ⟨o, hgd, hx, hod⟩ (by omega) fun h' eb => ⟨rfl, I.turned (t' := s.toks) (fun b ob hb e => eb b ob hb e) f0 f1 f3 f4 f5⟩
  self := fun A i s Q E st h => let ⟨_, _, e⟩ := st; PySem.W.kcp_self e h
def iItemsT (td : TE) : TI := fun σ H R => td σ H fun x H1 => ∃ d o kvs, x = .ref d ∧ H1 d = some (.frz o (.dT kvs)) ∧ R (Itit d o kvs) H1
theorem pi_itemsT {X : Cx} {e : Expr} {td : TE} {apos cpos : Pos} {elts : List Expr} {kk : Nat} {tpos : Pos} (he : PE X e td) (hbase : attributeBase e "items" X.env (eval e X.env) = eval e X.env := by rfl) (hline : (apos.endLine == cpos.line) = true := by rfl) :
    PI X (.Tuple elts kk tpos) (.Call (.Attribute e "items" apos) [] [] cpos) (iItemsT td) := by
  refine ⟨fun pins s σ H R I h => ?_⟩
  refine wpAny_Call_method (T := "dict") (id := "dict.items") hbase rfl hline F.plainAttrs_dict F.slot_dict_items F.type_dict_items (thn (he.run pins s σ H _ I h) fun u s1 ⟨x, H1, I1, rx, d, o, kvs, ex, hd, q⟩ => ?_)
  subst ex
  obtain rfl : u = Value.ref d := rx
  obtain ⟨hs, hgd, hx, es, ep, hdt, hsz, ent⟩ := I1.frzTV hd
  have raw : DT.Raw s1.heap d es ep := ⟨o, hgd, hx, hdt⟩
  refine ⟨raw.typeIs, fun b q => by cases q; exact ⟨o, hgd, hx.2.1⟩, ?_⟩
  have I2 : Inv X pins σ H1 { s1 with heap := s1.heap.push { cls := .type "dict_items", data := .fields #[.ref d] } } := I1.kept (t' := s1.toks) fun b ob q => Heap.get?_push_of_some _ q
  have fin : wpAny (model X.prog X.w) X.A (pyIter (.ref s1.heap.objs.size)) (PIE X pins σ (.Tuple elts kk tpos) R) X.xe { s1 with heap := s1.heap.push { cls := .type "dict_items", data := .fields #[.ref d] } } := by
    refine DT.iterI (d := d) ⟨_, Heap.get?_push_size _ rfl, rfl, rfl⟩ (raw.push _) (pi_one (tk := s1.toks) I2 _ (turn_itemsT _ hdt) ⟨.none, .none, ?_⟩ q)
    rw [← hsz]
    exact Heap.get?_push_size _ rfl
  show wpAny _ _ (callWith cpos (.builtin "dict.items") [.ref d] [] []) _ X.xe s1
  exact method_meetsIn F.slot_dict_items F.entry_dict_items rfl (PySem.evalArgs_none ⟨rfl, raw.typeIs, F.args_dict_items_1 _, _, DT.meetsItems hs, raw, fin⟩)
theorem walk_itemsT {d : Addr} {o : Obj} {kvs : List (List Key × V)} : Walk (Itit d o kvs) kvs.length (fun H => H d = some (.frz o (.dT kvs)))
    (fun i H x H' => ∃ (T q : Addr) (k : List Key) (v : V), kvs[i]? = some (k, v) ∧ H q = some (.tup (k.map kV)) ∧ x = .ref T ∧ H T = none ∧ H' = upd H T (.tup [.ref q, v])) :=
  ⟨fun _ _ hi q => ⟨q, hi⟩, fun _ q => ⟨q, Nat.le_refl _⟩, fun _ _ _ _ _ _ y => y⟩
end L2

/-! {k: v for target in iter}, the keys tuples -/
namespace L2
open PySem PySem.Spec PyProof.Rows
section
variable {X : Cx}
theorem d_putT {pins : List (Addr × Obj)} {σ : St} {H : Hp} {s : Shared} {E : Value → Shared → Prop} {D b : Addr} {kvs : List (List Key × V)} {k : List Key} {v : V} {r : Value} {Q : Unit → Shared → Prop} (hu : X.A.units < cLine) (I : Inv X pins σ H s) (hD : H D = some (.dT kvs)) (hb : H b = some (.tup (k.map kV)))
    (hz : kvs.length < sizeLine) (rv : RelV v r) (h : ∀ s', Inv X pins σ (upd H D (.dT (putK kvs k v))) s' → Q () s') : wpAny (model X.prog X.w) X.A (dictSet D (.ref b) r) Q E s := by
  obtain ⟨z, hd, xs, rel, dd⟩ := dt_of I.hok hD
  have hx : xs.length ≤ sizeLine := by rw [← Paired.length rel]; exact z
  have hl : (putK kvs k v).length ≤ sizeLine := by have := length_putK kvs k v; omega
  refine wpAny_dictSet_heap (knd := tupleKind (mixKind X.prog X.w)) (hsz := hx) hu (key_of I.hok hb) dd fun h' dd' hs => h _ ?_
  obtain ⟨q, es, ep, hq, h2, h3, h4, _, h5⟩ := dd'
  refine d_write I (by rw [hD]; exact True.intro) hs ⟨q, hq⟩ ⟨hl, hd, _, (rel.put k hb rv).keeps fun c ys ec => ?_, q, es, ep, hq, h2, h3, h4, h5⟩
  rw [upd_ne (ne_of ec hD (fun z => nomatch z))]
  exact ec
/-- D is the new dict -/
def tDcT (wi : TI) (g : TG) (tk tv : TE) (vs : List Nat) : TE := fun σ H Q => wi σ H fun J H1 => ∀ D, H1 D = none → ∃ W : Nat → Nat → Hp → Prop, (∃ m, W 0 m (upd H1 D (.dT []))) ∧ ∀ i m H, W i m H →
  (J.stop i H ∧ Q (.ref D) H) ∨ (J.go i H ∧ ∃ Nx : Hp → Prop, (∀ H', Nx H' → ∃ m', m' < m ∧ W (i + 1) m' H') ∧ ∀ x H', J.yld i H x H' → g x (wipe σ vs) H' fun σ2 H2 => wipe σ2 vs = wipe σ vs ∧
    tk σ2 H2 fun y H4 => tv σ2 H4 fun z H5 => ∃ kvs b k, y = .ref b ∧ H5 b = some (.tup (k.map kV)) ∧ H5 D = some (.dT kvs) ∧ kvs.length < sizeLine ∧ Nx (upd H5 D (.dT (putK kvs k z))))
theorem pe_dcT {kx vx tg iter : Expr} {scope : Scope} {own : List (Str × Nat)} {pos : Pos} {wi : TI} {g : TG} {tk tv : TE} (hc : X.calm = true) (hu : X.A.units < cLine) (hN : X.N.Nodup) (hi : PI X tg iter wi) (ok : BlkOk X.N X.env.scope scope own)
    (hg : ∀ (s : Shared) (H : Hp) (C : Addr) (cl : List (Str × Addr)) (fp : List Addr), PG (X.blk s H scope (compEnvC scope cl C X.env) fp) tg g)
    (hk : ∀ (s : Shared) (H : Hp) (C : Addr) (cl : List (Str × Addr)) (fp : List Addr), PE (X.blk s H scope (compEnvC scope cl C X.env) fp) kx tk)
    (he : ∀ (s : Shared) (H : Hp) (C : Addr) (cl : List (Str × Addr)) (fp : List Addr), PE (X.blk s H scope (compEnvC scope cl C X.env) fp) vx tv) (hs : ∀ x, foldedSetIterable iter X.env x = pure x := by intro _; rfl) :
    PE X (.DictComp kx vx [⟨tg, iter, [], 0⟩] scope pos) (tDcT wi g tk tv (own.map (·.2))) := by
  refine ⟨fun pins s σ H Q I h => ?_⟩
  rw [arm_eval_DictComp]
  have caught : ∀ y ∈ scope.names, y.2 = .free → ∃ c, X.env.cells.lookup y.1 = some c := fun y hy e => (ok.free y hy e).elim (fun k => I.ok.has _ (.inl k)) fun k => I.ok.has _ (.inr k)
  refine wpAny_comprehension_free (use := none) rfl hs (closure_ok caught) ok.kind (fun y hy e => by rw [ok.uniq y hy, e]) ?_
  refine thn (hi.run pins s σ H _ I h) fun xv sa ha => thn ha fun itv sb hb => ?_
  obtain ⟨it, fp, tn, J, Hb, e, Ib, T, tb, fb, q⟩ := hb
  subst e
  refine wpAny_newObj_type (newEnv_comp ?_)
  generalize hD : sb.heap.objs.size = D
  have nD : Hb D = none := Ib.hok.fresh (Nat.le_of_eq hD)
  obtain ⟨W, ⟨m0, w0⟩, turn⟩ := q D nD
  generalize hc3 : ({ sb with heap := sb.heap.push { cls := .type "dict", data := .dict #[] } } : Shared) = s3
  have heap3 : s3.heap = sb.heap.push { cls := .type "dict", data := .dict #[] } := by rw [← hc3]
  have I3 : Inv X pins σ (upd Hb D (.dT [])) s3 := by
    rw [← hc3]
    refine Ib.laid (t' := sb.toks) (fun b o e => Heap.get?_push_of_some _ e) (Nat.le_of_eq hD) ?_
    rw [← hD]
    exact dt_empty sb.heap Ib.big
  have small : ∀ b ∈ fp, b < sb.heap.objs.size := fun b hb => by
    obtain ⟨o, e, _⟩ := T.obj _ _ tb b hb
    exact Heap.lt_size e
  have f3 : ∀ b ∈ fp, FpOk X pins (upd Hb D (.dT [])) b ∧ b < s3.heap.objs.size := fun b hb => by
    have hlt := small b hb
    refine ⟨⟨?_, (fb b hb).2⟩, by rw [heap3, Heap.size_push]; exact Nat.lt_succ_of_lt hlt⟩
    rw [upd_ne (by rw [← hD]; exact Nat.ne_of_lt hlt)]
    exact (fb b hb).1
  have t3 : tn 0 s3.heap := T.keep _ _ _ tb fun b _ o e => by rw [heap3]; exact Heap.get?_push_of_some _ e
  have nfp : ∀ b ∈ fp, (upd Hb D (.dT [])) b = none := fun b hb => (f3 b hb).1.1
  have ff : ∀ b ∈ fp, FpOk X pins (upd Hb D (.dT [])) b := fun b hb => (f3 b hb).1
  have I4 := block_start I3 ok hN f3
  have pg := hg s3 (upd Hb D (.dT [])) s3.heap.objs.size (cellsFrom (s3.heap.objs.size + 1) scope.names (cloFrom X.env.cells scope.names [])) fp
  have pk := hk s3 (upd Hb D (.dT [])) s3.heap.objs.size (cellsFrom (s3.heap.objs.size + 1) scope.names (cloFrom X.env.cells scope.names [])) fp
  have pe := he s3 (upd Hb D (.dT [])) s3.heap.objs.size (cellsFrom (s3.heap.objs.size + 1) scope.names (cloFrom X.env.cells scope.names [])) fp
  show codeAny _ _ (.compStart (.DictComp kx vx [⟨tg, iter, [], 0⟩] scope pos) 0 (.ref it) (.ref D) (compEnvC scope (cellsFrom (s3.heap.objs.size + 1) scope.names (cloFrom X.env.cells scope.names [])) s3.heap.objs.size X.env)) (compPost (model X.prog X.w) X.A X.xe none (EP X pins σ Q) (.ref D) s3.heap.objs.size) { s3 with heap := pushCells (s3.heap.push { cls := .type "dict", data := .dict #[] }) scope.names }
  generalize hce : compEnvC scope (cellsFrom (s3.heap.objs.size + 1) scope.names (cloFrom X.env.cells scope.names [])) s3.heap.objs.size X.env = ce at I4 pg pk pe ⊢
  have cL : ce.locals = s3.heap.objs.size := by subst hce; rfl
  generalize hH3 : upd Hb D (.dT []) = H3 at I3 I4 pg pk pe w0 nfp ff
  generalize hs4 : ({ s3 with heap := pushCells (s3.heap.push { cls := .type "dict", data := .dict #[] }) scope.names } : Shared) = s4 at I4 ⊢
  have t4 : tn 0 s4.heap := T.keep _ _ _ t3 fun b _ o e => by rw [← hs4]; exact pushCells_keeps _ _ _ _ (Heap.get?_push_of_some _ e)
  have still : ∀ {σ' : St} {H' : Hp} {s' : Shared}, Inv (X.blk s3 H3 scope ce fp) [] σ' H' s' → (∀ b ∈ fp, H' b = none) → ∀ b ∈ fp, FpOk (X.blk s3 H3 scope ce fp) [] H' b := fun {σ' H' s'} I' hn b hb =>
    ⟨hn b hb, (I'.ok.exf b hb).1, I'.ok.exfs b hb, .inl hb, fun x c e => (I'.ok.exf b hb).2 x c e, fun p hp => absurd (show p ∈ ([] : List (Addr × Obj)) ++ [] from hp) (by simp)⟩
  have loop : codeAny (model X.prog X.w) X.A (.compLoop (.DictComp kx vx [⟨tg, iter, [], 0⟩] scope pos) 0 (.ref it) (.ref D) ce) (compPost (model X.prog X.w) X.A X.xe none (EP X pins σ Q) (.ref D) s3.heap.objs.size) s4 := by
    refine compLoop_anyD (fun n s' => ∃ i H', Inv (X.blk s3 H3 scope ce fp) [] (wipe σ (own.map (·.2))) H' s' ∧ tn i s'.heap ∧ (∀ b ∈ fp, H' b = none) ∧ W i n H') ?_ m0 ⟨0, H3, I4, t4, nfp, w0⟩
    rintro n s5 ⟨i, H5, I5, t5, n5, w5⟩
    rcases turn i n H5 w5 with ⟨stop, qq⟩ | ⟨go, Nx, hNx, step⟩
    · refine thnF (T.done (X.blk s3 H3 scope ce fp) rfl rfl rfl hc i [] s5 _ H5 (fun _ _ => False) I5 (still I5 n5) t5 stop) fun r s6 ⟨hr, I6⟩ => ?_
      subst hr
      have I7 : Inv X pins σ H5 s6 := I3.call' (ch := fp) I6.os I6.base I6.hok I6.bare fun b hb => ⟨(ff b hb).2.2.2.1, (ff b hb).2.1, (ff b hb).2.2.2.2.1, (ff b hb).2.2.2.2.2⟩
      have nC : H5 s3.heap.objs.size = none := by
        have z : H5 ce.locals = none := I6.free
        rw [cL] at z
        exact z
      obtain ⟨m, hn, _⟩ := I6.loc
      have hn : s6.heap.Ns ce.locals m := hn
      rw [cL] at hn
      obtain ⟨f0, f1, f2, f3, f4, f5⟩ := I3.fpOk (Nat.le_refl _) nC
      exact ⟨m, hn, fun h'' sb => ⟨.ref D, H5, I7.turned (t' := s6.toks) (fun b o hb e => (sb.2 b hb).trans e) f0 f1 f3 f4 f5, rfl, qq⟩⟩
    · refine thnF (T.item (X.blk s3 H3 scope ce fp) rfl rfl rfl hc i [] s5 _ H5 (fun _ _ => False) I5 (still I5 n5) t5 go) fun r s6 ⟨u, hr, h6⟩ => ?_
      subst hr
      refine thnF h6 fun _ s7 ⟨x, H7, I7, r7, y7, t7, n7⟩ => ?_
      have J7 := I7.pinned (still I7 n7) (T.obj _ _ t7)
      refine thnF (pg.run _ s7 _ H7 x u _ J7 r7 (step x H7 y7)) fun _ s8 ⟨σ8, H8, I8, hw8, q8⟩ => ?_
      refine thnF ((pts_nil (X := X.blk s3 H3 scope ce fp)).run _ s8 σ8 H8 (fun b H' => b = true ∧ H' = H8) I8 ⟨rfl, rfl⟩) fun b s9 ⟨H9, I9, eb, e9⟩ => ?_
      subst eb e9
      simp only [if_true]
      refine thnF (pk.run _ s9 σ8 H9 _ I9 q8) fun z s10 ⟨yk, H10, I10, r10, q10⟩ => ?_
      refine thnF (pe.run _ s10 σ8 H10 _ I10 q10) fun z2 s11 ⟨yv, H11, I11, r11, kvs, b, k, ek, hb11, hD11, hz11, nx⟩ => ?_
      subst ek
      cases r10
      refine d_putT (X := X.blk s3 H3 scope ce fp) hu I11 hD11 hb11 hz11 r11 fun s12 I12 => ?_
      obtain ⟨m', hm, w'⟩ := hNx _ nx
      have held : ∀ b ∈ fp, ∀ o, s7.heap.get? b = some o → s12.heap.get? b = some o ∧ (upd H11 D (.dT (putK kvs k yv))) b = none := fun b hb o e =>
        let z := I12.pin (b, o) (List.mem_append_right _ (List.mem_append_right _ (mem_pinsAt hb e)))
        ⟨z.1, z.2.1⟩
      have hl : (wipe σ (own.map (·.2))).length = σ8.length := by rw [← hw8, wipe_length]
      refine ⟨m', hm, i + 1, _, (I12.unpinned (pins := [])).weak hl (fun j v e => ?_), T.keep _ _ _ t7 fun b hb o e => (held b hb o e).1, fun b hb => ?_, w'⟩
      · rw [← hw8] at e
        exact (wipe_some e).1
      · obtain ⟨o, e, _⟩ := T.obj _ _ t7 b hb
        exact (held b hb o e).2
  exact codeAny_compStart_dict loop (T.self X.A 0 _ _ _ t4 loop)
end
end L2

/-! d == e, both dicts of tuple keys and texts -/
namespace L2
open PySem PySem.Spec PyProof.Rows
inductive HitsX {K : Type} [DecidableEq K] (A : Around) (s : Shared) (xb : List (K × Addr × Value)) : List (K × Addr × Value) → Bool → Prop
  | nil : HitsX A s xb [] true
  | miss {k : K} {a : Addr} {v : Value} {r : List (K × Addr × Value)} : atKey xb k = none → HitsX A s xb ((k, a, v) :: r) false
  | hit {k : K} {a b : Addr} {v y : Value} {r : List (K × Addr × Value)} {e c : Bool} : atKey xb k = some (b, y) → SeqAt.EqAt A s v y e → HitsX A s xb r c → HitsX A s xb ((k, a, v) :: r) (e && c)
theorem HitsX.inv {K : Type} [DecidableEq K] {A : Around} {s : Shared} {xb : List (K × Addr × Value)} {k : K} {a : Addr} {v : Value} {r : List (K × Addr × Value)} {c : Bool} (h : HitsX A s xb ((k, a, v) :: r) c) :
    (atKey xb k = none ∧ c = false) ∨ ∃ b y e c', atKey xb k = some (b, y) ∧ SeqAt.EqAt A s v y e ∧ HitsX A s xb r c' ∧ c = (e && c') := by
  cases h with
  | miss hn => exact .inl ⟨hn, rfl⟩
  | hit hy he hr => exact .inr ⟨_, _, _, _, hy, he, hr, rfl⟩
section
variable {prog : Program} {w : World} {K : Type} [DecidableEq K] {knd : HeapKind prog w K} {A : Around} {E : Value → Shared → Prop} {s : Shared}
theorem eqH_pairs {nm : String} {a b : Addr} {xa xb : List (K × Addr × Value)} {r : Bool} {Q : Bool → Shared → Prop} (ha : (a == sysModules) = false) (hb : (b == sysModules) = false) (hr : knd.room A)
    (da : s.heap.DictOfH knd a xa) (db : s.heap.DictOfH knd b xb) (hits : xa.length = xb.length → HitsX A s xb xa r) (h : Q (xa.length == xb.length && r) s) :
    wpAny (model prog w) A (Builtin.Dict.samePairs nm a b) Q E s := by
  obtain ⟨oa, es, ep, hoa, _, hda, hea, hia, hna⟩ := da
  obtain ⟨ob, es', ep', hob, _, hdb, heb, hib, hnb⟩ := db
  have hla : xa.length = es.size := (size_of_entries hea).symm
  have hlb : xb.length = es'.size := (size_of_entries heb).symm
  rw [hla, hlb] at h
  unfold Builtin.Dict.samePairs Builtin.Dict.showsAll
  rw [if_neg (show ¬ (a == sysModules) = true by rw [ha]; exact Bool.false_ne_true), if_neg (show ¬ (b == sysModules) = true by rw [hb]; exact Bool.false_ne_true)]
  refine wpAny_bind (wpAny_pure (wpAny_bind (wpAny_pure ?_)))
  refine wpAny_bind (wpAny_dictEntries hoa hda ?_)
  dsimp only
  refine wpAny_bind (wpAny_dictEntries hob hdb ?_)
  by_cases hsz : es.size = es'.size
  · have h' : Q r s := by simpa [hsz] using h
    have hits' := hits (by rw [hla, hlb]; exact hsz)
    rw [if_neg (by rw [hsz]; simp)]
    refine wpAny_bind (wpAny_dictEpoch hoa hda ?_)
    refine wpAny_bind ?_
    rw [Std.Legacy.Range.forIn_eq_forIn_range']
    simp only [Std.Legacy.Range.size, Nat.sub_zero, Nat.add_sub_cancel, Nat.div_one]
    refine wpAny_forIn_list _ (fun rest q s' => s' = s ∧ q = (none, ()) ∧ ∃ i, rest = List.range' i (es.size - i) ∧ i ≤ es.size ∧ HitsX A s xb (xa.drop i) r) _ ?_ ?_ _ _ ⟨rfl, rfl, 0, by simp, Nat.zero_le _, hits'⟩
    · rintro x rest q s' ⟨rfl, rfl, i, hrg, hi, hpre⟩
      have hlt : i < es.size := by
        rcases Nat.lt_or_ge i es.size with h | h
        · exact h
        · rw [Nat.sub_eq_zero_of_le h] at hrg; simp at hrg
      obtain ⟨rfl, hrest⟩ : x = i ∧ rest = List.range' (i + 1) (es.size - (i + 1)) := by
        rw [show es.size - i = (es.size - (i + 1)) + 1 by omega, List.range'_succ] at hrg
        injection hrg with h1 h2
        exact ⟨h1, h2⟩
      refine wpAny_bind (wpAny_dictEntries hoa hda ?_)
      have hlt' : x < xa.length := by rw [hla]; exact hlt
      obtain ⟨⟨k, qa, v⟩, hx⟩ : ∃ z, xa[x]? = some z := ⟨_, List.getElem?_eq_getElem hlt'⟩
      have hdrop : xa.drop x = (k, qa, v) :: xa.drop (x + 1) := by
        rw [List.drop_eq_getElem_cons hlt']
        rw [List.getElem?_eq_getElem hlt'] at hx
        rw [Option.some.inj hx]
      rw [entry_at hea x, hx]
      show wpAny _ _ (holding [(entryOfKey knd (k, qa, v)).key, (entryOfKey knd (k, qa, v)).val] _ >>= _) _ _ _
      rw [hdrop] at hpre
      have key : knd.is s'.heap k qa := hia _ (List.mem_of_getElem? hx)
      refine wpAny_bind (wpAny_holding (wpAny_bind (wpAny_dictFind_heap (k := k) hr key hob hdb heb hib hnb (fun hno => ?_) fun j p hj => ?_)))
      · rcases hpre.inv with ⟨_, er⟩ | ⟨_, y, _, _, hy, _⟩
        · rw [er] at h'
          refine wpAny_pure ?_
          show wpAny _ _ (if (!false) = true then _ else _) _ _ _
          rw [if_pos (by decide)]
          exact wpAny_pure (wpAny_pure h')
        · rw [atKey_none_of_get hno] at hy; exact nomatch hy
      · refine wpAny_bind (wpAny_dictEntries hob hdb ?_)
        rw [entry_at heb j, hj]
        rcases hpre.inv with ⟨hn, _⟩ | ⟨b', y, e, c', hy, he, hrr, er⟩
        · rw [atKey_of_get hnb hj] at hn; exact nomatch hn
        · rw [atKey_of_get hnb hj] at hy
          obtain rfl : p = (b', y) := Option.some.inj hy
          refine wpAny_holding (he prog w _ _ ?_)
          cases e with
          | false =>
            rw [er, Bool.false_and] at h'
            show wpAny _ _ (if (!false) = true then _ else _) _ _ _
            rw [if_pos (by decide)]
            exact wpAny_pure (wpAny_pure h')
          | true =>
            rw [Bool.true_and] at er
            rw [← er] at hrr
            show wpAny _ _ (if (!true) = true then _ else _) _ _ _
            rw [if_neg (by decide)]
            refine wpAny_bind (wpAny_dictEpoch hoa hda ?_)
            rw [if_neg (by simp)]
            exact wpAny_pure ⟨rfl, rfl, x + 1, hrest, hlt, hrr⟩
    · rintro q s' ⟨rfl, rfl, i, hrg, hi, hpre⟩
      have hin : i = es.size := by
        rcases Nat.lt_or_ge i es.size with h | h
        · rw [show es.size - i = (es.size - (i + 1)) + 1 by omega, List.range'_succ] at hrg
          exact nomatch hrg
        · exact Nat.le_antisymm hi h
      refine wpAny_pure ?_
      rw [hin, ← hla, List.drop_length] at hpre
      cases hpre
      exact h'
  · rw [if_pos (by simpa using hsz)]
    have hbf : (es.size == es'.size) = false := by simpa using hsz
    rw [hbf, Bool.false_and] at h
    exact wpAny_bind (wpAny_rule (wpAny_pure h))
theorem eqH_op {a b : Addr} {xa xb : List (K × Addr × Value)} {r : Bool} {Q : Value → Shared → Prop} (ha : (a == sysModules) = false) (hb : (b == sysModules) = false)
    (da : s.heap.DictOfH knd a xa) (db : s.heap.DictOfH knd b xb) (hu : A.units < cLine) (hr : knd.room A.in1) (hits : xa.length = xb.length → HitsX A.in1 s xb xa r) (h : Q (.bool (xa.length == xb.length && r)) s) :
    wpAny (model prog w) A (compareOp .Eq (.ref a) (.ref b)) Q E s := by
  refine wpAny_richCompare_same_room (op := .Eq) da.typeIs db.typeIs PySem.F.slot_dict_eq (wpAny_call_entry PySem.F.slot_dict_eq da.typeIs PySem.F.entry_dict_eq ?_ (PySem.F.args_dict_eq_2 _ _)) hu
  show wpAny _ _ (Builtin.Dict.dictSlotArgs "__eq__" ⟨[.ref a, .ref b], []⟩ >>= _) _ _ s
  refine wpAny_bind ?_
  unfold Builtin.Dict.dictSlotArgs
  refine wpAny_bind (wpAny_notOrdered_dict da.typeIs ?_)
  show wpAny _ _ (pure (Value.ref a, Value.ref b)) _ _ s
  refine wpAny_pure ?_
  refine wpAny_bind (wpAny_isInstance (T := "dict") db.typeIs PySem.F.sub_dict_dict ?_)
  simp only [Bool.not_true, Bool.false_eq_true, if_false]
  refine wpAny_bind (wpAny_pure (wpAny_bind (wpAny_pure ?_)))
  refine wpAny_bind (eqH_pairs (knd := knd) ha hb hr da db hits ?_)
  refine wpAny_pure ⟨_, rfl, ?_, ?_⟩
  · exact fun x => nomatch x
  · simpa using h
end
/-- ks and ls hold the same -/
def SameT (ks ls : List (List Key × V)) : Prop := ks.length = ls.length ∧ ∀ p ∈ ks, valV ls p.1 = some p.2
theorem hitsX_of {H : Hp} {A : Around} {s : Shared} {ls : List (List Key × V)} {xb : List (List Key × Addr × Value)} (rb : KT H ls xb) (tb : ∀ p ∈ ls, ∃ t : Str, p.2 = V.str t) :
    ∀ {ks : List (List Key × V)} {xa : List (List Key × Addr × Value)}, KT H ks xa → (∀ p ∈ ks, ∃ t : Str, p.2 = V.str t) → ∃ r, HitsX A s xb xa r ∧ (r = true ↔ ∀ p ∈ ks, valV ls p.1 = some p.2) := by
  intro ks xa ra
  unfold KT at ra
  induction ra with
  | nil => exact fun _ => ⟨true, .nil, by simp⟩
  | @cons p q ps qs h t ih =>
    intro hp
    obtain ⟨r, hr, er⟩ := ih fun p' hm => hp p' (List.mem_cons_of_mem _ hm)
    obtain ⟨k, a, v⟩ := q
    obtain ⟨h1, h2, h3⟩ := h
    obtain ⟨x, ex⟩ := hp p List.mem_cons_self
    have h1' : p.1 = k := h1
    have rl : RelO (valV ls k) ((atKey xb k).map (·.2)) := rb.val k
    rw [ex] at h3
    obtain ⟨tk, ev⟩ := h3
    simp only at ev
    cases e1 : atKey xb k with
    | none =>
      rw [e1] at rl
      refine ⟨false, .miss e1, by simp, fun al => ?_⟩
      have z := al p List.mem_cons_self
      rw [h1'] at z
      rw [z] at rl
      exact absurd rl (by simp [RelO])
    | some z =>
      obtain ⟨b, y⟩ := z
      rw [e1] at rl
      cases e2 : valV ls k with
      | none =>
        rw [e2] at rl
        exact absurd rl (by simp [RelO])
      | some yv =>
        rw [e2] at rl
        have ry : RelV yv y := rl
        obtain ⟨pm, hpm⟩ : ∃ pm ∈ ls, pm.2 = yv := by
          unfold valV at e2
          obtain ⟨pm, f1, f2⟩ := Option.map_eq_some_iff.mp e2
          exact ⟨pm, List.mem_of_find?_eq_some f1, f2⟩
        obtain ⟨u, eu⟩ := tb pm hpm.1
        rw [hpm.2] at eu
        rw [eu] at ry
        obtain ⟨tk2, ey⟩ := ry
        subst ev ey
        refine ⟨(x == u) && r, .hit e1 (SeqAt.EqAt.str_str x tk u tk2) hr, ?_⟩
        rw [Bool.and_eq_true, beq_iff_eq, er]
        constructor
        · rintro ⟨g1, g2⟩ p' hm
          rcases List.mem_cons.mp hm with rfl | hm
          · rw [h1', e2, ex, eu, g1]
          · exact g2 p' hm
        · intro al
          refine ⟨?_, fun p' hm => al p' (List.mem_cons_of_mem _ hm)⟩
          have z := al p List.mem_cons_self
          rw [h1', e2, ex, eu] at z
          injection z with z
          injection z with z
          exact z.symm
def rEqTd : R2 := fun x y H Q => ∃ a b ks ls, x = .ref a ∧ y = .ref b ∧ Rd H a (.dT ks) ∧ Rd H b (.dT ls) ∧ (∀ p ∈ ks, ∃ t : Str, p.2 = V.str t) ∧ (∀ p ∈ ls, ∃ t : Str, p.2 = V.str t) ∧ ∀ r : Bool, (r = true ↔ SameT ks ls) → Q (.bl r) H
theorem op_eq_dT {X : Cx} (hu : X.A.units + 1 < cLine) : OpR X (compareOp .Eq) rEqTd := by
  intro pins s σ H x y v u Q I rx ry h
  obtain ⟨a, b, ks, ls, rfl, rfl, ea, eb, tk, tl, q⟩ := h
  obtain rfl : v = Value.ref a := rx
  obtain rfl : u = Value.ref b := ry
  obtain ⟨_, ya, xa, ra, da⟩ := dt_rd I.hok ea
  obtain ⟨_, yb, xb, rb, db⟩ := dt_rd I.hok eb
  obtain ⟨r, hr, er⟩ := hitsX_of (A := X.A.in1) (s := s) rb tl ra tk
  have l1 : ks.length = xa.length := Paired.length ra
  have l2 : ls.length = xb.length := Paired.length rb
  refine eqH_op (knd := tupleKind (mixKind X.prog X.w)) ya yb da db (by omega) (tupleKind_room_in1 hu) (fun _ => hr) ?_
  refine ⟨.bl (xa.length == xb.length && r), H, I, rfl, q _ ?_⟩
  rw [Bool.and_eq_true, beq_iff_eq, er, ← l1, ← l2]
  exact Iff.rfl
end L2

/-! len(set(xs)), xs a list of texts -/
namespace Ky
open PySem PySem.Spec PyProof.Rows L2 Kz
def tLenS (K : PySem.W.Frag) (ta : TE) : TE := fun σ H Q => ta σ H fun x H1 => ∃ (l : Addr) (ys : List Str), x = V.ref l ∧ SqL K H1 l (ys.map V.str) ∧ ys.length < 64 ∧ Q (.int ((metz ys).length : Nat)) H1
theorem pe_lenS {X : Cx} {a : Expr} {ta : TE} {p p2 q pos : Pos} (hc : X.calm = true) (hg : Gl X "len") (hm : X.mg "len" = none) (hg2 : Gl X "set") (hm2 : X.mg "set" = none) (ha : PE X a ta)
    (na : starEach [a] X.env = (false, eval a X.env) :: starEach [] X.env := by rfl) : PE X (.Call (.Name "len" p) [.Call (.Name "set" p2) [a] [] q] [] pos) (tLenS X.K ta) := by
  refine ⟨fun pins s σ H Q I h => ?_⟩
  refine Call_ (ld_blt I hg hm PySem.boot_len ?_)
  refine PyProof.Rows.callWith_builtin1 (PyProof.Rows.args_cons ?_ rfl) rfl rfl
  refine Call_ (ld_blt I hg2 hm2 PyProof.Rows.boot_set ?_)
  refine PyProof.Rows.callWith_type1 (PyProof.Rows.args_cons (thn (ha.run pins s σ H _ I h) fun v s1 ⟨x, H1, I1, r1, hh⟩ => PyProof.Rows.args_nil ?_) na) na rfl
  obtain ⟨l, ys, rfl, hq, h1, hQ⟩ := hh
  cases r1
  obtain ⟨its, r, pl, hz⟩ := I1.list hq
  have hl : ys.length = its.toArray.size := by rw [List.size_toArray, ← r.length, List.length_map]
  refine PySem.set_of_lst (I1.ok.hd hc) pl.isList hl (fun i v e => txt_at r i v (by simpa using e)) (by rw [← hl]; unfold scanBound; omega) fun h' tk hS hk => ?_
  refine PyProof.Rows.args_nil ?_
  have I2 : Inv X pins σ H1 { s1 with heap := h', toks := tk } := I1.kept fun b o e => hk b o (Heap.lt_size e) e
  have ml := metz_len ys
  obtain ⟨o, es, ep, t, ho, hex, hd, b⟩ := hS
  have z := b.size
  refine call_len_set ho hex hd b.fit (by rw [z]; omega) ⟨.int ((metz ys).length : Nat), H1, I2.tok _, ⟨_, by rw [z]⟩, hQ⟩
theorem metz_iff (ys : List Str) : (metz ys).length = ys.length ↔ ys.Nodup := by
  constructor
  · intro e
    exact (nd_perm _ _ (metz_nd ys) (fun x hx => (metz_mem ys x).mp hx) (by omega)).nodup_iff.mp (metz_nd ys)
  · intro n
    have := nd_len ys (metz ys) n fun x hx => (metz_mem ys x).mpr hx
    have := metz_len ys
    omega
end Ky

namespace Kx
open PySem PySem.Spec PyProof.Rows L2 NdefX Kr Ke Kn
def topS (i : Nat) : Stmt := PySem.Challenge.pw_letforget_k18_clashes_and_arcs.main.body.getD i (.Pass ⟨0, 0, 0, 0⟩)
def LET : Str := "abcdefghijklmnopqrstuvwxyz"
def DIG : Str := "0123456789"
/-- the built-ins that are asked -/
structure TxS (mg : Str → Option Value) : Prop extends TB mg where
  m_isinstance : mg "isinstance" = none
  m_str : mg "str" = none
  m_list : mg "list" = none
  m_all : mg "all" = none
  m_set : mg "set" = none
  m_sorted : mg "sorted" = none
  m_tuple : mg "tuple" = none
  c_LETTERS : GC mg "LETTERS" (.str LET)
  c_DIGITS : GC mg "DIGITS" (.str DIG)
  c_LONGEST_NAME : GC mg "LONGEST_NAME" (.int 8)
abbrev s_draws_of : Stmt := topS 65
abbrev N_draws_of : List Str := ["_law_script", "_law_pool", "_law_cell", "_law_left", "_law_k"]
theorem sc_draws_of : FnScope N_draws_of ["_law_script"] (defScope s_draws_of) := ⟨rfl, rfl, rfl, by decide +kernel, rfl, by decide +kernel, by decide +kernel⟩
abbrev s_nth : Stmt := topS 66
abbrev N_nth : List Str := ["_law_pool", "_law_k"]
theorem sc_nth : FnScope N_nth ["_law_pool", "_law_k"] (defScope s_nth) := ⟨rfl, rfl, rfl, by decide +kernel, rfl, by decide +kernel, by decide +kernel⟩
section
variable {P : Program} {w : World} {K : PySem.W.Frag} {mg : Str → Option Value} {base : Heap}
theorem ok_draws_of {f : Addr} {fd : FuncData} (F : Fun K "_law_draws_of" "_law_draws_of" s_draws_of f fd) (T : TB mg) : FnOk P w K mg base CX0 1 f fd ["_law_script"] (spDraws K) := by
  refine F.ok sc_draws_of (fun vs H Q E h => ?_) (fun cdv A outer s H vs Q E hr h => ?_)
  · obtain ⟨a, ns, rfl, _⟩ := h
    rfl
  · obtain ⟨a, ns, rfl, hS, hlen, q⟩ := h
    refine ⟨_, (pss_cons (ps_set (i := 1) sc_draws_of.nd rfl (Or.inl rfl) (pe_lst pa_nil))
      (pss_cons (ps_for PassesOwn.never rfl (pi_list (pv 0)) (pg_name (i := 2) sc_draws_of.nd rfl (Or.inl rfl))
        (pss_one (ps_if (pt_cmpR op_lt (pe_callB call_len_seq (by rfl) T.m_len (by decide +kernel) (pa_cons (pv 1) pa_nil)) pe_int (nomark _))
          (pss_cons (ps_set (i := 3) sc_draws_of.nd rfl (Or.inl rfl) (pe_callB call_abs (by rfl) T.m_abs (by decide +kernel) (pa_cons (pe_callTy call_int1 (by rfl) T.m_int (by decide +kernel) (pa_cons (pv 2) pa_nil)) pa_nil)))
          (pss_one (ps_if (pt_cmpR op_lt (pv 3) (pe_op op_pow pe_int pe_int) (nomark _))
            (pss_one (ps_for PassesOwn.never rfl (pi_range1 (by rfl) T.m_range (pa_cons pe_int pa_nil)) (pg_name (i := 4) sc_draws_of.nd rfl (Or.inl rfl))
              (pss_cons (ps_set (i := 3) sc_draws_of.nd rfl (Or.inl rfl) (pe_op op_mod (pe_callTy call_int1 (by rfl) T.m_int (by decide +kernel) (pa_cons (pe_op op_add (pe_op op_add (pe_op op_mul (pv 3) pe_int) (pe_op op_mul pe_int (pv 4))) pe_int) pa_nil)) pe_int))
              (pss_one (ps_expr (pe_bm PySem.F.plainAttrs_list PySem.F.slot_list_append PySem.F.type_list_append mt_append (pv 1) (pa_cons (pv 3) pa_nil)))))))
            (pss_one (ps_for PassesOwn.never rfl (pi_range1 (by rfl) T.m_range (pa_cons pe_int pa_nil)) (pg_name (i := 4) sc_draws_of.nd rfl (Or.inl rfl))
              (pss_one (ps_if (pt_cmpR op_gt (pv 3) pe_int (nomark _))
                (pss_cons (ps_expr (pe_bm PySem.F.plainAttrs_list PySem.F.slot_list_append PySem.F.type_list_append mt_append (pv 1) (pa_cons (pe_op op_mod (pe_callTy call_int1 (by rfl) T.m_int (by decide +kernel) (pa_cons (pv 3) pa_nil)) pe_int) pa_nil)))
                (pss_one (ps_set (i := 3) sc_draws_of.nd rfl (Or.inl rfl) (pe_op op_fdiv (pv 3) pe_int))))
                pss_nil)))))))
          pss_nil)))
      (pss_cons (ps_if (pt_cmpR (op_eqD hr.units) (pv 1) (pe_lst pa_nil) (nomark _))
        (pss_one (ps_set (i := 1) sc_draws_of.nd rfl (Or.inl rfl) (pe_lst (pa_cons pe_int (pa_cons pe_int (pa_cons pe_int (pa_cons pe_int (pa_cons pe_int (pa_cons pe_int (pa_cons pe_int (pa_cons pe_int (pa_cons pe_int (pa_cons pe_int (pa_cons pe_int (pa_cons pe_int (pa_cons pe_int pa_nil))))))))))))))))
        pss_nil)
      (pss_one (ps_ret (pv 1)))))), ?_⟩
    refine ⟨Nat.zero_le _, fun o no => ?_⟩
    -- the loop over the script
    refine ⟨.ref a, rfl, a, rfl, ⟨_, (same_upd no).seq hS⟩, ?_⟩
    refine for_list (xs := ns.map V.int) (fun i σ H1 => ∃ x2 x3 x4 ms, σ = [some (.ref a), some (.ref o), x2, x3, x4] ∧ Same H H1 ∧ H1 o = some (.lst (ms.map V.int)) ∧ ms.length ≤ 132 ∧ (ms = [] ∨ 3 ≤ ms.length) ∧ ∀ v ∈ ms, inR v)
      ⟨none, none, none, [], rfl, same_upd no, upd_same, Nat.zero_le _, .inl rfl, fun v hv => nomatch hv⟩ ?_ ?_ ?_
    · rintro i σ H1 _ ⟨_, _, _, ms, _, sm, _⟩
      exact sm.seq hS
    · rintro i x σ H1 hx ⟨x2, x3, x4, ms, rfl, sm, eo, hm, h3, hrg⟩
      obtain ⟨n, rfl⟩ : ∃ n : Int, x = .int n := by
        rw [List.getElem?_map] at hx
        cases e : ns[i]? with
        | none => rw [e] at hx; cases hx
        | some n => rw [e] at hx; exact ⟨n, (Option.some.inj hx).symm⟩
      refine ⟨_, rfl, o, _, rfl, .inl (.inl (.inl eo)), _, _, rfl, rfl, _, rfl, iteB (fun h1 => ?_) (fun h1 => ?_)⟩
      · have hl72 : ms.length < 72 := by
          have := of_decide_eq_true h1
          rw [List.length_map] at this
          omega
        refine ⟨_, rfl, .inl ⟨n, rfl, n, rfl, ?_⟩⟩
        generalize hL : (if n < 0 then -n else n) = L
        have hL0 : 0 ≤ L := by rw [← hL]; split <;> omega
        refine ⟨_, rfl, _, _, rfl, rfl, ⟨by decide, by decide, by decide⟩, _, _, rfl, rfl, _, rfl, iteB (fun h2 => ?_) (fun h2 => ?_)⟩
        · have hL1 : L < 1000000000000000000 := by rw [← pe10]; exact of_decide_eq_true h2
          refine ⟨3, rfl, by decide, by decide, ?_⟩
          refine for_range (lo := 0) (n := 3) (fun i σ H2 => ∃ x4 L ms', σ = [some (.ref a), some (.ref o), some (.int n), some (.int L), x4] ∧ Same H H2 ∧ H2 o = some (.lst (ms'.map V.int)) ∧ ms'.length = ms.length + i ∧ (∀ v ∈ ms', inR v) ∧ 0 ≤ L ∧ L < 1000000000000000000) 
            ⟨x4, L, ms, rfl, sm, eo, rfl, hrg, hL0, hL1⟩ ?_ ?_
          · rintro i σ H2 hi ⟨x4, L, ms', rfl, sm2, eo2, hm2, hrg2, hLa, hLb⟩
            refine ⟨_, rfl, _, _, rfl, rfl, .inl ⟨by omega, by omega⟩, _, rfl, _, _, rfl, rfl, .inl ⟨by decide, by decide⟩, _, _, rfl, rfl, _, _, rfl, rfl, .inl ⟨_, rfl, _, _, rfl, rfl, (by show (0 : Int) < 65521; decide), ?_⟩⟩
            refine ⟨_, rfl, .inl ⟨rfl, _, .inl (.inl eo2)⟩, _, rfl, o, _, _, rfl, rfl, eo2, sl9 (by rw [List.length_map]; omega), ?_⟩
            have hvr : inR ((L * 30011 + 7919 * (0 + (i : Int)) + 977) % 65521) := by constructor <;> omega
            refine ⟨_, (L * 30011 + 7919 * (0 + (i : Int)) + 977) % 65521, ms' ++ [(L * 30011 + 7919 * (0 + (i : Int)) + 977) % 65521], rfl, same_mut sm2 no, ?_, by rw [List.length_append, List.length_singleton]; omega, rg_app hrg2 hvr, hvr.1, by have := hvr.2; omega⟩
            rw [upd_same, map_app]
          · rintro σ H2 ⟨x4, L, ms', rfl, sm2, eo2, hm2, hrg2, hLa, hLb⟩
            exact ⟨_, _, _, ms', rfl, sm2, eo2, by omega, .inr (by omega), hrg2⟩
        · have hL1 : 1000000000000000000 ≤ L := by
            have := of_decide_eq_false h2
            rw [pe10] at this
            omega
          refine ⟨60, rfl, by decide, by decide, ?_⟩
          refine for_range (lo := 0) (n := 60) (fun i σ H2 => ∃ x4 L ms', σ = [some (.ref a), some (.ref o), some (.int n), some (.int L), x4] ∧ Same H H2 ∧ H2 o = some (.lst (ms'.map V.int)) ∧ ms'.length ≤ ms.length + i ∧ (∀ v ∈ ms', inR v) ∧ 0 ≤ L ∧
              (i = 0 → 1000000000000000000 ≤ L) ∧ (i = 1 → 10000000000 ≤ L ∧ 1 ≤ ms'.length) ∧ (i = 2 → 100000 ≤ L ∧ 2 ≤ ms'.length) ∧ (3 ≤ i → 3 ≤ ms'.length)) 
            ⟨x4, L, ms, rfl, sm, eo, Nat.le_refl _, hrg, hL0, fun _ => hL1, by omega, by omega, by omega⟩ ?_ ?_
          · rintro i σ H2 hi ⟨x4, L, ms', rfl, sm2, eo2, hm2, hrg2, hLa, c0, c1, c2, c3⟩
            refine ⟨_, rfl, _, _, rfl, rfl, _, rfl, iteB (fun h4 => ?_) (fun h4 => ?_)⟩
            · refine ⟨_, rfl, .inl ⟨rfl, _, .inl (.inl eo2)⟩, _, rfl, .inl ⟨_, rfl, _, _, rfl, rfl, (by show (0 : Int) < 65536; decide), o, _, _, rfl, rfl, eo2, sl9 (by rw [List.length_map]; omega), ?_⟩⟩
              refine ⟨_, rfl, _, _, rfl, rfl, ⟨by decide, by decide⟩, ?_⟩
              have hvr : inR (L % 65536) := by constructor <;> omega
              refine ⟨_, L / 65536, ms' ++ [L % 65536], rfl, same_mut sm2 no, ?_, by rw [List.length_append, List.length_singleton]; omega, rg_app hrg2 hvr, by omega, by omega, ?_, ?_, ?_⟩
              · rw [upd_same, map_app]
              · intro e; rw [List.length_append, List.length_singleton]; have := c0 (by omega); constructor <;> omega
              · intro e; rw [List.length_append, List.length_singleton]; have := c1 (by omega); constructor <;> omega
              · intro e; rw [List.length_append, List.length_singleton]
                by_cases e2 : i = 2
                · have := c2 e2; omega
                · have := c3 (by omega); omega
            · have h4' : ¬ (0 < L) := of_decide_eq_false h4
              refine ⟨_, L, ms', rfl, sm2, eo2, by omega, hrg2, hLa, by omega, ?_, ?_, ?_⟩
              · intro e; have := c0 (by omega); omega
              · intro e; have := c1 (by omega); omega
              · intro e
                by_cases e2 : i = 2
                · have := c2 e2; omega
                · exact c3 (by omega)
          · rintro σ H2 ⟨x4, L, ms', rfl, sm2, eo2, hm2, hrg2, hLa, c0, c1, c2, c3⟩
            exact ⟨_, _, _, ms', rfl, sm2, eo2, by omega, .inr (c3 (by omega)), hrg2⟩
      · exact ⟨_, _, _, ms, rfl, sm, eo, hm, h3, hrg⟩
    · rintro σ H1 ⟨x2, x3, x4, ms, rfl, sm, eo, hm, h3, hrg⟩
      refine ⟨_, rfl, Nat.zero_le _, fun p np => ?_⟩
      have nop : o ≠ p := ne_of_none eo np
      refine ⟨_, .list [], .lst (.inl (.inl ((upd_ne nop).trans eo))) (dp_ints ms), .lst (.inl (.inl upd_same)) .nil, shp_ints ms, by decide, _, rfl, iteB (fun h1 => ?_) (fun h1 => ?_)⟩
      · refine ⟨by show 13 ≤ sizeLine; decide, fun r nr => ⟨_, rfl, ?_⟩⟩
        have s1 : Same H (upd H1 p (.lst [])) := sm.trans (same_upd np)
        refine q _ r [2, 10, 1, 0, 4, 0, 1052, 0, 148, 26, 132, 0, 20] (s1.trans (same_upd nr)) (s1.free nr) upd_same ⟨by decide, by decide, ?_⟩
        intro v hv
        simp only [List.mem_cons, List.not_mem_nil, or_false] at hv
        unfold inR
        omega
      · rw [eqv_nil] at h1
        have h3' : 3 ≤ ms.length := by
          rcases h3 with rfl | h3
          · simp at h1
          · exact h3
        refine ⟨_, rfl, ?_⟩
        refine q _ o ms (sm.trans (same_upd np)) no ((upd_ne nop).trans eo) ⟨h3', by omega, hrg⟩
theorem ok_nth {f : Addr} {fd : FuncData} (F : Fun K "_law_nth" "_law_nth" s_nth f fd) (T : TB mg) : FnOk P w K mg base CX0 1 f fd ["_law_pool", "_law_k"] (spNth K) := by
  refine F.ok sc_nth (fun vs H Q E h => ?_) (fun cdv A outer s H vs Q E hr h => ?_)
  · obtain ⟨p, ms, k, rfl, _⟩ := h
    rfl
  · obtain ⟨p, ms, k, rfl, hS, hP, hk0, hk1, q⟩ := h
    refine ⟨_, (pss_cons (ps_if (pt_cmpR op_lt (pv 1) (pe_callB call_len_seq (by rfl) T.m_len (by decide +kernel) (pa_cons (pv 0) pa_nil)) (nomark _))
        (pss_one (ps_ret (pe_ix ix_list (pv 0) (pv 1) (fun _ _ => rfl))))
        pss_nil)
      (pss_one (ps_ret (pe_op op_mod (pe_callTy call_int1 (by rfl) T.m_int (by decide +kernel) (pa_cons (pe_op op_add (pe_op op_mul (pe_ix ix_list (pv 0) (pe_op op_mod (pv 1) (pe_callB call_len_seq (by rfl) T.m_len (by decide +kernel) (pa_cons (pv 0) pa_nil))) (fun _ _ => rfl)) pe_int) (pe_op op_mul (pv 1) pe_int)) pa_nil)) pe_int)))), ?_⟩
    have hl : (ms.map V.int).length = ms.length := List.length_map _
    have hlo := hP.lo
    refine ⟨_, rfl, _, rfl, p, _, rfl, .inl hS, _, _, rfl, rfl, _, rfl, iteB (fun h1 => ?_) (fun h1 => ?_)⟩
    · have h1' : k < (ms.length : Int) := by have := of_decide_eq_true h1; rw [hl] at this; exact this
      refine ⟨_, rfl, _, rfl, p, _, k, _, rfl, rfl, hS, at_pool hk0 h1', ?_⟩
      have e : nthV ms k = ms.getD k.toNat 0 := if_pos h1'
      rw [← e]
      exact q
    · have h1' : ¬ k < (ms.length : Int) := by have := of_decide_eq_false h1; rw [hl] at this; exact this
      have hi : (k % (ms.length : Int)).toNat < ms.length := by
        have h0 := Int.emod_nonneg k (show (ms.length : Int) ≠ 0 by omega)
        have h1 := Int.emod_lt_of_pos k (show 0 < (ms.length : Int) by omega)
        omega
      have hv := (getD_rg hP.rg hi).2
      refine ⟨_, rfl, _, rfl, _, rfl, p, _, rfl, .inl hS, _, _, rfl, rfl, (by show (0 : Int) < (((ms.map V.int).length : Nat) : Int); rw [hl]; omega), ?_⟩
      rw [hl]
      refine ⟨p, _, _, _, rfl, rfl, hS, at_pool (Int.emod_nonneg k (by omega)) (Int.emod_lt_of_pos k (by omega)), _, _, rfl, rfl, .inr ⟨by decide, by decide⟩, _, rfl, _, _, rfl, rfl, .inl ⟨by omega, by omega⟩, _, _, rfl, rfl, .inl ⟨_, rfl, _, _, rfl, rfl, (by show (0 : Int) < 65521; decide), ?_⟩⟩
      have e : nthV ms k = (ms.getD (k % (ms.length : Int)).toNat 0 * 31 + k * 7919) % 65521 := if_neg h1'
      rw [e] at q
      exact q
end
end Kx

namespace Kn
open PySem PySem.Spec PyProof.Rows L2 NdefX Kr Ke
/-- the plain names -/
def nameP (k st : Int) : Str :=
  if st % 4 = 1 then repT 113 (k % 3).toNat ++ ⟨#[oneV k st]⟩
  else if st % 4 = 2 then (if k % 4 = 3 then baseV k st ++ repT 120 (8 - ((baseV k st).length : Int)).toNat else baseV k st ++ repT 120 (k % 4).toNat)
  else if st % 4 = 3 then ("m" : Str) ++ tS (100 - 7 * k)
  else ⟨#[oneV k st]⟩
/-- the law's naming of nf -/
def spNamedG (nf : Int → Int → Str) : Sp := fun vs H Q _ => ∃ k st : Int, vs = [.int k, .int st] ∧ 0 ≤ k ∧ k < 16 ∧ 0 ≤ st ∧ st < 70000 ∧ ∀ H', Same H H' → Q (.str (nf k st)) H'
/-- two ways that nameV goes, by which nameP is a nameV too or is one of two -/
theorem nameP_V {k st : Int} (h : ¬ (st % 4 = 1 ∧ st / 4 % 2 = 1)) (h' : ¬ (st % 4 = 3 ∧ st / 4 % 2 = 1)) : nameP k st = nameV k st := by
  unfold nameP nameV
  rw [if_neg h, if_neg h']
theorem nameP_1 {k st : Int} (h : st % 4 = 1) : nameP k st = repT 113 (k % 3).toNat ++ ⟨#[oneV k st]⟩ := by unfold nameP; rw [if_pos h]
theorem nameP_3 {k st : Int} (h : st % 4 = 3) : nameP k st = ("m" : Str) ++ tS (100 - 7 * k) := by unfold nameP; rw [if_neg (by omega), if_neg (by omega), if_pos h]
theorem nameP_facts {k st : Int} (h0 : 0 ≤ k) (h1 : k < 16) : Sht (nameP k st) 20 ∧ ∀ k', 0 ≤ k' → k' < 16 → nameP k st = nameP k' st → k = k' := by
  by_cases c1 : st % 4 = 1 ∧ st / 4 % 2 = 1
  · rw [nameP_1 c1.1]
    refine ⟨((sht_rep (by decide)).app (sht_one _ _)).le (by omega), fun k' g0 g1 h => ?_⟩
    rw [nameP_1 c1.1] at h
    have h2 := congrArg (fun z : Str => z.cps.toList.getLast?) h
    simp only [app_cps] at h2
    have h3 : oneV k st = oneV k' st := by simpa using h2
    exact one_inj h0 h1 g0 g1 h3
  by_cases c2 : st % 4 = 3 ∧ st / 4 % 2 = 1
  · rw [nameP_3 c2.1]
    obtain ⟨a, rfl⟩ : ∃ a : Nat, k = (a : Int) := ⟨k.toNat, by omega⟩
    obtain ⟨f1, f2, f3⟩ := fin_of fin_m7 (show a < 16 by omega)
    refine ⟨f1.le (by decide), fun k' g0 g1 h => ?_⟩
    obtain ⟨b, rfl⟩ : ∃ b : Nat, k' = (b : Int) := ⟨k'.toNat, by omega⟩
    rw [nameP_3 c2.1] at h
    have := f3 b (by omega) h
    omega
  · rw [nameP_V c1 c2]
    obtain ⟨a, _, b⟩ := name_facts (st := st) h0 h1
    refine ⟨a, fun k' g0 g1 h => b k' g0 g1 ?_⟩
    rw [nameP_V c1 c2] at h
    exact h
end Kn

namespace Kx
open PySem PySem.Spec PyProof.Rows L2 NdefX Kr Ke Kn
abbrev s_named : Stmt := topS 67
abbrev N_named : List Str := ["_law_k", "_law_style", "_law_one", "_law_kind", "_law_words", "_law_base"]
theorem sc_named : FnScope N_named ["_law_k", "_law_style"] (defScope s_named) := ⟨rfl, rfl, rfl, by decide +kernel, rfl, by decide +kernel, by decide +kernel⟩
theorem a26_len2 : A26.length ≤ 100000 := by decide +kernel
theorem small_log {i : Int} (h : i.natAbs < 20000) : i.natAbs.log2 < 1920 := by
  by_cases h0 : i.natAbs = 0
  · rw [h0]
    decide
  · exact (Nat.log2_lt h0).mpr (Nat.lt_of_lt_of_le h (by decide +kernel))
theorem ws_at {k : Int} (h0 : 0 ≤ k) : atI (WS.map V.str) (k % 10) = some (.str (WS.getD (k % 10).toNat "")) := by
  obtain ⟨j, hj⟩ : ∃ j : Nat, k % 10 = (j : Int) := ⟨(k % 10).toNat, by omega⟩
  rw [hj, Int.toNat_natCast]
  have hl : j < WS.length := by show j < 10; omega
  refine atI_nat ?_
  rw [List.getElem?_map, List.getElem?_eq_getElem hl, List.getD_eq_getElem?_getD, List.getElem?_eq_getElem hl]
  rfl
theorem ws_sht (j : Nat) : Sht (WS.getD j "") 8 := by
  by_cases hl : j < WS.length
  · rw [List.getD_eq_getElem?_getD, List.getElem?_eq_getElem hl]
    have h : ∀ z ∈ WS, z.length ≤ 8 ∧ ∀ c ∈ z.cps.toList, c < 1114112 := by decide +kernel
    exact h _ (List.getElem_mem hl)
  · rw [List.getD_eq_getElem?_getD, List.getElem?_eq_none (by omega)]
    exact ⟨by decide, by decide +kernel⟩
theorem sl {x y : Str} {n m : Nat} (h : Sht x n) (h' : Sht y m) (hn : n + m ≤ 100000) : x.length + y.length ≤ sizeLine := sz9 (by have := h.1; have := h'.1; omega)
theorem ifI {i j : Int} {A B : Prop} (h1 : i = j → A) (h2 : i ≠ j → B) : if decide (V.int i = V.int j) = true then A else B := by
  by_cases h : i = j
  · rw [if_pos (decide_eq_true (congrArg V.int h))]
    exact h1 h
  · rw [if_neg (fun e => h (by injection of_decide_eq_true e))]
    exact h2 h
section
variable {P : Program} {w : World} {K : PySem.W.Frag} {mg : Str → Option Value} {base : Heap}
theorem ok_named {f : Addr} {fd : FuncData} (F : Fun K "_law_named" "_law_named" s_named f fd) (T : TxS mg) : FnOk P w K mg base CX0 1 f fd ["_law_k", "_law_style"] (spNamedG nameV) := by
  refine F.ok sc_named (fun vs H Q E h => ?_) (fun cdv A outer s H vs Q E hr h => ?_)
  · obtain ⟨k, st, rfl, _⟩ := h
    rfl
  · obtain ⟨k, st, rfl, k0, k1, s0, s1, q⟩ := h
    refine ⟨_, (pss_cons (ps_set (i := 2) sc_named.nd rfl (Or.inl rfl) (pe_ix ix_str pe_str (pe_op op_mod (pe_callTy call_int1 (by rfl) T.m_int (by decide +kernel) (pa_cons (pe_op op_add (pe_op op_mul (pv 0) pe_int) (pe_op op_fdiv (pv 1) pe_int)) pa_nil)) pe_int) (fun _ _ => rfl)))
      (pss_cons (ps_set (i := 3) sc_named.nd rfl (Or.inl rfl) (pe_op op_mod (pe_callTy call_int1 (by rfl) T.m_int (by decide +kernel) (pa_cons (pv 1) pa_nil)) pe_int))
      (pss_cons (ps_if (PW.pt (pw_and (pt_cmpR op_eq (pv 3) pe_int (nomark _)) (pw_and1 (pt_cmpR op_eq (pe_op op_mod (pe_op op_fdiv (pe_callTy call_int1 (by rfl) T.m_int (by decide +kernel) (pa_cons (pv 1) pa_nil)) pe_int) pe_int) pe_int (nomark _)))))
        (pss_cons (ps_set (i := 4) sc_named.nd rfl (Or.inl rfl) (pe_lst (pa_cons pe_str (pa_cons pe_str (pa_cons pe_str (pa_cons pe_str (pa_cons pe_str (pa_cons pe_str (pa_cons pe_str (pa_cons pe_str (pa_cons pe_str (pa_cons pe_str pa_nil))))))))))))
        (pss_one (ps_ret (pe_op op_add_str (pe_ix ix_list (pv 4) (pe_op op_mod (pe_callTy call_int1 (by rfl) T.m_int (by decide +kernel) (pa_cons (pv 0) pa_nil)) pe_int) (fun _ _ => rfl)) (pe_op op_repE pe_str (pe_op op_fdiv (pe_callTy call_int1 (by rfl) T.m_int (by decide +kernel) (pa_cons (pv 0) pa_nil)) pe_int))))))
        pss_nil)
      (pss_cons (ps_if (PW.pt (pw_and (pt_cmpR op_eq (pv 3) pe_int (nomark _)) (pw_and1 (pt_cmpR op_eq (pe_op op_mod (pe_op op_fdiv (pe_callTy call_int1 (by rfl) T.m_int (by decide +kernel) (pa_cons (pv 1) pa_nil)) pe_int) pe_int) pe_int (nomark _)))))
        (pss_one (ps_ret (pe_op op_add_str (pe_op op_repE pe_str (pe_op op_fdiv (pe_callTy call_int1 (by rfl) T.m_int (by decide +kernel) (pa_cons (pv 0) pa_nil)) pe_int)) (pe_op op_repE pe_str (pe_op op_add (pe_op op_mod (pe_callTy call_int1 (by rfl) T.m_int (by decide +kernel) (pa_cons (pv 0) pa_nil)) pe_int) pe_int)))))
        pss_nil)
      (pss_cons (ps_if (pt_cmpR op_eq (pv 3) pe_int (nomark _))
        (pss_one (ps_ret (pe_op op_add_str (pe_op op_repE pe_str (pe_op op_mod (pe_callTy call_int1 (by rfl) T.m_int (by decide +kernel) (pa_cons (pv 0) pa_nil)) pe_int)) (pv 2))))
        pss_nil)
      (pss_cons (ps_if (pt_cmpR op_eq (pv 3) pe_int (nomark _))
        (pss_cons (ps_set (i := 5) sc_named.nd rfl (Or.inl rfl) (pe_op op_add_str (pv 2) (pe_callTy call_str_int (by rfl) T.m_str (by decide +kernel) (pa_cons (pe_op op_mod (pe_callTy call_int1 (by rfl) T.m_int (by decide +kernel) (pa_cons (pe_op op_fdiv (pv 1) pe_int) pa_nil)) pe_int) pa_nil))))
        (pss_cons (ps_if (pt_cmpR op_eq (pe_op op_mod (pe_callTy call_int1 (by rfl) T.m_int (by decide +kernel) (pa_cons (pv 0) pa_nil)) pe_int) pe_int (nomark _))
          (pss_one (ps_ret (pe_op op_add_str (pv 5) (pe_op op_repE pe_str (pe_op op_sub pe_int (pe_callB call_len_str (by rfl) T.m_len (by decide +kernel) (pa_cons (pv 5) pa_nil)))))))
          pss_nil)
        (pss_one (ps_ret (pe_op op_add_str (pv 5) (pe_op op_repE pe_str (pe_op op_mod (pe_callTy call_int1 (by rfl) T.m_int (by decide +kernel) (pa_cons (pv 0) pa_nil)) pe_int)))))))
        pss_nil)
      (pss_cons (ps_if (pt_cmpR op_eq (pv 3) pe_int (nomark _))
        (pss_one (ps_ret (pe_op op_add_str pe_str (pe_callTy call_str_int (by rfl) T.m_str (by decide +kernel) (pa_cons (pe_op op_sub pe_int (pe_op op_mul pe_int (pv 0))) pa_nil)))))
        pss_nil)
      (pss_one (ps_ret (pv 2)))))))))), ?_⟩
    have hc := at_26 k st
    have one := sht_one k st
    refine ⟨_, rfl, _, _, rfl, rfl, .inr ⟨by decide, by decide⟩, _, rfl, _, _, rfl, rfl, ⟨by decide, by decide⟩, _, _, rfl, rfl, .inl ⟨_, rfl, _, _, rfl, rfl, (by show (0 : Int) < 26; decide), A26, _, _, rfl, rfl, sz9 a26_len2, hc, ?_⟩⟩
    refine ⟨_, rfl, .inl ⟨_, rfl, _, _, rfl, rfl, (by show (0 : Int) < 4; decide), ?_⟩⟩
    have Wret : st % 4 = 1 ∧ st / 4 % 2 = 1 → nameV k st = WS.getD (k % 10).toNat "" ++ repT 50 (k / 10).toNat := fun c => if_pos c
    have c50 : ("2" : Str).cps = #[50] := by decide +kernel
    have c98 : ("b" : Str).cps = #[98] := by decide +kernel
    have c97 : ("a" : Str).cps = #[97] := by decide +kernel
    have c113 : ("q" : Str).cps = #[113] := by decide +kernel
    have c120 : ("x" : Str).cps = #[120] := by decide +kernel
    refine ⟨_, rfl, rfl, _, rfl, ifI (fun a1 => ?_) (fun a1 => ?_)⟩
    · refine ⟨_, rfl, .inl ⟨_, rfl, _, _, rfl, rfl, ⟨by decide, by decide⟩, _, _, rfl, rfl, (by show (0 : Int) < 2; decide), rfl, _, rfl, ifI (fun b1 => ?_) (fun b1 => ?_)⟩⟩
      · refine ⟨by show 10 ≤ sizeLine; decide, fun l nl => ?_⟩
        refine ⟨_, rfl, _, rfl, .inl ⟨_, rfl, _, _, rfl, rfl, (by show (0 : Int) < 10; decide), l, _, _, _, rfl, rfl, .inl (.inl upd_same), ws_at k0, ?_⟩⟩
        refine ⟨_, rfl, .inl ⟨_, rfl, _, _, rfl, rfl, ⟨by decide, by decide⟩, "2", 50, _, rfl, rfl, c50, by omega, by omega, _, _, rfl, rfl, sl (ws_sht _) (sht_rep (by decide)) (by omega), ?_⟩⟩
        have hq := q _ (same_upd (o := .lst (WS.map V.str)) nl)
        rw [Wret ⟨a1, b1⟩] at hq
        exact hq
      · refine ⟨_, rfl, rfl, _, rfl, ifI (fun h => absurd h (by omega)) (fun _ => ?_)⟩
        refine ⟨_, rfl, rfl, _, rfl, ifI (fun _ => ?_) (fun h => absurd a1 h)⟩
        refine ⟨_, rfl, .inl ⟨_, rfl, _, _, rfl, rfl, (by show (0 : Int) < 3; decide), "q", 113, _, rfl, rfl, c113, by omega, by omega, ?_⟩⟩
        refine ⟨_, rfl, _, _, rfl, rfl, sl (sht_rep (by decide)) one (by omega), ?_⟩
        have hq := q _ (Same.refl H)
        rw [show nameV k st = repT 113 (k % 3).toNat ++ ⟨#[oneV k st]⟩ by unfold nameV; rw [if_neg (fun h => b1 h.2), if_neg (by omega), if_pos a1]] at hq
        exact hq
    · refine ⟨_, rfl, rfl, _, rfl, ifI (fun a3 => ?_) (fun a3 => ?_)⟩
      · refine ⟨_, rfl, .inl ⟨_, rfl, _, _, rfl, rfl, ⟨by decide, by decide⟩, _, _, rfl, rfl, (by show (0 : Int) < 2; decide), rfl, _, rfl, ifI (fun b1 => ?_) (fun b1 => ?_)⟩⟩
        · refine ⟨_, rfl, .inl ⟨_, rfl, _, _, rfl, rfl, ⟨by decide, by decide⟩, "b", 98, _, rfl, rfl, c98, by omega, by omega, ?_⟩⟩
          refine ⟨_, rfl, .inl ⟨_, rfl, _, _, rfl, rfl, (by show (0 : Int) < 7; decide), _, _, rfl, rfl, "a", 97, _, rfl, rfl, c97, by omega, by omega, _, _, rfl, rfl, sl (sht_rep (by decide)) (sht_rep (by decide)) (by omega), ?_⟩⟩
          have hq := q _ (Same.refl H)
          rw [show nameV k st = repT 98 (k / 7).toNat ++ repT 97 (k % 7 + 1).toNat by unfold nameV; rw [if_neg (by omega), if_pos ⟨a3, b1⟩]] at hq
          exact hq
        · refine ⟨_, rfl, rfl, _, rfl, ifI (fun h => absurd h (by omega)) (fun _ => ?_)⟩
          refine ⟨_, rfl, rfl, _, rfl, ifI (fun h => absurd h (by omega)) (fun _ => ?_)⟩
          refine ⟨_, rfl, rfl, _, rfl, ifI (fun _ => ?_) (fun h => absurd a3 h)⟩
          obtain ⟨m, rfl⟩ : ∃ m : Nat, k = (m : Int) := ⟨k.toNat, by omega⟩
          have hs : Sht (m7 m) 12 := (fin_of fin_m7 (show m < 16 by omega)).1
          have hl2 : (tS (100 - 7 * (m : Int))).length ≤ 12 := by
            have h1 : (m7 m).length = ("m" : Str).length + (tS (100 - 7 * (m : Int))).length := Array.size_append
            have := hs.1
            omega
          refine ⟨_, rfl, _, _, rfl, rfl, .inl ⟨by decide, by decide⟩, _, _, rfl, rfl, _, rfl, small_log (by omega), _, _, rfl, rfl, sz9 (Nat.le_trans (Nat.add_le_add (show ("m" : Str).length ≤ 1 by decide +kernel) hl2) (by decide)), ?_⟩
          have hq := q _ (Same.refl H)
          rw [show nameV (m : Int) st = ("m" : Str) ++ tS (100 - 7 * (m : Int)) by unfold nameV; rw [if_neg (by omega), if_neg (fun h => b1 h.2), if_neg (by omega), if_neg (by omega), if_pos a3]] at hq
          exact hq
      · refine ⟨_, rfl, rfl, _, rfl, ifI (fun h => absurd h a1) (fun _ => ?_)⟩
        refine ⟨_, rfl, rfl, _, rfl, ifI (fun a2 => ?_) (fun a2 => ?_)⟩
        · have base := base_len k st
          have hb := base.1
          obtain ⟨m, hm⟩ : ∃ m : Nat, st / 4 % 10000 = (m : Int) := ⟨(st / 4 % 10000).toNat, by omega⟩
          have hsm : Sht (tS (st / 4 % 10000)) 10 := by rw [hm]; exact tS_sht (by omega)
          have hN : nameV k st = if k % 4 = 3 then baseV k st ++ repT 120 (8 - ((baseV k st).length : Int)).toNat else baseV k st ++ repT 120 (k % 4).toNat := by
            unfold nameV; rw [if_neg (by omega), if_neg (by omega), if_neg (by omega), if_pos a2]
          refine ⟨_, rfl, _, rfl, _, _, rfl, rfl, ⟨by decide, by decide⟩, .inl ⟨_, rfl, _, _, rfl, rfl, (by show (0 : Int) < 10000; decide), _, rfl, small_log (by omega), ?_⟩⟩
          refine ⟨_, _, rfl, rfl, sl one hsm (by omega), ?_⟩
          refine ⟨_, rfl, .inl ⟨_, rfl, _, _, rfl, rfl, (by show (0 : Int) < 4; decide), rfl, _, rfl, ifI (fun b2 => ?_) (fun b2 => ?_)⟩⟩
          · rw [if_pos b2] at hN
            refine ⟨_, rfl, _, rfl, baseV k st, rfl, base.sz (by omega), _, _, rfl, rfl, "x", 120, _, rfl, rfl, c120, by omega, by omega, baseV k st, _, rfl, rfl, sl (n := 11) (m := 11) base ((sht_rep (c := 120) (n := (8 - ((baseV k st).length : Int)).toNat) (by decide)).le (by omega)) (by omega), ?_⟩
            have hq := q _ (Same.refl H)
            rw [hN] at hq
            exact hq
          · rw [if_neg b2] at hN
            refine ⟨_, rfl, _, rfl, .inl ⟨_, rfl, _, _, rfl, rfl, (by show (0 : Int) < 4; decide), "x", 120, _, rfl, rfl, c120, by omega, by omega, baseV k st, _, rfl, rfl, sl base (sht_rep (by decide)) (by omega), ?_⟩⟩
            have hq := q _ (Same.refl H)
            rw [hN] at hq
            exact hq
        · refine ⟨_, rfl, rfl, _, rfl, ifI (fun h => absurd h a3) (fun _ => ?_)⟩
          refine ⟨_, rfl, ?_⟩
          have hq := q _ (Same.refl H)
          rw [show nameV k st = ⟨#[oneV k st]⟩ by unfold nameV; rw [if_neg (by omega), if_neg (by omega), if_neg a1, if_neg a2, if_neg a3]] at hq
          exact hq
end
end Kx

namespace Kx
open PySem PySem.Spec PyProof.Rows L2 NdefX Kr Ke Kn
abbrev inL (c : Nat) : Bool := decide (c ∈ LET.cps.toList)
abbrev inD (c : Nat) : Bool := decide (c ∈ DIG.cps.toList)
/-- signs that make a name -/
def okN (l : List Nat) : Bool := decide (1 ≤ l.length) && decide (l.length ≤ 8) && inL (l.headD 0) && l.all fun c => inL c || inD c
def nameB (z : Str) : Bool := okN z.cps.toList
abbrev s_valid_name : Stmt := topS 29
abbrev N_valid_name : List Str := ["text", "sign"]
theorem sc_valid_name : FnScope N_valid_name ["text"] (defScope s_valid_name) := ⟨rfl, rfl, rfl, by decide +kernel, rfl, by decide +kernel, by decide +kernel⟩
/-- valid_name, is_name: a text of at most 1000 signs, told whether it is a name -/
def spName : Sp := fun vs H Q _ => ∃ z : Str, vs = [.str z] ∧ z.length ≤ 1000 ∧ ∀ H', Same H H' → Q (.bl (nameB z)) H'
theorem take_bl (l : List Nat) (f : Nat → Bool) (i : Nat) (c : Nat) (h : l[i]? = some c) : (l.take (i + 1)).map (fun c => V.bl (f c)) = (l.take i).map (fun c => V.bl (f c)) ++ [V.bl (f c)] := by
  rw [List.take_add_one, h, List.map_append]
  rfl
section
variable {P : Program} {w : World} {K : PySem.W.Frag} {mg : Str → Option Value} {base : Heap}
theorem ok_valid_name {f : Addr} {fd : FuncData} (F : Fun K "valid_name" "valid_name" s_valid_name f fd) (T : TxS mg) : FnOk P w K mg base CX0 1 f fd ["text"] spName := by
  refine F.ok sc_valid_name (fun vs H Q E h => ?_) (fun cdv A outer s H vs Q E hr h => ?_)
  · obtain ⟨z, rfl, _⟩ := h
    rfl
  · obtain ⟨z, rfl, hz, q⟩ := h
    have hsz : z.length ≤ sizeLine := sz9 (by omega)
    refine ⟨_, (pss_cons (ps_if (pt_not (pt_chain op_le op_le pe_int (pe_callB call_len_str (by rfl) T.m_len (by decide +kernel) (pa_cons (pv 0) pa_nil)) (pe_gc T.c_LONGEST_NAME rfl)))
        (pss_one (ps_ret pe_bl))
        pss_nil)
      (pss_cons (ps_if (pt_cmpR op_notIn_sign (pe_ix ix_str (pv 0) pe_int (fun _ _ => rfl)) (pe_gc T.c_LETTERS rfl) rfl)
        (pss_one (ps_ret pe_bl))
        pss_nil)
      (pss_one (ps_ret (pe_callB (cr_all rfl) (by rfl) T.m_all (by decide +kernel) (pa_cons (pe_lc (own := [("sign", 1)]) (g := gName 1) (tt := tYes) rfl sc_valid_name.nd (pi_str (pv 0)) (blkOk_by (own := [("sign", 1)]) (N := N_valid_name) (sc := defScope s_valid_name) (by decide +kernel)) (fun _ _ _ _ _ => pg_name (i := 1) sc_valid_name.nd rfl (Or.inl rfl)) (fun _ _ _ _ _ => pts_nil) (fun _ _ _ _ _ => (pe_or (pe_cmpR op_in_sign (pv 1) (pe_gc T.c_LETTERS rfl) rfl) (pe_one (pe_cmpR op_in_sign (pv 1) (pe_gc T.c_DIGITS rfl) rfl))))) pa_nil)))))), ?_⟩
    refine ⟨_, rfl, _, rfl, hsz, _, _, rfl, rfl, _, rfl, iteB (fun h1 => ?_) (fun h1 => ?_)⟩
    · refine ⟨_, _, rfl, rfl, _, rfl, iteB (fun h2 => ?_) (fun h2 => ?_)⟩
      · have h2' : ¬ ((z.length : Int) ≤ 8) := of_decide_eq_false (Bool.not_eq_true' _ ▸ h2)
        have e : nameB z = false := by
          unfold nameB okN
          rw [decide_eq_false (show ¬ z.cps.toList.length ≤ 8 by rw [Array.length_toList]; show ¬ z.length ≤ 8; omega)]
          simp
        exact e ▸ q H (Same.refl H)
      · have h2' : ((z.length : Int) ≤ 8) := of_decide_eq_true (by simpa using h2)
        have h1' : (1 : Int) ≤ (z.length : Int) := of_decide_eq_true h1
        obtain ⟨c, r, hc⟩ : ∃ c r, z.cps.toList = c :: r := by
          cases hl : z.cps.toList with
          | nil =>
            have := congrArg List.length hl
            rw [Array.length_toList] at this
            have e : z.length = 0 := this
            omega
          | cons c r => exact ⟨c, r, rfl⟩
        have hat : atI z.cps.toList 0 = some c := by rw [hc]; exact atI_nat (j := 0) rfl
        have hlen : z.cps.toList.length = z.length := Array.length_toList
        have eN : nameB z = (inL c && (c :: r).all fun c => inL c || inD c) := by
          unfold nameB okN
          rw [decide_eq_true (show z.cps.toList.length ≤ 8 by omega), decide_eq_true (show 1 ≤ z.cps.toList.length by omega), hc]
          rfl
        refine ⟨_, rfl, z, 0, c, rfl, rfl, hsz, hat, c, LET, rfl, rfl, _, rfl, iteB (fun h3 => ?_) (fun h3 => ?_)⟩
        · have e3 : inL c = false := by simpa using h3
          have e4 : nameB z = false := by rw [eN, e3]; rfl
          exact e4 ▸ q H (Same.refl H)
        · have e3 : inL c = true := by simpa using h3
          refine ⟨_, rfl, z, rfl, fun D hD => ?_⟩
          refine ⟨fun i m H1 => i + m = z.cps.toList.length ∧ Same H H1 ∧ H1 D = some (.lst ((z.cps.toList.take i).map fun c => V.bl (inL c || inD c))),
            ⟨z.cps.toList.length, by omega, same_upd hD, upd_same⟩, fun i m H1 hW => ?_⟩
          obtain ⟨em, sm, eD⟩ := hW
          by_cases hi : i < z.cps.toList.length
          · refine .inr ⟨(by show i < z.cps.size; rw [← Array.length_toList]; exact hi), fun H2 => Same H H2 ∧ H2 D = some (.lst ((z.cps.toList.take (i + 1)).map fun c => V.bl (inL c || inD c))), fun H2 hN => ⟨m - 1, by omega, by omega, hN.1, hN.2⟩, fun x H2 hy => ?_⟩
            obtain ⟨rfl, d, hd, rfl⟩ := hy
            have hd' : z.cps.toList[i]? = some d := by rw [Array.getElem?_toList]; exact hd
            refine ⟨rfl, _, rfl, d, LET, rfl, rfl, _, rfl, ?_⟩
            have fin : ∀ b : Bool, b = (inL d || inD d) → ∃ acc, H2 D = some (.lst acc) ∧ acc.length < sizeLine ∧ (Same H (upd H2 D (.lst (acc ++ [.bl b]))) ∧ (upd H2 D (.lst (acc ++ [.bl b]))) D = some (.lst ((z.cps.toList.take (i + 1)).map fun c => V.bl (inL c || inD c)))) := by
              rintro b rfl
              refine ⟨_, eD, ?_, same_mut sm hD, ?_⟩
              · rw [List.length_map, List.length_take]
                exact sz8 (by omega)
              · rw [upd_same, take_bl _ _ _ _ hd']
            refine iteB (fun h4 => ?_) (fun h4 => ?_)
            · exact fin true (by rw [show inL d = true from h4]; rfl)
            · refine ⟨_, rfl, d, DIG, rfl, rfl, ?_⟩
              exact fin _ (by rw [show inL d = false from h4]; rfl)
          · refine .inl ⟨(by show z.cps.size ≤ i; rw [← Array.length_toList]; omega), ?_⟩
            refine ⟨D, z.cps.toList.map fun c => inL c || inD c, rfl, .inl (.inl ?_), ?_⟩
            · rw [eD, List.take_of_length_le (by omega), List.map_map]
              rfl
            · rw [e3, Bool.true_and, ← hc] at eN
              have e5 : (z.cps.toList.map fun c => inL c || inD c).all id = nameB z := by
                rw [eN, List.all_map]
                rfl
              rw [e5]
              exact q H1 sm
    · have h1' : ¬ ((1 : Int) ≤ (z.length : Int)) := of_decide_eq_false h1
      refine ⟨_, rfl, iteT ?_⟩
      have e : nameB z = false := by
        unfold nameB okN
        rw [decide_eq_false (show ¬ 1 ≤ z.cps.toList.length by rw [Array.length_toList]; show ¬ 1 ≤ z.length; omega)]
        simp
      exact e ▸ q H (Same.refl H)
end
section
variable {P : Program} {w : World} {K : PySem.W.Frag} {mg : Str → Option Value} {base : Heap}
theorem okN_iff (l : List Nat) (h1 : 1 ≤ l.length) (h8 : l.length ≤ 8) : okN l = (inL (l.headD 0) && l.all fun c => inL c || inD c) := by
  unfold okN
  rw [decide_eq_true h1, decide_eq_true h8]
  rfl
end
end Kx

namespace Kx
open PySem PySem.Spec PyProof.Rows L2 NdefX Kr Ke Kn
/-! ### marks -/
def wNone : Str := "none"
def wOwn : Str := "own"
def wRead : Str := "read"
def wWrite : Str := "write"
def WDS : List Str := [wNone, wOwn, wRead, wWrite]
def WD (r : Nat) : Str := WDS.getD r wNone
def WV : List V := WDS.map V.str
theorem wd_at {r : Nat} (h : r < 4) : WDS[r]? = some (WD r) := by
  match r, h with
  | 0, _ => rfl
  | 1, _ => rfl
  | 2, _ => rfl
  | 3, _ => rfl
theorem wds_nd : WDS.Nodup := by decide +kernel
theorem wd_inj {r s : Nat} (hr : r < 4) (hs : s < 4) (h : WD r = WD s) : r = s := nd_ix wds_nd (wd_at hr) (by rw [h]; exact wd_at hs)
theorem wd_of {i : Nat} {z : Str} (h : WDS[i]? = some z) : i < 4 ∧ z = WD i := by
  have hi : i < WDS.length := (List.getElem?_eq_some_iff.mp h).1
  have hi4 : i < 4 := hi
  rw [wd_at hi4] at h
  exact ⟨hi4, (Option.some.inj h).symm⟩
theorem wv_flat : WV.all flatV = true := by decide +kernel
theorem inV_wd (z : Str) : inV (.str z) WV = decide (z ∈ WDS) := by
  show (WDS.map V.str).any (fun y => eqV y (.str z)) = _
  rw [List.any_map]
  by_cases h : z ∈ WDS
  · rw [decide_eq_true h, List.any_eq_true]
    exact ⟨z, h, beq_self_eq_true z⟩
  · rw [decide_eq_false h, List.any_eq_false]
    intro y hy e
    have e' : (y == z) = true := e
    exact h (beq_iff_eq.mp e' ▸ hy)
theorem wd_mem {z : Str} (h : z ∈ WDS) : ∃ r, r < 4 ∧ z = WD r := by
  obtain ⟨i, hi⟩ := List.mem_iff_getElem?.mp h
  exact ⟨i, wd_of hi⟩
theorem mem_wd {r : Nat} (h : r < 4) : WD r ∈ WDS := List.mem_of_getElem? (wd_at h)
theorem ksw : ¬ (("word" : Str) = "strength") := by decide +kernel
def mflds (r : Nat) : List (Str × V) := putF "strength" (.int (r : Int)) (putF "word" (.str (WD r)) [])
theorem mf_word (r : Nat) : (mflds r).lookup ("word" : Str) = some (.str (WD r)) := by
  unfold mflds
  rw [lookup_putF, if_neg ksw, lookup_putF, if_pos rfl]
theorem mf_strength (r : Nat) : (mflds r).lookup ("strength" : Str) = some (.int (r : Int)) := by
  unfold mflds
  rw [lookup_putF, if_pos rfl]
/-- a mark stands at p -/
def MkAt (C : Addr) (H : Hp) (p : Addr) (r : Nat) : Prop := r < 4 ∧ ∃ dx, H p = some (.ins C dx (mflds r))
theorem MkAt.same {C p : Addr} {H H' : Hp} {r : Nat} (h : MkAt C H p r) (s : Same H H') : MkAt C H' p r := ⟨h.1, let ⟨dx, e⟩ := h.2; ⟨dx, s _ _ e⟩⟩
/-- what the marks ask of the text -/
structure TxM (K : PySem.W.Frag) (mg : Str → Option Value) (C wa : Addr) (mc : Value) : Prop extends TxS mg where
  gC : mg "Mark" = some (.ref C)
  ins : C8.InsC K C
  nW : NoAttr K C "word"
  nS : NoAttr K C "strength"
  rd : ClX.CRead K C mc
  wv : ClX.CVal K C mc "WORDS" (.ref wa) (.ref wa)
  wt : ∃ (o : Obj) (its : Array Value) (n : Nat), K.lookup wa = some o ∧ o.cls = .type "tuple" ∧ o.dict = none ∧ o.data = .seq its n ∧ its.size ≤ sizeLine ∧ Vals WV its.toList
theorem TxM.wds {K : PySem.W.Frag} {mg : Str → Option Value} {C wa : Addr} {mc : Value} (T : TxM K mg C wa mc) (H : Hp) : SqT K H wa WV := .inr (let ⟨o, its, n, a, b, _, c⟩ := T.wt; ⟨o, its, n, a, b, c⟩)
def spMkI (C : Addr) : Sp := fun vs H Q _ => ∃ (p : Addr) (r : Nat), vs = [.ref p, .str (WD r)] ∧ (∃ dx, H p = some (.ins C dx [])) ∧ r < 4 ∧
  ∀ H', MkAt C H' p r → (∀ b o, H b = some o → b ≠ p → H' b = some o) → Q .non H'
abbrev s_mkInit : Stmt := inClass (topS 23) 1
abbrev N_mkInit : List Str := ["self", "word"]
theorem sc_mkInit : FnScope N_mkInit ["self", "word"] (defScope s_mkInit) := ⟨rfl, rfl, rfl, by decide +kernel, rfl, by decide +kernel, by decide +kernel⟩
section
variable {P : Program} {w : World} {K : PySem.W.Frag} {mg : Str → Option Value} {base : Heap} {C wa : Addr} {mc : Value}
theorem ok_mkInit {f : Addr} {fd : FuncData} (F : Fun K "__init__" "Mark.__init__" s_mkInit f fd) (T : TxM K mg C wa mc) : FnOk P w K mg base CX0 1 f fd ["self", "word"] (spMkI C) := by
  refine F.ok sc_mkInit (fun vs H Q E h => ?_) (fun cdv A outer s H vs Q E hr h => ?_)
  · obtain ⟨p, r, rfl, _⟩ := h
    rfl
  · obtain ⟨p, r, rfl, ⟨dx, hp⟩, hr4, q⟩ := h
    refine ⟨_, (pss_cons (ps_if (pt_cmpR op_notIn_seq (pv 1) (ClX.pe_cval (pe_glob (v := .ref C) (by rfl) T.gC rfl)) rfl)
        (pss_one ps_never)
        pss_nil)
      (pss_cons (ps_fld (pv 0) (pv 1) rfl)
      (pss_one (ps_fld (pv 0) (pe_bm PySem.F.plainAttrs_tuple PySem.F.slot_tuple_index PySem.F.type_tuple_index mt_tup_index (ClX.pe_cval (pe_glob (v := .ref C) (by rfl) T.gC rfl)) (pa_cons (pv 1) pa_nil)) rfl)))), ?_⟩
    refine ⟨_, rfl, C, mc, _, _, rfl, T.rd, T.wv, wa, WV, rfl, .inr (T.wds H), rfl, wv_flat, _, rfl, ?_⟩
    rw [if_pos rfl, inV_wd, decide_eq_true (mem_wd hr4)]
    refine iteF ?_
    refine ⟨_, rfl, _, rfl, p, C, dx, _, rfl, hp, T.ins.cl, T.nW, by show 0 < 1000; decide, ?_⟩
    refine ⟨C, mc, _, _, rfl, T.rd, T.wv, .inr (.inl ⟨rfl, let ⟨o, _, _, a, b, c, _⟩ := T.wt; ⟨o, a, b, c⟩⟩), _, rfl, wa, WDS, WD r, r, rfl, rfl, T.wds _, wd_at hr4, fun m hm' hw => ?_, _, rfl, p, C, dx, _, rfl, upd_same, T.ins.cl, T.nS, by show 1 < 1000; decide, ?_⟩
    · have := wd_of hw
      exact absurd (wd_inj hr4 this.1 this.2) (by omega)
    · refine q _ ⟨hr4, dx, upd_same⟩ fun b o e ne => ?_
      rw [upd_ne ne, upd_ne ne]
      exact e
end
/-- a comparison of two marks -/
def spCmp (C : Addr) (g : Nat → Nat → Bool) : Sp := fun vs H Q _ => ∃ (a b : Addr) (r s : Nat), vs = [.ref a, .ref b] ∧ MkAt C H a r ∧ MkAt C H b s ∧ Q (.bl (g r s)) H
def gEq (r s : Nat) : Bool := decide (V.int (r : Int) = V.int (s : Int))
def gLt (r s : Nat) : Bool := decide ((r : Int) < (s : Int))
abbrev s_eq : Stmt := inClass (topS 23) 2
abbrev N_eq : List Str := ["self", "other"]
theorem sc_eq : FnScope N_eq ["self", "other"] (defScope s_eq) := ⟨rfl, rfl, rfl, by decide +kernel, rfl, by decide +kernel, by decide +kernel⟩
abbrev s_lt : Stmt := inClass (topS 23) 3
abbrev N_lt : List Str := ["self", "other"]
theorem sc_lt : FnScope N_lt ["self", "other"] (defScope s_lt) := ⟨rfl, rfl, rfl, by decide +kernel, rfl, by decide +kernel, by decide +kernel⟩
section
variable {P : Program} {w : World} {K : PySem.W.Frag} {mg : Str → Option Value} {base : Heap} {C wa : Addr} {mc : Value}
theorem ok_eq {f : Addr} {fd : FuncData} (F : Fun K "__eq__" "Mark.__eq__" s_eq f fd) (T : TxM K mg C wa mc) : FnOk P w K mg base CX0 1 f fd ["self", "other"] (spCmp C gEq) := by
  refine F.ok sc_eq (fun vs H Q E h => ?_) (fun cdv A outer s H vs Q E hr h => ?_)
  · obtain ⟨a, b, r, s, rfl, _⟩ := h
    rfl
  · obtain ⟨a, b, r, s, rfl, ⟨hr4, dx, ha⟩, ⟨hs4, dy, hb⟩, q⟩ := h
    refine ⟨_, (pss_cons (ps_if (pt_not (pt_val (pe_callB (C8.call_isC T.ins) (by rfl) T.m_isinstance (by decide +kernel) (pa_cons (pv 1) (pa_cons (pe_glob (v := .ref C) (by rfl) T.gC rfl) pa_nil))))) (pss_one ps_never) pss_nil)
      (pss_one (ps_ret (pe_cmpR op_eq (pe_fld (pv 0) rfl) (pe_fld (pv 1) rfl) (nomark _))))), ?_⟩
    refine ⟨_, rfl, b, dy, _, rfl, hb, _, rfl, iteF ?_⟩
    exact ⟨_, rfl, a, C, dx, _, _, rfl, ha, T.ins.cl, T.nS, mf_strength r, _, rfl, b, C, dy, _, _, rfl, hb, T.ins.cl, T.nS, mf_strength s, rfl, q⟩
theorem ok_lt {f : Addr} {fd : FuncData} (F : Fun K "__lt__" "Mark.__lt__" s_lt f fd) (T : TxM K mg C wa mc) : FnOk P w K mg base CX0 1 f fd ["self", "other"] (spCmp C gLt) := by
  refine F.ok sc_lt (fun vs H Q E h => ?_) (fun cdv A outer s H vs Q E hr h => ?_)
  · obtain ⟨a, b, r, s, rfl, _⟩ := h
    rfl
  · obtain ⟨a, b, r, s, rfl, ⟨hr4, dx, ha⟩, ⟨hs4, dy, hb⟩, q⟩ := h
    refine ⟨_, (pss_cons (ps_if (pt_not (pt_val (pe_callB (C8.call_isC T.ins) (by rfl) T.m_isinstance (by decide +kernel) (pa_cons (pv 1) (pa_cons (pe_glob (v := .ref C) (by rfl) T.gC rfl) pa_nil))))) (pss_one ps_never) pss_nil)
      (pss_one (ps_ret (pe_cmpR op_lt (pe_fld (pv 0) rfl) (pe_fld (pv 1) rfl) (nomark _))))), ?_⟩
    refine ⟨_, rfl, b, dy, _, rfl, hb, _, rfl, iteF ?_⟩
    exact ⟨_, rfl, a, C, dx, _, _, rfl, ha, T.ins.cl, T.nS, mf_strength r, _, rfl, b, C, dy, _, _, rfl, hb, T.ins.cl, T.nS, mf_strength s, _, _, rfl, rfl, q⟩
end
/-! ### marks as callers make and compare them -/
structure MkC (P : Program) (w : World) (K : PySem.W.Frag) (mg : Str → Option Value) (base : Heap) (C : Addr) (k : Nat) : Prop where
  ex : ∃ (f : Addr) (fd : FuncData), Mk K C f ∧ FnOk P w K mg base CX0 k f fd ["self", "word"] (spMkI C) ∧ Binds K fd ["self", "word"] []
  g : mg "Mark" = some (.ref C)
def tMkV (C : Addr) (te : TE) : TE := fun σ H Q => te σ H fun v H1 => ∃ r, r < 4 ∧ [v] = [V.str (WD r)] ∧ ∀ x H2, H1 x = none → Same H1 H2 → MkAt C H2 x r → Q (.ref x) H2
section
variable {X : Cx} {C : Addr} {k : Nat} {e : Expr} {te : TE} {p pos : Pos}
theorem pe_mkV (M : MkC X.prog X.w X.K X.mg X.base C k) (hr : Room (k + 1) X.A) (hg : Gl X "Mark") (he : PE X e te) (hse : starEach [e] X.env = [(false, eval e X.env)] := by rfl) : PE X (.Call (.Name "Mark" p) [e] [] pos) (tMkV C te) := by
  obtain ⟨f, fd, M1, F, hb⟩ := M.ex
  refine ⟨fun pins s σ H Q I h => ?_⟩
  refine wpAny_Call_Name_kw (ld_glob I hg M.g ?_)
  have har := (pa_cons he (pa_nil (X := X)) hse).run pos pins s σ H (fun vs H1 => ∃ r, r < 4 ∧ vs = [V.str (WD r)] ∧ ∀ x H2, H1 x = none → Same H1 H2 → MkAt C H2 x r → Q (.ref x) H2) I h
  refine PySem.W.callWith_K (h₀ := X.base) I.ok.mod.kin M1.kp (thn har fun us s1 hq => ?_) hse rfl
  obtain ⟨vs, H1, I1, rv, r, hr4, rfl, q⟩ := hq
  refine ⟨I1.kIn, run_make (dvs := []) (ds := []) M1 F hr hb .nil pass0 I1 rv fun x dx nx nd ne => ?_⟩
  exact ⟨x, r, rfl, ⟨dx, upd_same⟩, hr4, fun H' hm hk => ⟨rfl, q x H' nx (Same.made nx nd hk) hm⟩⟩
end
/-- an operator between two marks -/
structure OpC (P : Program) (w : World) (K : PySem.W.Frag) (mg : Str → Option Value) (base : Heap) (C : Addr) (nm : Str) (sp : Sp) : Prop where
  ex : ∃ (f : Addr) (fd : FuncData), FnOk P w K mg base CX0 1 f fd ["self", "other"] sp ∧ Binds K fd ["self", "other"] [] ∧ PySem.W.findIn K (.ref C) nm = some (some (.ref f)) ∧ PySem.W.isFn K (.ref f) = true
  sf : PySem.W.selfFirst K C = true
def rMk (C : Addr) (g : Nat → Nat → Bool) : R2 := fun x y H Q => ∃ a b r s, x = .ref a ∧ y = .ref b ∧ MkAt C H a r ∧ MkAt C H b s ∧ Q (.bl (g r s)) H
section
variable {X : Cx} {C : Addr}
theorem op_mk {op : CmpOp} {g : Nat → Nat → Bool} (O : OpC X.prog X.w X.K X.mg X.base C (cmpInfo op).2.1 (spCmp C g)) (hr : Room 1 X.A) (hc : ∀ v u, compareOp op v u = richCompare op v u := by intro _ _; rfl) : OpR X (compareOp op) (rMk C g) := by
  obtain ⟨f, fd, F, hb, hs, hf⟩ := O.ex
  intro pins s σ H x y v u Q I rx ry h
  obtain ⟨a, b, r, t, rfl, rfl, ha, hb', q⟩ := h
  obtain ⟨_, dx, ea⟩ := id ha
  obtain ⟨_, dy, eb⟩ := id hb'
  exact op_ownC (X := X) (E := E0) F hs hf hb pass0 hr hc pins s σ H _ _ v u Q I rx ry ⟨a, b, dx, dy, _, _, rfl, rfl, ea, eb, a, b, r, t, rfl, ha, hb', q⟩
end
end Kx

namespace Kx
open PySem PySem.Spec PyProof.Rows L2 NdefX Kr Ke Kn Kz Ky
/-! ### what a memory is made of -/
theorem txt_flat (zs : List Str) : (zs.map V.str).all flatV = true := by
  rw [List.all_eq_true]
  intro x hx
  obtain ⟨z, _, rfl⟩ := List.mem_map.mp hx
  rfl
theorem inV_txt (z : Str) (zs : List Str) : inV (.str z) (zs.map V.str) = decide (z ∈ zs) := by
  show (zs.map V.str).any (fun y => eqV y (.str z)) = _
  rw [List.any_map]
  by_cases h : z ∈ zs
  · rw [decide_eq_true h, List.any_eq_true]
    exact ⟨z, h, beq_self_eq_true z⟩
  · rw [decide_eq_false h, List.any_eq_false]
    intro y hy e
    have e' : (y == z) = true := e
    exact h (beq_iff_eq.mp e' ▸ hy)
/-- the n-th text of a tuple -/
abbrev at0 (p : List Str) (n : Nat) : Str := p.getD n Str.empty
def vRun (rs : List Str) : Bool := rs.all nameB && decide rs.Nodup
def leadB (rs : List Str) (p : List Str) : Bool := decide (at0 p 0 ∈ rs) && (decide (at0 p 1 ∈ rs) && decide (at0 p 0 ≠ at0 p 1))
def vLds (rs : List Str) (xs : List (List Str)) : Bool := xs.all (leadB rs) && decide xs.Nodup
def KW : List Str := ["own", "read", "write"]
def markB (rs : List Str) (p : List Str) : Bool := decide (at0 p 0 ∈ rs) && (nameB (at0 p 1) && decide (at0 p 2 ∈ KW))
def vMks (rs : List Str) (xs : List (List Str)) : Bool := xs.all (markB rs) && decide (xs.map (·.take 2)).Nodup
/-- texts of at most 1000 signs -/
def Shts (zs : List Str) : Prop := ∀ z ∈ zs, Sht z 1000
theorem len2 : ∀ {p : List Str}, p.length = 2 → p = [at0 p 0, at0 p 1]
  | [a, b], _ => rfl
theorem len3 : ∀ {p : List Str}, p.length = 3 → p = [at0 p 0, at0 p 1, at0 p 2]
  | [a, b, c], _ => rfl
theorem Tups.same {K : PySem.W.Frag} {H H' : Hp} {d : Nat} {l : Addr} {ks : List (Addr × List Str)} (s : Same H H') (t : Tups K H d l ks) : Tups K H' d l ks :=
  ⟨s.seq t.1, t.2.1, fun p hp => ⟨(t.2.2 p hp).1, Same.tupS s (t.2.2 p hp).2⟩⟩
theorem tups_get {ks : List (Addr × List Str)} {i : Nat} {x : V} (h : (ks.map fun p => V.ref p.1)[i]? = some x) : ∃ p, ks[i]? = some p ∧ x = .ref p.1 := by
  rw [List.getElem?_map] at h
  obtain ⟨p, a, b⟩ := Option.map_eq_some_iff.mp h
  exact ⟨p, a, b.symm⟩
/-- what the program asks of its own constant -/
structure TxV (K : PySem.W.Frag) (mg : Str → Option Value) (ka : Addr) : Prop extends TxS mg where
  gKW : mg "KEPT_WORDS" = some (.ref ka)
  kt : ∃ (o : Obj) (its : Array Value) (n : Nat), K.lookup ka = some o ∧ o.cls = .type "tuple" ∧ o.dict = none ∧ o.data = .seq its n ∧ its.size ≤ sizeLine ∧ Vals (KW.map V.str) its.toList
theorem TxV.kw {K : PySem.W.Frag} {mg : Str → Option Value} {ka : Addr} (T : TxV K mg ka) (H : Hp) : SqT K H ka (KW.map V.str) := .inr (let ⟨o, its, n, a, b, _, c⟩ := T.kt; ⟨o, its, n, a, b, c⟩)
abbrev s_valid_running : Stmt := topS 46
abbrev N_valid_running : List Str := ["running", "name"]
theorem sc_valid_running : FnScope N_valid_running ["running"] (defScope s_valid_running) := ⟨rfl, rfl, rfl, by decide +kernel, rfl, by decide +kernel, by decide +kernel⟩
abbrev s_valid_leads : Stmt := topS 47
abbrev N_valid_leads : List Str := ["leads", "running", "known", "one", "other"]
theorem sc_valid_leads : FnScope N_valid_leads ["leads", "running"] (defScope s_valid_leads) := ⟨rfl, rfl, rfl, by decide +kernel, rfl, by decide +kernel, by decide +kernel⟩
abbrev s_valid_marks : Stmt := topS 48
abbrev N_valid_marks : List Str := ["marks", "running", "program", "thing", "word", "_"]
theorem sc_valid_marks : FnScope N_valid_marks ["marks", "running"] (defScope s_valid_marks) := ⟨rfl, rfl, rfl, by decide +kernel, rfl, by decide +kernel, by decide +kernel⟩
def spVRun (K : PySem.W.Frag) : Sp := fun vs H Q _ => ∃ (r : Addr) (rs : List Str), vs = [.ref r] ∧ SqL K H r (rs.map V.str) ∧ rs.length < 64 ∧ Shts rs ∧ ∀ H', Same H H' → Q (.bl (vRun rs)) H'
def spVLds (K : PySem.W.Frag) : Sp := fun vs H Q _ => ∃ (l r : Addr) (ks : List (Addr × List Str)) (rs : List Str), vs = [.ref l, .ref r] ∧ Tups K H 2 l ks ∧ SqL K H r (rs.map V.str) ∧ ∀ H', Same H H' → Q (.bl (vLds rs (ks.map (·.2)))) H'
def spVMks (K : PySem.W.Frag) : Sp := fun vs H Q _ => ∃ (l r : Addr) (ks : List (Addr × List Str)) (rs : List Str), vs = [.ref l, .ref r] ∧ Tups K H 3 l ks ∧ SqL K H r (rs.map V.str) ∧ (∀ p ∈ ks, Shts p.2) ∧ ∀ H', Same H H' → Q (.bl (vMks rs (ks.map (·.2)))) H'
theorem dec_len {a b : Nat} {P : Prop} [Decidable P] (h : a = b ↔ P) : decide (V.int (a : Int) = V.int (b : Int)) = decide P := by
  by_cases e : P
  · rw [decide_eq_true e, h.mpr e, decide_eq_true rfl]
  · rw [decide_eq_false e, decide_eq_false]
    intro z
    injection z with z
    exact e (h.mp (by omega))
section
variable {P : Program} {w : World} {K : PySem.W.Frag} {mg : Str → Option Value} {base : Heap}
theorem ok_valid_running {f : Addr} {fd : FuncData} (F : Fun K "_valid_running" "_valid_running" s_valid_running f fd) (T : TxS mg) (C_valid_name : Cal P w K mg base "valid_name" 1 spName) : FnOk P w K mg base CX0 2 f fd ["running"] (spVRun K) := by
  refine F.ok sc_valid_running (fun vs H Q E h => ?_) (fun cdv A outer s H vs Q E hr h => ?_)
  · obtain ⟨r, rs, rfl, _⟩ := h
    rfl
  · obtain ⟨r, rs, rfl, hR, hl, hs, q⟩ := h
    refine ⟨_, (pss_one (ps_ret (pe_and (pe_callB (cr_all rfl) (by rfl) T.m_all (by decide +kernel) (pa_cons (pe_lc (own := [("name", 1)]) (g := gName 1) (tt := tYes) rfl sc_valid_running.nd (pi_list (pv 0)) (blkOk_by (own := [("name", 1)]) (N := N_valid_running) (sc := defScope s_valid_running) (by decide +kernel)) (fun _ _ _ _ _ => pg_name (i := 1) sc_valid_running.nd rfl (Or.inl rfl)) (fun _ _ _ _ _ => pts_nil) (fun _ _ _ _ _ => (pe_cal C_valid_name (hr.mono (by decide)) (by rfl) (pa_cons (pv 1) pa_nil)))) pa_nil)) (pe_one (pe_cmpR op_eq (pe_lenS rfl (by rfl) T.m_len (by rfl) T.m_set (pv 0)) (pe_callB call_len_seq (by rfl) T.m_len (by decide +kernel) (pa_cons (pv 0) pa_nil)) (nomark _)))))), ?_⟩
    refine ⟨_, rfl, r, rfl, ⟨_, hR⟩, fun D hD => ?_⟩
    refine lc_list (xs := rs.map V.str) (fun i H1 => Same H H1 ∧ H1 D = some (.lst ((rs.take i).map fun z => V.bl (nameB z)))) ⟨same_upd hD, upd_same⟩ (fun i H1 _ ⟨s1, _⟩ => s1.seq hR) ?_ ?_
    · rintro i y H1 hy ⟨s1, d1⟩
      obtain ⟨z, hz, rfl⟩ : ∃ z, rs[i]? = some z ∧ y = .str z := by
        rw [List.getElem?_map] at hy
        obtain ⟨z, a, b⟩ := Option.map_eq_some_iff.mp hy
        exact ⟨z, a, b.symm⟩
      refine ⟨rfl, _, rfl, z, rfl, (hs z (List.mem_of_getElem? hz)).1, fun H2 s2 => ⟨_, s2 _ _ d1, ?_, same_mut (s1.trans s2) hD, ?_⟩⟩
      · rw [List.length_map, List.length_take]
        exact sz8 (by omega)
      · rw [upd_same, List.take_add_one, hz, List.map_append]
        rfl
    · rintro H1 ⟨s1, d1⟩
      rw [List.length_map, List.take_length] at d1
      refine ⟨D, rs.map nameB, rfl, .inl (.inl ?_), _, rfl, ?_⟩
      · rw [d1, List.map_map]
        rfl
      have ea : (rs.map nameB).all id = rs.all nameB := by
        rw [List.all_map]
        rfl
      rw [ea]
      refine iteB (fun h1 => ?_) (fun h1 => ?_)
      · refine ⟨_, rfl, r, rs, rfl, s1.seq hR, hl, _, rfl, r, _, rfl, .inl (s1.seq hR), rfl, ?_⟩
        have e : decide (V.int ((metz rs).length : Nat) = V.int (((rs.map V.str).length : Nat) : Int)) = vRun rs := by
          rw [List.length_map, dec_len (metz_iff rs)]
          unfold vRun
          rw [h1, Bool.true_and]
        show Q (.bl (decide (V.int ((metz rs).length : Nat) = V.int (((rs.map V.str).length : Nat) : Int)))) H1
        rw [e]
        exact q _ s1
      · have e : vRun rs = false := by unfold vRun; rw [h1]; rfl
        rw [← e]
        exact q _ s1
theorem ok_valid_leads {f : Addr} {fd : FuncData} (F : Fun K "_valid_leads" "_valid_leads" s_valid_leads f fd) (T : TxS mg) : FnOk P w K mg base CX0 2 f fd ["leads", "running"] (spVLds K) := by
  refine F.ok sc_valid_leads (fun vs H Q E h => ?_) (fun cdv A outer s H vs Q E hr h => ?_)
  · obtain ⟨l, r, ks, rs, rfl, _⟩ := h
    rfl
  · obtain ⟨l, r, ks, rs, rfl, hL, hR, q⟩ := h
    refine ⟨_, (pss_cons (ps_set (i := 2) sc_valid_leads.nd rfl (Or.inl rfl) (pe_callB (cr_all rfl) (by rfl) T.m_all (by decide +kernel) (pa_cons (pe_lc (own := [("one", 3), ("other", 4)]) (g := gTup K 2 (gCons (gName 3) (gCons (gName 4) gNil))) (tt := tYes) rfl sc_valid_leads.nd (pi_list (pv 0)) (blkOk_by (own := [("one", 3), ("other", 4)]) (N := N_valid_leads) (sc := defScope s_valid_leads) (by decide +kernel)) (fun _ _ _ _ _ => pg_tup rfl (pgs_cons (pg_name (i := 3) sc_valid_leads.nd rfl (Or.inl rfl)) (pgs_cons (pg_name (i := 4) sc_valid_leads.nd rfl (Or.inl rfl)) pgs_nil))) (fun _ _ _ _ _ => pts_nil) (fun _ _ _ _ _ => (pe_and (pe_cmpR (show OpR _ _ (rIn K false) from op_in_seq) (pv 3) (pv 1) (by rfl)) (pe_and (pe_cmpR (show OpR _ _ (rIn K false) from op_in_seq) (pv 4) (pv 1) (by rfl)) (pe_one (pe_cmpR op_ne (pv 3) (pv 4) (nomark _))))))) pa_nil)))
      (pss_one (ps_ret (pe_and (pv 2) (pe_one (pe_cmpR op_eq (pe_lenT (d := 2) rfl hr.units (by rfl) T.m_len (by rfl) T.m_set (pv 0)) (pe_callB call_len_seq (by rfl) T.m_len (by decide +kernel) (pa_cons (pv 0) pa_nil)) (nomark _))))))), ?_⟩
    have hl := hL.2.1
    refine ⟨_, rfl, l, rfl, ⟨_, hL.1⟩, fun D hD => ?_⟩
    refine lc_list (K := K) (a := l) (xs := ks.map fun p => V.ref p.1) (fun i H1 => Same H H1 ∧ H1 D = some (.lst ((ks.take i).map fun p => V.bl (leadB rs p.2)))) ⟨same_upd hD, upd_same⟩ (fun i H1 _ ⟨s1, _⟩ => s1.seq hL.1) ?_ ?_
    · rintro i y H1 hy ⟨s1, d1⟩
      obtain ⟨p, hp, rfl⟩ := tups_get hy
      obtain ⟨p2, pt⟩ := hL.2.2 p (List.mem_of_getElem? hp)
      have e2 := len2 p2
      rw [e2] at pt
      refine ⟨_, _, rfl, Same.tupS s1 pt, rfl, _, _, rfl, _, _, rfl, rfl, rfl, ?_⟩
      have fin : ∀ b : Bool, b = leadB rs p.2 → ∃ acc, H1 D = some (.lst acc) ∧ acc.length < sizeLine ∧ (Same H (upd H1 D (.lst (acc ++ [.bl b]))) ∧ (upd H1 D (.lst (acc ++ [.bl b]))) D = some (.lst ((ks.take (i + 1)).map fun p => V.bl (leadB rs p.2)))) := fun b eb => by
        refine ⟨_, d1, ?_, same_mut s1 hD, ?_⟩
        · rw [List.length_map, List.length_take]
          exact sz8 (by omega)
        · rw [upd_same, List.take_add_one, hp, List.map_append, eb]
          rfl
      refine ⟨_, rfl, _, rfl, r, _, rfl, .inl (s1.seq hR), rfl, txt_flat rs, _, rfl, ?_⟩
      rw [if_neg Bool.false_ne_true, inV_txt]
      refine iteB (fun h1 => ?_) (fun h1 => ?_)
      · refine ⟨_, rfl, _, rfl, r, _, rfl, .inl (s1.seq hR), rfl, txt_flat rs, _, rfl, ?_⟩
        rw [if_neg Bool.false_ne_true, inV_txt]
        refine iteB (fun h2 => ?_) (fun h2 => ?_)
        · refine ⟨_, rfl, _, rfl, rfl, ?_⟩
          refine fin _ ?_
          unfold leadB
          rw [h1, h2]
          by_cases e : at0 p.2 0 = at0 p.2 1
          · rw [e]; simp
          · have e' : ¬ (V.str (at0 p.2 0) = V.str (at0 p.2 1)) := fun z => by
              injection z with z
              exact e z
            rw [decide_eq_false e', decide_eq_true e]
            rfl
        · exact fin _ (by unfold leadB; rw [h1, h2]; rfl)
      · exact fin _ (by unfold leadB; rw [h1]; rfl)
    · rintro H1 ⟨s1, d1⟩
      rw [List.length_map, List.take_length] at d1
      refine ⟨D, ks.map fun p => leadB rs p.2, rfl, .inl (.inl ?_), _, rfl, ?_⟩
      · rw [d1, List.map_map]
        rfl
      have ea : (ks.map fun p => leadB rs p.2).all id = (ks.map (·.2)).all (leadB rs) := by
        rw [List.all_map, List.all_map]
        rfl
      rw [ea]
      refine ⟨_, rfl, iteB (fun h1 => ?_) (fun h1 => ?_)⟩
      · refine ⟨_, rfl, l, ks, rfl, Tups.same s1 hL, fun L dL => ⟨_, rfl, l, _, rfl, .inl (s1.seq hL.1), rfl, ?_⟩⟩
        have e : decide (V.int ((L.length : Nat) : Int) = V.int (((ks.map fun p => V.ref p.1).length : Nat) : Int)) = vLds rs (ks.map (·.2)) := by
          rw [List.length_map, dec_len dL.len_iff]
          unfold vLds
          rw [h1, Bool.true_and]
        show Q (.bl (decide (V.int ((L.length : Nat) : Int) = V.int (((ks.map fun p => V.ref p.1).length : Nat) : Int)))) H1
        rw [e]
        exact q _ s1
      · have e : vLds rs (ks.map (·.2)) = false := by unfold vLds; rw [h1]; rfl
        rw [← e]
        exact q _ s1
end
end Kx

namespace Kx
open PySem PySem.Spec PyProof.Rows L2 NdefX Kr Ke Kn Kz Ky
/-- a list of our own at D, of tuples of our own -/
structure Nw (H : Hp) (D : Addr) (as : List (Addr × List Str)) : Prop where
  l : H D = some (.lst (as.map fun q => V.ref q.1))
  t : ∀ q ∈ as, H q.1 = some (.tup (q.2.map V.str))
theorem Nw.nil {H : Hp} {D : Addr} : Nw (upd H D (.lst [])) D [] := ⟨upd_same, fun q h => nomatch h⟩
theorem Nw.push {H : Hp} {D t : Addr} {as : List (Addr × List Str)} {k : List Str} (n : Nw H D as) (nt : H t = none) : Nw (upd (upd H t (.tup (k.map V.str))) D (.lst ((as.map fun q => V.ref q.1) ++ [.ref t]))) D (as ++ [(t, k)]) := by
  have hDt : D ≠ t := ne_of_none n.l nt
  refine ⟨?_, fun q hq => ?_⟩
  · rw [upd_same, List.map_append]
    rfl
  · rcases List.mem_append.mp hq with h | h
    · have e := n.t q h
      have h1 : q.1 ≠ D := fun z => by rw [z, n.l] at e; cases e
      rw [upd_ne h1, upd_ne (ne_of_none e nt)]
      exact e
    · rw [List.mem_singleton.mp h, upd_ne (Ne.symm hDt), upd_same]
theorem Nw.same {H H' : Hp} {D : Addr} {as : List (Addr × List Str)} (n : Nw H D as) (s : Same H H') : Nw H' D as := ⟨s _ _ n.l, fun q hq => s _ _ (n.t q hq)⟩
theorem Nw.tups {K : PySem.W.Frag} {H : Hp} {D : Addr} {as : List (Addr × List Str)} {d : Nat} (n : Nw H D as) (hl : as.length < 77) (hd : ∀ q ∈ as, q.2.length = d) : Tups K H d D as := ⟨.inl (.inl n.l), hl, fun q hq => ⟨hd q hq, .inl (.inl (n.t q hq))⟩⟩
/-- pushed by a walk that had H: what H knew is kept -/
theorem same_push {H H1 : Hp} {D t : Addr} {k : List Str} {o : HO} (s : Same H H1) (nD : H D = none) (nt : H1 t = none) : Same H (upd (upd H1 t (.tup (k.map V.str))) D o) := same_mut (s.trans (same_upd nt)) nD
theorem mem_take_snoc {α : Type} {l : List α} {i : Nat} {x : α} (h : l[i]? = some x) {P : α → Prop} (a : ∀ y ∈ l.take i, P y) (b : P x) : ∀ y ∈ l.take (i + 1), P y := fun y hy => by
  rw [List.take_add_one, h] at hy
  rcases List.mem_append.mp hy with z | z
  · exact a y z
  · rw [Option.toList_some, List.mem_singleton] at z
    exact z ▸ b
section
variable {P : Program} {w : World} {K : PySem.W.Frag} {mg : Str → Option Value} {base : Heap} {ka : Addr}
theorem ok_valid_marks {f : Addr} {fd : FuncData} (F : Fun K "_valid_marks" "_valid_marks" s_valid_marks f fd) (T : TxV K mg ka) (C_valid_name : Cal P w K mg base "valid_name" 1 spName) : FnOk P w K mg base CX0 2 f fd ["marks", "running"] (spVMks K) := by
  refine F.ok sc_valid_marks (fun vs H Q E h => ?_) (fun cdv A outer s H vs Q E hr h => ?_)
  · obtain ⟨l, r, ks, rs, rfl, _⟩ := h
    rfl
  · obtain ⟨l, r, ks, rs, rfl, hL, hR, hs, q⟩ := h
    refine ⟨_, (pss_cons (ps_for PassesOwn.never rfl (pi_list (pv 0)) (pg_tup rfl (pgs_cons (pg_name (i := 2) sc_valid_marks.nd rfl (Or.inl rfl)) (pgs_cons (pg_name (i := 3) sc_valid_marks.nd rfl (Or.inl rfl)) (pgs_cons (pg_name (i := 4) sc_valid_marks.nd rfl (Or.inl rfl)) pgs_nil))))
        (pss_one (ps_if (PW.pt (pw_or (pt_cmpR op_notIn_seq (pv 2) (pv 1) (by rfl)) (pw_or (pt_not (pt_val (pe_cal C_valid_name (hr.mono (by decide)) (by rfl) (pa_cons (pv 3) pa_nil)))) (pw_or1 (pt_cmpR op_notIn_seq (pv 4) (pe_glob (v := .ref ka) (by rfl) T.gKW rfl) (by rfl))))))
          (pss_one (ps_ret pe_bl))
          pss_nil)))
      (pss_one (ps_ret (pe_cmpR op_eq (pe_lenT (d := 2) rfl hr.units (by rfl) T.m_len (by rfl) T.m_set (pe_lc (own := [("program", 2), ("thing", 3), ("_", 5)]) (g := gTup K 3 (gCons (gName 2) (gCons (gName 3) (gCons (gName 5) gNil)))) (tt := tYes) rfl sc_valid_marks.nd (pi_list (pv 0)) (blkOk_by (own := [("program", 2), ("thing", 3), ("_", 5)]) (N := N_valid_marks) (sc := defScope s_valid_marks) (by decide +kernel)) (fun _ _ _ _ _ => pg_tup rfl (pgs_cons (pg_name (i := 2) sc_valid_marks.nd rfl (Or.inl rfl)) (pgs_cons (pg_name (i := 3) sc_valid_marks.nd rfl (Or.inl rfl)) (pgs_cons (pg_name (i := 5) sc_valid_marks.nd rfl (Or.inl rfl)) pgs_nil)))) (fun _ _ _ _ _ => pts_nil) (fun _ _ _ _ _ => (pe_tup (pa_cons (pv 2) (pa_cons (pv 3) pa_nil)))))) (pe_callB call_len_seq (by rfl) T.m_len (by decide +kernel) (pa_cons (pv 0) pa_nil)) (nomark _))))), ?_⟩
    have hl := hL.2.1
    refine ⟨_, rfl, l, rfl, ⟨_, hL.1⟩, ?_⟩
    refine for_list (K := K) (a := l) (xs := ks.map fun p => V.ref p.1) (fun i σ H1 => ∃ x2 x3 x4 : Option V, σ = [some (.ref l), some (.ref r), x2, x3, x4, none] ∧ Same H H1 ∧ ∀ p ∈ ks.take i, markB rs p.2 = true)
      ⟨none, none, none, rfl, Same.refl H, by simp⟩ (fun i σ H1 _ ⟨_, _, _, _, sm, _⟩ => sm.seq hL.1) ?_ ?_
    · rintro i x σ H1 hx ⟨x2, x3, x4, rfl, sm, al⟩
      obtain ⟨p, hp, rfl⟩ := tups_get hx
      have pm := List.mem_of_getElem? hp
      obtain ⟨p3, pt⟩ := hL.2.2 p pm
      have e3 := len3 p3
      have hsp := hs p pm
      rw [e3] at pt
      have bad : ∀ {H2 : Hp}, markB rs p.2 = false → Same H H2 → Q (.bl false) H2 := fun {H2} hb s2 => by
        have e : vMks rs (ks.map (·.2)) = false := by
          unfold vMks
          have : (ks.map (·.2)).all (markB rs) = false := by
            rw [List.all_eq_false]
            exact ⟨p.2, List.mem_map.mpr ⟨p, pm, rfl⟩, by rw [hb]; exact Bool.false_ne_true⟩
          rw [this]
          rfl
        rw [← e]
        exact q _ s2
      refine ⟨_, _, rfl, Same.tupS sm pt, rfl, _, _, rfl, _, _, rfl, _, _, rfl, rfl, ?_⟩
      refine ⟨_, rfl, _, rfl, r, _, rfl, .inl (sm.seq hR), rfl, txt_flat rs, _, rfl, ?_⟩
      refine iteB (fun h1 => iteT (bad ?_ sm)) (fun h1 => ?_)
      · rw [if_pos rfl, inV_txt, Bool.not_eq_true'] at h1
        unfold markB
        rw [h1]
        rfl
      rw [if_pos rfl, inV_txt, Bool.not_eq_false'] at h1
      refine ⟨_, rfl, at0 p.2 1, rfl, (hsp _ (by rw [e3]; simp)).1, fun H2 s2 => ⟨_, rfl, ?_⟩⟩
      have sm2 := sm.trans s2
      refine iteB (fun h2 => iteT (bad ?_ sm2)) (fun h2 => ?_)
      · rw [Bool.not_eq_true'] at h2
        unfold markB
        rw [h2]
        simp
      rw [Bool.not_eq_false'] at h2
      refine ⟨_, rfl, ka, _, rfl, .inr (T.kw H2), rfl, txt_flat KW, _, rfl, ?_⟩
      refine iteB (fun h3 => bad ?_ sm2) (fun h3 => ?_)
      · rw [if_pos rfl, inV_txt, Bool.not_eq_true'] at h3
        unfold markB
        rw [h3]
        simp
      rw [if_pos rfl, inV_txt, Bool.not_eq_false'] at h3
      exact ⟨_, _, _, rfl, sm2, mem_take_snoc hp al (by unfold markB; rw [h1, h2, h3]; rfl)⟩
    · rintro σ H1 ⟨x2, x3, x4, rfl, sm, al⟩
      rw [List.length_map, List.take_length] at al
      refine ⟨_, rfl, l, rfl, ⟨_, sm.seq hL.1⟩, fun D hD => ?_⟩
      refine lc_list (K := K) (a := l) (xs := ks.map fun p => V.ref p.1) (fun i H2 => ∃ as, Same H1 H2 ∧ Nw H2 D as ∧ as.map (·.2) = (ks.take i).map fun p => p.2.take 2) ⟨[], same_upd hD, Nw.nil, rfl⟩ (fun i H2 _ ⟨_, s1, _⟩ => (sm.trans s1).seq hL.1) ?_ ?_
      · rintro i y H2 hy ⟨as, s1, n1, m1⟩
        obtain ⟨p, hp, rfl⟩ := tups_get hy
        obtain ⟨p3, pt⟩ := hL.2.2 p (List.mem_of_getElem? hp)
        have e3 := len3 p3
        rw [e3] at pt
        have la : as.length ≤ 80 := by
          have := congrArg List.length m1
          rw [List.length_map, List.length_map, List.length_take] at this
          omega
        refine ⟨_, _, rfl, Same.tupS (sm.trans s1) pt, rfl, _, _, rfl, _, _, rfl, _, _, rfl, rfl, rfl, ?_⟩
        refine ⟨_, rfl, _, rfl, by show 2 ≤ sizeLine; decide, fun t nt => ?_⟩
        have n2 := n1.push (k := [at0 p.2 0, at0 p.2 1]) nt
        refine ⟨_, (upd_ne (ne_of_none n1.l nt)).trans n1.l, by rw [List.length_map]; exact sz8 (by omega), as ++ [(t, [at0 p.2 0, at0 p.2 1])], same_push (k := [at0 p.2 0, at0 p.2 1]) s1 hD nt, n2, ?_⟩
        rw [List.map_append, m1, List.take_add_one, hp, List.map_append]
        congr 1
        show [[at0 p.2 0, at0 p.2 1]] = [p.2.take 2]
        rw [e3]
        rfl
      · rintro H2 ⟨as, s1, n1, m1⟩
        rw [List.length_map, List.take_length] at m1
        have la : as.length = ks.length := by
          have := congrArg List.length m1
          rwa [List.length_map, List.length_map] at this
        have d2 : ∀ q ∈ as, q.2.length = 2 := fun q hq => by
          have : q.2 ∈ as.map (·.2) := List.mem_map.mpr ⟨q, hq, rfl⟩
          rw [m1] at this
          obtain ⟨p, hp, e⟩ := List.mem_map.mp this
          rw [← e, List.length_take, (hL.2.2 p hp).1]
          rfl
        have s2 := sm.trans s1
        refine ⟨D, as, rfl, n1.tups (by omega) d2, fun L dL => ⟨_, rfl, l, _, rfl, .inl (s2.seq hL.1), rfl, ?_⟩⟩
        have e : decide (V.int ((L.length : Nat) : Int) = V.int (((ks.map fun p => V.ref p.1).length : Nat) : Int)) = vMks rs (ks.map (·.2)) := by
          rw [List.length_map, ← la, dec_len dL.len_iff, m1]
          unfold vMks
          have : (ks.map (·.2)).all (markB rs) = true := by
            rw [List.all_eq_true]
            intro z hz
            obtain ⟨p, hp, rfl⟩ := List.mem_map.mp hz
            exact al p hp
          rw [this, Bool.true_and, List.map_map]
          rfl
        show Q (.bl (decide (V.int ((L.length : Nat) : Int) = V.int (((ks.map fun p => V.ref p.1).length : Nat) : Int)))) H2
        rw [e]
        exact q _ s2
end
end Kx

/-! own errors over ValueError: what the end asks of their classes and their __init__ -/
namespace Kx
open PySem PySem.Spec PyProof.Rows L2 NdefX
/-- what is asked of an own error's class, as one test -/
def fxB (K : PySem.W.Frag) (C : Addr) (fs : List Str) : Bool :=
  decide (PySem.W.findIn K (.ref C) "__setattr__" = some (some (.builtin "object.__setattr__"))) && (decide (PySem.W.subIn K (.ref C) (.type "BaseException") = some true) && (decide (PySem.W.typeIn K (.ref C) = some (.type "type")) && (PySem.W.keepIn K (.ref C) &&
  (decide (PySem.W.ks_superIn K C C "__init__" = some (some (.builtin "ValueError.__init__"))) && (decide (PySem.W.subIn K (.ref C) (.type "ValueError") = some true) && (decide (PySem.W.mroIn K C (.ref C) = some true) &&
  (decide (PySem.W.findIn K (.ref C) "__getattribute__" = some (some (.builtin "BaseException.__getattribute__"))) && (decide (PySem.W.findIn K (.ref C) "__getattr__" = some none) && (PySem.W.hasDictIn K C && (decide (PySem.W.findIn K (.ref C) "__class__" = some (some (.builtin "object.__class__"))) &&
  (decide (PySem.W.mroIn K C (.type "object") = some true) && fs.all fun f => decide (PySem.W.findIn K (.ref C) f = some none))))))))))))
/-- the same, told -/
structure Fx (K : PySem.W.Frag) (C : Addr) (fs : List Str) : Prop where
  sa : PySem.W.findIn K (.ref C) "__setattr__" = some (some (.builtin "object.__setattr__"))
  exC : PySem.W.subIn K (.ref C) (.type "BaseException") = some true
  tyC : PySem.W.typeIn K (.ref C) = some (.type "type")
  kC : PySem.W.keepIn K (.ref C) = true
  sup : PySem.W.ks_superIn K C C "__init__" = some (some (.builtin "ValueError.__init__"))
  subV : PySem.W.subIn K (.ref C) (.type "ValueError") = some true
  mro : PySem.W.mroIn K C (.ref C) = some true
  ga : PySem.W.findIn K (.ref C) "__getattribute__" = some (some (.builtin "BaseException.__getattribute__"))
  gg : PySem.W.findIn K (.ref C) "__getattr__" = some none
  hd : PySem.W.hasDictIn K C = true
  ha : PySem.W.findIn K (.ref C) "__class__" = some (some (.builtin "object.__class__"))
  mo : PySem.W.mroIn K C (.type "object") = some true
  nf : ∀ f ∈ fs, PySem.W.findIn K (.ref C) f = some none
theorem fx_of {K : PySem.W.Frag} {C : Addr} {fs : List Str} (h : fxB K C fs = true) : Fx K C fs := by
  obtain ⟨h1, h⟩ := Bool.and_eq_true_iff.mp h
  obtain ⟨h2, h⟩ := Bool.and_eq_true_iff.mp h
  obtain ⟨h3, h⟩ := Bool.and_eq_true_iff.mp h
  obtain ⟨h4, h⟩ := Bool.and_eq_true_iff.mp h
  obtain ⟨h5, h⟩ := Bool.and_eq_true_iff.mp h
  obtain ⟨h6, h⟩ := Bool.and_eq_true_iff.mp h
  obtain ⟨h7, h⟩ := Bool.and_eq_true_iff.mp h
  obtain ⟨h8, h⟩ := Bool.and_eq_true_iff.mp h
  obtain ⟨h9, h⟩ := Bool.and_eq_true_iff.mp h
  obtain ⟨h10, h⟩ := Bool.and_eq_true_iff.mp h
  obtain ⟨h11, h⟩ := Bool.and_eq_true_iff.mp h
  obtain ⟨h12, h⟩ := Bool.and_eq_true_iff.mp h
  exact ⟨of_decide_eq_true h1, of_decide_eq_true h2, of_decide_eq_true h3, h4, of_decide_eq_true h5, of_decide_eq_true h6, of_decide_eq_true h7, of_decide_eq_true h8, of_decide_eq_true h9, h10, of_decide_eq_true h11, of_decide_eq_true h12, fun f hf => of_decide_eq_true (List.all_eq_true.mp h f hf)⟩
/-- the classes' own lines -/
def ClsAt (K : PySem.W.Frag) (C : Addr) : Prop := ∃ nm q N bs bm sn sub ab col dd k0 k1 k2 k3 k5, K.lookup C = some (excClassObj nm q C N bs bm true sn sub ab col dd k0 k1 k2 k3 k5 "ValueError.__new__") ∧ PySem.HandSPX.refsVE bm = true
theorem cls_at {K : PySem.W.Frag} {C : Addr} {nm q : Str} {N : Addr} {bs bm : List Value} {sn : List Str} {sub : List Value} {ab : Bool} {col : Option Bool} {dd : Option Addr} {k0 k1 k2 k3 k5 : Option Value} (l : K.lookup C = some (excClassObj nm q C N bs bm true sn sub ab col dd k0 k1 k2 k3 k5 "ValueError.__new__")) (hb : PySem.HandSPX.refsVE bm = true) : ClsAt K C :=
  ⟨nm, q, N, bs, bm, sn, sub, ab, col, dd, k0, k1, k2, k3, k5, l, hb⟩
theorem Fx.supC {K : PySem.W.Frag} {C : Addr} {fs : List Str} (h : Fx K C fs) (c : ClsAt K C) (opq : PySem.W.nsIn K cStatics "thirdparty.any" = some none) : SupC K C := ⟨⟨c, h.sa, h.exC, h.tyC, h.kC⟩, h.sup, h.subV, h.mro, opq⟩
/-- the __init__ of an own error, as k_is finds it -/
structure Ei (K : PySem.W.Frag) (P : Program) (C : Addr) (qual : Str) (st : Stmt) (f : Addr) (fd : FuncData) : Prop where
  a : PySem.W.findIn K (.ref C) "__init__" = some (some (.ref f))
  t : PySem.W.typeIn K (.ref f) = some (.type "function")
  ex : ∃ (cda cc : Addr) (kV doc pm ct : Value) (an : Option Addr), fd = PySem.W.fnX "__init__" qual (defArgs st) (defBody st) (defScope st) [("__class__", cc)] .none kV doc pm an (.ref cda) ct ∧ PySem.W.codeIn K (.ref cda) qual = true ∧ SupF K P C f fd cda cc "self"
theorem ei_mk {K : PySem.W.Frag} {P : Program} {C : Addr} {qual : Str} {st : Stmt} {f cda cc : Addr} {kV doc pm ct oc ccl cl : Value} {an od cdd cld : Option Addr} {osl ccs csl : Array (Option Value)} {vs : Array Value} {file : Str} {tf : Tok} {ar : Arg} (a : PySem.W.findIn K (.ref C) "__init__" = some (some (.ref f))) (t : PySem.W.typeIn K (.ref f) = some (.type "function"))
    (l : K.lookup f = some ⟨oc, od, .func (PySem.W.fnX "__init__" qual (defArgs st) (defBody st) (defScope st) [("__class__", cc)] .none kV doc pm an (.ref cda) ct), osl⟩) (c : PySem.W.codeIn K (.ref cda) qual = true)
    (lc : K.lookup cda = some ⟨ccl, cdd, .fields vs, ccs⟩) (vf : vs[2]? = some (.str file tf)) (ef : ((P.main.file : Str) == file) = true) (ll : K.lookup cc = some ⟨cl, cld, .cell (some (.ref C)), csl⟩) (top : (P.main.scope.names.lookup ("super" : Str)).isSome = false)
    (hd : ((defArgs st).posonlyargs ++ (defArgs st).args).head? = some ar) (hn : ar.arg = "self") : Ei K P C qual st f (PySem.W.fnX "__init__" qual (defArgs st) (defBody st) (defScope st) [("__class__", cc)] .none kV doc pm an (.ref cda) ct) :=
  ⟨a, t, cda, cc, kV, doc, pm, ct, an, rfl, c, ⟨⟨oc, od, osl, l⟩, ⟨ar, hd, hn⟩, ⟨ccl, cdd, vs, ccs, file, tf, lc, vf, ef⟩, ⟨cl, cld, csl, ll⟩, top⟩⟩
end Kx

/-! own errors without arguments and without fields -/
namespace Kx
open PySem PySem.Spec PyProof.Rows L2 NdefX
/-- C(): nothing is set -/
def spErr0 (C : Addr) : Sp := fun vs H Q _ => ∃ a : Addr, vs = [.ref a] ∧ H a = some (exo a C none) ∧ Q .non H
section
variable {X : Cx} {p pos : Pos}
theorem mk_end0n {pins : List (Addr × Obj)} {σ : L2.St} {H1 : Hp} {Q : XK} {hp hp2 h2 : Heap} {g1 g2 : Array GenState} {d1 d2 : Drawn} {t1 t2 : Nat} {os1 os2 : OsState} {a C : Addr} (T : Raises X (.ref C)) (I1 : Inv X pins σ H1 ⟨hp, g1, d1, t1, os1⟩)
    (ha : hp.objs.size ≤ a) (k : ∀ b o, hp.get? b = some o → hp2.get? b = some o) (un : Un (frs X.stack) [] (upd H1 a (exo a C none)) (upd H1 a (exo a C none)) hp2 h2) (hok : HOk X.prog X.w (upd H1 a (exo a C none)) h2) (ho : os2 = os1) (hb : AllBare g2)
    (q : Q (.ref C) none H1) : MkP X pins σ Q (.ref a) ⟨h2, g2, d2, t2, os2⟩ := by
  obtain ⟨t0, hoe⟩ := exo_at hok upd_same
  have hn : H1 a = none := I1.hok.fresh ha
  obtain ⟨G, g1', g2'⟩ := restrict h2 fun b => decide (b ≠ a)
  have gk : ∀ b, b ≠ a → G.get? b = h2.get? b := fun b hb => g1' b (decide_eq_true hb)
  have ge : G.get? a = none := g2' a (by simp)
  have nha : ∀ {b : Addr} {o : Obj}, hp.get? b = some o → b ≠ a := fun {b o} z => Nat.ne_of_lt (Nat.lt_of_lt_of_le (Heap.lt_size z) ha)
  have up : ∀ {b : Addr}, b ≠ a → H1 b = none → upd H1 a (exo a C none) b = none := fun {b} hb n => by rw [upd_ne hb]; exact n
  have U : Un (frs X.stack) [] H1 H1 hp G := {
    keep := fun b o z n hf hx => by
      rw [gk b (nha z)]
      exact un.keep b o (k b o z) (up (nha z) n) hf hx
    slot := fun b o z n hf hx => by
      rw [gk b (nha z)]
      exact un.slot b o (k b o z) (up (nha z) n) hf hx
    free := fun b o z n hx => n
    there := fun b o z hx => by
      rw [gk b (nha z)]
      exact un.there b o (k b o z) hx
    tups := fun b xs z => z
    frzs := fun b o v z => z
    tbls := fun b ps z => by
      obtain ⟨more, e⟩ := un.tbls b ps (by rw [upd_ne (ne_of_none z hn)]; exact z)
      rw [upd_ne (ne_of_none z hn)] at e
      exact ⟨more, e⟩ }
  have hok3 : HOk X.prog X.w H1 G := fun b o z => by
    have hba : b ≠ a := ne_of_none z hn
    have z' : upd H1 a (exo a C none) b = some o := by rw [upd_ne hba]; exact z
    have noa : ∀ {c : Addr}, (upd H1 a (exo a C none)) c = some (.own b) → c ≠ a := fun {c} hc e => by
      rw [e, upd_same] at hc
      exact exo_own (Option.some.inj hc)
    exact (hok b o z').stay (fun c v hc y => by
        have hca : c ≠ a := hc.elim (fun e => by rw [e]; exact hba) noa
        rw [gk c hca]
        exact y)
      (fun c hc => by rw [upd_ne (noa hc)] at hc; exact hc) (fun c xs hc => by
        have hca : c ≠ a := fun e => by
          rw [e, upd_same] at hc
          exact exo_tup (Option.some.inj hc)
        rw [upd_ne hca] at hc
        exact hc)
  have J : Inv X pins σ H1 ⟨G, g2, d2, t2, os2⟩ := I1.call' (ch := []) ho U hok3 hb (fun b z => absurd z (by simp))
  refine ⟨a, _, _, ⟨G, g2, d2, t2, os2⟩, H1, .ref C, none, rfl, J, fun b o z => ?_, ge, hoe, ⟨rfl, rfl⟩, rfl, rfl, hn, rfl, hb, T, q⟩
  by_cases hba : b = a
  · rw [hba, ge] at z
    cases z
  · exact (gk b hba).symm.trans z
theorem pmk_oex0 {CX : CXT} {x : Str} {C fI : Addr} {k : Nat} {fd : FuncData} {ps : List Str} (T : OexC X.K C) (iC : PySem.W.findIn X.K (.ref C) "__init__" = some (some (.ref fI))) (tI : PySem.W.typeIn X.K (.ref fI) = some (.type "function"))
    (F1 : FnOk X.prog X.w X.K X.mg X.base CX k fI fd ps (spErr0 C)) (hr : Room (k + 1) X.A) (hb : Binds X.K fd ps []) (hx : Passes CX X (fun _ _ _ => False)) (hg : Gl X x) (hm : X.mg x = some (.ref C)) (hdb : (x == ("__debug__" : Str)) = false := by decide) :
    PMk X (.Call (.Name x p) [] [] pos) (fun _ H Q => Q (.ref C) none H) := by
  intro pins s σ H Q I h
  obtain ⟨nm, q, N, bs, bm, sn, sub, ab, col, dd, k0, k1, k2, k3, k5, hC, hbm⟩ := T.cls
  refine wpAny_Call_Name_kw (ld_glob I hg hm ?_ hdb)
  refine PySem.W.callWith_K0 I.kIn T.kC ?_
  show wpAny _ _ (call (.ref C) []) _ _ _
  obtain ⟨hp, g, dr, tk, os⟩ := s
  have hsz : hp.objs.size ≤ hp.objs.size + 1 := Nat.le_succ _
  have hn : H (hp.objs.size + 1) = none := I.hok.fresh hsz
  have kk : ∀ b o, hp.get? b = some o → ((hp.push (PySem.W.kdv_tup [])).push (PySem.HandSPX.excO C hp.objs.size)).get? b = some o := fun b o e => Heap.get?_push_of_some _ (Heap.get?_push_of_some _ e)
  have hget : ((hp.push (PySem.W.kdv_tup [])).push (PySem.HandSPX.excO C hp.objs.size)).get? (hp.objs.size + 1) = some (PySem.HandSPX.excO C hp.objs.size) := by
    have e : hp.objs.size + 1 = (hp.push (PySem.W.kdv_tup [])).objs.size := (Heap.size_push ..).symm
    rw [e]
    exact Heap.get?_push_size _ rfl
  have I2 : Inv X pins σ (upd H (hp.objs.size + 1) (exo (hp.objs.size + 1) C none)) ⟨(hp.push (PySem.W.kdv_tup [])).push (PySem.HandSPX.excO C hp.objs.size), g, dr, tk, os⟩ :=
    I.laid (t' := tk) (a := hp.objs.size + 1) (o := exo (hp.objs.size + 1) C none) kk hsz (exo_ok hget)
  have hq : spErr0 C [.ref (hp.objs.size + 1)] (upd H (hp.objs.size + 1) (exo (hp.objs.size + 1) C none)) (fun v H2 => v = .non ∧ H2 = upd H (hp.objs.size + 1) (exo (hp.objs.size + 1) C none)) (fun _ _ _ => False) := ⟨_, rfl, upd_same, rfl, rfl⟩
  have r2 : Vals [V.ref (hp.objs.size + 1)] [Value.ref (hp.objs.size + 1)] := .cons rfl .nil
  have hl : ([Value.ref (hp.objs.size + 1)] ++ ([] : List Value)).length = ps.length := F1.len _ _ _ _ hq
  refine wpAny_call (PySem.HandSPX.call_own F.excBase_ValueError (fun Y => PySem.HandSPX.refsVE_contains Y bm hbm) (I.kIn _ _ hC) (PySem.W.looks_findIn I.kIn iC) (fun self => PySem.W.bind_fn I.kIn self tI) (Nat.zero_le _)
    (codeAny_mono (F1.run _ X.stack _ _ ⟨[Value.ref (hp.objs.size + 1)], []⟩ [Value.ref (hp.objs.size + 1)] _ _ (fun _ _ _ => False) (hr.make C [] []) (I2.env0.make C [] []) (hb _ [Value.ref (hp.objs.size + 1)] I2.kIn hl) r2 hq) fun r s' hq' => ?_))
  cases r with
  | error er => exact hx pins σ _ _ er s' I2 hq'
  | ok fl =>
    cases fl with
    | ret u =>
      obtain ⟨v, H2, os2, bare2, un2, hok2, rv, ev, e2⟩ := hq'
      subst ev
      subst e2
      obtain ⟨h2, g2, d2, t2, os'⟩ := s'
      exact ⟨rv, mk_end0n (raises_own T.exC T.tyC) I hsz kk un2 hok2 os2 bare2 h⟩
    | next => exact False.elim hq'
    | brk => exact False.elim hq'
    | cont => exact False.elim hq'
/-- isinstance(e, c) in the suite, e of the class at D, without fields -/
def rIsG0 (K : PySem.W.Frag) (D a : Addr) (cls : Value) (d : Option Addr) : List V → Hp → VK → Prop := fun xs H Q => cls = .ref D ∧ d = none ∧ rIsE K D a xs H Q
theorem call_isG0 {X : Cx} {a D : Addr} {d : Option Addr} {cls : Value} {oe : Obj} {pn : List (Addr × Obj)} (C : ExcC X.K D) (hz : Zc cls d oe) (hf : ∃ vs, oe.data = .fields vs) : CallR (X.suite a ((a, oe) :: pn)) (.builtin "isinstance") (rIsG0 X.K D a cls d) := by
  intro pins s σ H xs us Q I r h
  obtain ⟨rfl, rfl, h⟩ := h
  exact call_isE C hz hf pins s σ H xs us Q I r h
end
end Kx

namespace Kx
open PySem PySem.Spec PyProof.Rows L2 NdefX Kr Ke Kn Kz Ky
/-! ### the errors -/
abbrev s_imInit : Stmt := inClass (topS 7) 0
abbrev N_imInit : List Str := ["self", "__class__"]
theorem ns_imInit : NScope N_imInit ["self"] ["__class__"] (defScope s_imInit) := nscope_by (by decide +kernel)
abbrev s_nrInit : Stmt := inClass (topS 11) 0
abbrev N_nrInit : List Str := ["self", "program", "__class__"]
theorem ns_nrInit : NScope N_nrInit ["self", "program"] ["__class__"] (defScope s_nrInit) := nscope_by (by decide +kernel)
/-- C(v) of an error with the one field fld: a text of at most n signs -/
def spErr1 (C : Addr) (fld : Str) (n : Nat) : Sp := fun vs H Q _ => ∃ (a : Addr) (z : Str), vs = [.ref a, .str z] ∧ (reprText z).length ≤ n ∧ H a = some (exo a C none) ∧
  ∀ d, H d = none → d ≠ a → Q .non (upd (upd H d (exd d [(fld, .str z)])) a (exo a C (some d)))
theorem e18 : (("not running: " : Str)).length ≤ 100 := by decide +kernel
theorem empty_app (x : Str) : (Str.empty ++ x).length = x.length := by
  show (#[] ++ x.cps).size = x.cps.size
  simp
theorem app_len (x y : Str) : (x ++ y).length = x.length + y.length := Array.size_append
/-- the heap behind C(v): the error let go, its dict an exception's dict -/
theorem made_heap {H1 : Hp} {a d : Addr} {fs : List (Str × V)} (na : H1 a = none) (nda : d ≠ a) (X Y Z : HO) : upd (del (upd (upd (upd H1 a X) d Y) a Z) a) d (.xd fs) = upd H1 d (.xd fs) := by
  funext b
  by_cases hd : b = d
  · rw [hd, upd_same, upd_same]
  · rw [upd_ne hd, upd_ne hd]
    by_cases ha : b = a
    · rw [ha, del_same, na]
    · rw [del_ne ha, upd_ne ha, upd_ne hd, upd_ne ha]
section
variable {P : Program} {w : World} {K : PySem.W.Frag} {mg : Str → Option Value} {base : Heap} {CX : CXT}
theorem ok_imInit {f C cda cc : Addr} {fd : FuncData} {qual : Str} {kV doc pm ct : Value} {an : Option Addr} (S : SupF K P C f fd cda cc "self") (T : SupC K C) (hm : mg "super" = none)
    (hfd : fd = PySem.W.fnX "__init__" qual (defArgs s_imInit) (defBody s_imInit) (defScope s_imInit) [("__class__", cc)] .none kV doc pm an (.ref cda) ct) (hcd : PySem.W.codeIn K (.ref cda) qual = true) :
    FnOk P w K mg base CX 1 f fd ["self"] (spErr0 C) := by
  refine fn_super (k := 0) (N := N_imInit) (ps := ["self"]) (me := "self") S T hfd hcd ns_imInit hm rfl (by decide) (by decide +kernel) (by decide +kernel) (fun vs H Q E h => ?_) (fun A outer s H vs Q E hr h => ?_) (fun env => ⟨_, rfl⟩) (fun env => rfl) (fun env => rfl)
  · obtain ⟨a, rfl, _⟩ := h
    rfl
  · obtain ⟨a, rfl, ea, q⟩ := h
    refine ⟨a, _, _, rfl, ea, pe_str, pss_nil, fun R hR => ?_⟩
    exact hR H ea q
theorem ok_nrInit {f C cda cc : Addr} {fd : FuncData} {qual : Str} {kV doc pm ct : Value} {an : Option Addr} (S : SupF K P C f fd cda cc "self") (T : SupC K C) (hno : PySem.W.findIn K (.ref C) "program" = some none) (hm : mg "super" = none)
    (hfd : fd = PySem.W.fnX "__init__" qual (defArgs s_nrInit) (defBody s_nrInit) (defScope s_nrInit) [("__class__", cc)] .none kV doc pm an (.ref cda) ct) (hcd : PySem.W.codeIn K (.ref cda) qual = true) :
    FnOk P w K mg base CX 1 f fd ["self", "program"] (spErr1 C "program" 100000) := by
  refine fn_super (k := 0) (N := N_nrInit) (ps := ["self", "program"]) (me := "self") S T hfd hcd ns_nrInit hm rfl (by decide) (by decide +kernel) (by decide +kernel) (fun vs H Q E h => ?_) (fun A outer s H vs Q E hr h => ?_) (fun env => ⟨_, rfl⟩) (fun env => rfl) (fun env => rfl)
  · obtain ⟨a, z, rfl, _⟩ := h
    rfl
  · obtain ⟨a, z, rfl, hz, ea, q⟩ := h
    refine ⟨a, _, _, rfl, ea, pe_joined (.cons pe_str (.cons (pe_fmtR (pv 1)) .nil)), pss_one (ps_ost (pv 0) (pv 1)), fun R hR => ?_⟩
    have h1 := e18
    refine ⟨_, rfl, ?_, _, rfl, .inl ⟨z, rfl, sz9 (by omega), _, rfl, ?_, ?_⟩⟩
    · rw [empty_app]
      exact sz9 (by omega)
    · rw [app_len, empty_app]
      exact Nat.le_trans (Nat.add_le_add h1 hz) (by decide)
    · exact hR H ea ⟨_, rfl, _, rfl, a, C, rfl, T.oex, hno, .inl ⟨ea, fun d nd ne => q d nd ne⟩⟩
end
/-! ### a memory -/
structure Mem where
  R : List Str
  L : List (List Str)
  W : List (List Str × Str)
def kR : Str := "_running"
def kL : Str := "_leads"
def kW : Str := "_words"
def memF (lr ll lw : Addr) : List (Str × V) := putF "_words" (.ref lw) (putF "_leads" (.ref ll) (putF "_running" (.ref lr) []))
theorem k12 : ¬ (("_running" : Str) = "_leads") := by decide +kernel
theorem k13 : ¬ (("_running" : Str) = "_words") := by decide +kernel
theorem k23 : ¬ (("_leads" : Str) = "_words") := by decide +kernel
theorem memF_R (lr ll lw : Addr) : (memF lr ll lw).lookup ("_running" : Str) = some (.ref lr) := by
  unfold memF
  rw [lookup_putF, if_neg k13, lookup_putF, if_neg k12, lookup_putF, if_pos rfl]
theorem memF_L (lr ll lw : Addr) : (memF lr ll lw).lookup ("_leads" : Str) = some (.ref ll) := by
  unfold memF
  rw [lookup_putF, if_neg k23, lookup_putF, if_pos rfl]
theorem memF_W (lr ll lw : Addr) : (memF lr ll lw).lookup ("_words" : Str) = some (.ref lw) := by
  unfold memF
  rw [lookup_putF, if_pos rfl]
def entW (e : List Str × Str) : List Key × V := (e.1.map Sum.inr, .str e.2)
structure MemAt (K : PySem.W.Frag) (C : Addr) (H : Hp) (p : Addr) (M : Mem) : Prop where
  ex : ∃ (dx lr ll lw : Addr) (kl : List (Addr × List Str)), H p = some (.ins C dx (memF lr ll lw)) ∧ H lr = some (.lst (M.R.map V.str)) ∧ H ll = some (.lst (kl.map fun q => V.ref q.1)) ∧ kl.map (·.2) = M.L ∧
    (∀ q ∈ kl, q.2.length = 2 ∧ SqT K H q.1 (q.2.map V.str)) ∧ H lw = some (.dT (M.W.map entW))
theorem MemAt.same {K : PySem.W.Frag} {C p : Addr} {H H' : Hp} {M : Mem} (m : MemAt K C H p M) (s : Same H H') : MemAt K C H' p M := by
  obtain ⟨dx, lr, ll, lw, kl, a, b, c, d, e, f⟩ := m.ex
  exact ⟨dx, lr, ll, lw, kl, s _ _ a, s _ _ b, s _ _ c, d, fun q hq => ⟨(e q hq).1, Same.tupS s (e q hq).2⟩, s _ _ f⟩
def memB (R : List Str) (L M : List (List Str)) : Bool := vRun R && (vLds R L && vMks R M)
/-- the memory of these lists -/
structure MemOf (R : List Str) (L M : List (List Str)) (m : Mem) : Prop where
  rp : m.R.Perm R
  rs : sortedS m.R = true
  lp : m.L.Perm L
  ls : m.L.Pairwise fun a b => lexT b a = false
  ws : m.W = M.map fun p => (p.take 2, at0 p 2)
structure MemIn (K : PySem.W.Frag) (H : Hp) (r l m : Addr) (R : List Str) (kl km : List (Addr × List Str)) : Prop where
  r : SqL K H r (R.map V.str)
  rl : R.length < 64
  rs : Shts R
  l : Tups K H 2 l kl
  m : Tups K H 3 m km
  ms : ∀ p ∈ km, Shts p.2
theorem MemIn.same {K : PySem.W.Frag} {H H' : Hp} {r l m : Addr} {R : List Str} {kl km : List (Addr × List Str)} (s : Same H H') (h : MemIn K H r l m R kl km) : MemIn K H' r l m R kl km := ⟨s.seq h.r, h.rl, h.rs, Tups.same s h.l, Tups.same s h.m, h.ms⟩
/-- its lists and its dict are new -/
def MemFr (C : Addr) (H H' : Hp) (p : Addr) : Prop := ∀ dx lr ll lw, H' p = some (.ins C dx (memF lr ll lw)) → H lr = none ∧ H ll = none ∧ H lw = none
def spMemI (K : PySem.W.Frag) (C CI : Addr) : Sp := fun vs H Q E => ∃ (p r l m : Addr) (R : List Str) (kl km : List (Addr × List Str)), vs = [.ref p, .ref r, .ref l, .ref m] ∧ (∃ dx, H p = some (.ins C dx [])) ∧ MemIn K H r l m R kl km ∧
  (memB R (kl.map (·.2)) (km.map (·.2)) = true → ∀ H' M, MemOf R (kl.map (·.2)) (km.map (·.2)) M → MemAt K C H' p M → MemFr C H H' p → (∀ b o, H b = some o → b ≠ p → H' b = some o) → Q .non H') ∧
  (memB R (kl.map (·.2)) (km.map (·.2)) = false → ∀ H', Same H H' → E (.ref CI) none H')
/-- all but p is kept -/
def Off (p : Addr) (H H' : Hp) : Prop := ∀ b o, H b = some o → b ≠ p → H' b = some o
theorem Off.refl {p : Addr} {H : Hp} : Off p H H := fun _ _ e _ => e
theorem Off.trans {p : Addr} {H H1 H2 : Hp} (a : Off p H H1) (b : Off p H1 H2) : Off p H H2 := fun x o e n => b x o (a x o e n) n
theorem Off.of {p : Addr} {H H' : Hp} (s : Same H H') : Off p H H' := fun b o e _ => s b o e
theorem Off.put {p : Addr} {H : Hp} {o : HO} : Off p H (upd H p o) := fun b x e n => by rw [upd_ne n]; exact e
theorem Off.sqL {K : PySem.W.Frag} {p a C dx : Addr} {fs : List (Str × V)} {H H' : Hp} {xs : List V} (o : Off p H H') (hp : H p = some (.ins C dx fs)) (h : SqL K H a xs) : SqL K H' a xs := by
  rcases h with (h | ⟨u, h⟩) | h
  · exact .inl (.inl (o _ _ h fun z => by rw [z, hp] at h; cases h))
  · exact .inl (.inr ⟨u, o _ _ h fun z => by rw [z, hp] at h; cases h⟩)
  · exact .inr h
theorem Off.sqT {K : PySem.W.Frag} {p a C dx : Addr} {fs : List (Str × V)} {H H' : Hp} {xs : List V} (o : Off p H H') (hp : H p = some (.ins C dx fs)) (h : SqT K H a xs) : SqT K H' a xs := by
  rcases h with (h | ⟨u, h⟩) | h
  · exact .inl (.inl (o _ _ h fun z => by rw [z, hp] at h; cases h))
  · exact .inl (.inr ⟨u, o _ _ h fun z => by rw [z, hp] at h; cases h⟩)
  · exact .inr h
theorem Off.tups {K : PySem.W.Frag} {p l C dx : Addr} {fs : List (Str × V)} {H H' : Hp} {d : Nat} {ks : List (Addr × List Str)} (o : Off p H H') (hp : H p = some (.ins C dx fs)) (t : Tups K H d l ks) : Tups K H' d l ks :=
  ⟨o.sqL hp t.1, t.2.1, fun q hq => ⟨(t.2.2 q hq).1, o.sqT hp (t.2.2 q hq).2⟩⟩
theorem val_no {κ : Type} [DecidableEq κ] : ∀ {kvs : List (κ × V)} {k : κ}, k ∉ kvs.map (·.1) → valV kvs k = none
  | [], _, _ => rfl
  | q :: r, k, h => by
    rw [List.map_cons, List.mem_cons, not_or] at h
    rw [valV_neg (fun z => h.1 z.symm)]
    exact val_no h.2
theorem dct_list {K : PySem.W.Frag} {a : Addr} {xs : List V} {g : TG} {tk tv : TE} {vs : List Nat} {σ : L2.St} {H1 : Hp} {D : Addr} {Qd : Hp → Prop} (Pv : Nat → Hp → Prop) (h0 : Pv 0 (upd H1 D (.dT []))) (hl : ∀ i H, i ≤ xs.length → Pv i H → SqL K H a xs)
    (hs : ∀ i x H, xs[i]? = some x → Pv i H → g x (wipe σ vs) H fun σ2 H2 => wipe σ2 vs = wipe σ vs ∧
      tk σ2 H2 fun y H4 => tv σ2 H4 fun z H5 => ∃ kvs b k, y = .ref b ∧ H5 b = some (.tup (k.map kV)) ∧ H5 D = some (.dT kvs) ∧ kvs.length < sizeLine ∧ Pv (i + 1) (upd H5 D (.dT (putK kvs k z)))) (hd : ∀ H, Pv xs.length H → Qd H) :
    ∃ W : Nat → Nat → Hp → Prop, (∃ m, W 0 m (upd H1 D (.dT []))) ∧ ∀ i m H, W i m H →
      ((Itl K a).stop i H ∧ Qd H) ∨ ((Itl K a).go i H ∧ ∃ Nx : Hp → Prop, (∀ H', Nx H' → ∃ m', m' < m ∧ W (i + 1) m' H') ∧ ∀ x H', (Itl K a).yld i H x H' → g x (wipe σ vs) H' fun σ2 H2 => wipe σ2 vs = wipe σ vs ∧
        tk σ2 H2 fun y H4 => tv σ2 H4 fun z H5 => ∃ kvs b k, y = .ref b ∧ H5 b = some (.tup (k.map kV)) ∧ H5 D = some (.dT kvs) ∧ kvs.length < sizeLine ∧ Nx (upd H5 D (.dT (putK kvs k z)))) := by
  refine ⟨fun i m H => m = xs.length - i ∧ i ≤ xs.length ∧ Pv i H, ⟨xs.length, by simp, Nat.zero_le _, h0⟩, ?_⟩
  rintro i m H ⟨rfl, hi, p⟩
  have q := hl i H hi p
  by_cases hlt : i < xs.length
  · refine .inr ⟨⟨xs, xs[i], q, by simp [hlt]⟩, Pv (i + 1), fun H' p' => ⟨xs.length - (i + 1), by omega, rfl, hlt, p'⟩, fun x H' y => ?_⟩
    obtain ⟨e, y⟩ := y
    subst e
    exact hs i x _ (y xs q) p
  · obtain rfl : i = xs.length := by omega
    exact .inl ⟨⟨xs, q, Nat.le_refl _⟩, hd H p⟩
theorem inr_inj : ∀ {a b : List Str}, a.map (Sum.inr : Str → Key) = b.map Sum.inr → a = b
  | [], [], _ => rfl
  | [], _ :: _, h => by simp at h
  | _ :: _, [], h => by simp at h
  | x :: a, y :: b, h => by
    rw [List.map_cons, List.map_cons] at h
    injection h with h1 h2
    injection h1 with h1
    rw [h1, inr_inj h2]
def mkW (ms : List (List Str)) : List (List Str × Str) := ms.map fun p => (p.take 2, at0 p 2)
/-- the next mark's place is new -/
theorem mkW_new {ms : List (List Str)} (nd : (ms.map (·.take 2)).Nodup) {i : Nat} {p : List Str} (h : ms[i]? = some p) (v : V) : putK ((mkW (ms.take i)).map entW) ((p.take 2).map Sum.inr) v = (mkW (ms.take i)).map entW ++ [((p.take 2).map Sum.inr, v)] := by
  refine putK_new _ (val_no fun hm => ?_)
  obtain ⟨e, he, e1⟩ := List.mem_map.mp hm
  obtain ⟨e0, he0, rfl⟩ := List.mem_map.mp he
  obtain ⟨z, hz, rfl⟩ := List.mem_map.mp he0
  have e2 : z.take 2 = p.take 2 := inr_inj e1
  obtain ⟨j, hj, ej⟩ := List.mem_iff_getElem.mp hz
  have hj' : j < i ∧ j < ms.length := by rw [List.length_take] at hj; omega
  have hi : i < ms.length := (List.getElem?_eq_some_iff.mp h).1
  have ei : ms[i] = p := (List.getElem?_eq_some_iff.mp h).2
  rw [List.getElem_take] at ej
  have ne := List.pairwise_iff_getElem.mp nd j i (by rw [List.length_map]; exact hj'.2) (by rw [List.length_map]; exact hi) hj'.1
  rw [List.getElem_map, List.getElem_map, ej, ei] at ne
  exact ne e2
/-- what the program asks of its class -/
structure TxA (K : PySem.W.Frag) (mg : Str → Option Value) (ka C CI : Addr) : Prop extends TxV K mg ka where
  gM : mg "Memory" = some (.ref C)
  gI : mg "InvalidMemory" = some (.ref CI)
  insM : C8.InsC K C
  nR : NoAttr K C "_running"
  nL : NoAttr K C "_leads"
  nWo : NoAttr K C "_words"
  sI : SupC K CI
abbrev s_memInit : Stmt := inClass (topS 44) 0
abbrev N_memInit : List Str := ["self", "running", "leads", "marks", "program", "thing", "word"]
theorem sc_memInit : FnScope N_memInit ["self", "running", "leads", "marks"] (defScope s_memInit) := ⟨rfl, rfl, rfl, by decide +kernel, rfl, by decide +kernel, by decide +kernel⟩
section
variable {P : Program} {w : World} {K : PySem.W.Frag} {mg : Str → Option Value} {base : Heap} {ka C CI : Addr}
theorem ok_memInit {f fI : Addr} {fd fdI : FuncData} (F : Fun K "__init__" "Memory.__init__" s_memInit f fd) (T : TxA K mg ka C CI) (iC : PySem.W.findIn K (.ref CI) "__init__" = some (some (.ref fI))) (tI : PySem.W.typeIn K (.ref fI) = some (.type "function"))
    (FI : FnOk P w K mg base CX0 1 fI fdI ["self"] (spErr0 CI)) (bI : Binds K fdI ["self"] []) (C_vr : Cal P w K mg base "_valid_running" 2 (spVRun K)) (C_vl : Cal P w K mg base "_valid_leads" 2 (spVLds K)) (C_vm : Cal P w K mg base "_valid_marks" 2 (spVMks K)) :
    FnOk P w K mg base (L2.CX P w) 4 f fd ["self", "running", "leads", "marks"] (spMemI K C CI) := by
  refine F.okX sc_memInit (fun vs H Q E h => ?_) (fun cdv A outer s H vs Q E hr h => ?_)
  · obtain ⟨p, r, l, m, R, kl, km, rfl, _⟩ := h
    rfl
  · obtain ⟨p, r, l, m, R, kl, km, rfl, ⟨dx, hp⟩, hM, q, qe⟩ := h
    refine ⟨_, (pss_cons (ps_if (pt_not (PW.pt (pw_and (pt_val (pe_cal C_vr (hr.mono (by decide)) (by rfl) (pa_cons (pv 1) pa_nil))) (pw_and (pt_val (pe_cal C_vl (hr.mono (by decide)) (by rfl) (pa_cons (pv 2) (pa_cons (pv 1) pa_nil)))) (pw_and1 (pt_val (pe_cal C_vm (hr.mono (by decide)) (by rfl) (pa_cons (pv 3) (pa_cons (pv 1) pa_nil)))))))))
        (pss_one (ps_raise rfl (takes_of rfl rfl rfl rfl) (pmk_oex0 T.sI.oex iC tI FI (hr.mono (by decide)) bI pass0 (by rfl) T.gI)))
        pss_nil)
      (pss_cons (ps_fld (pv 0) (pe_sorS rfl (by rfl) T.m_sorted (by rfl) T.m_set (pv 1)) rfl)
      (pss_cons (ps_fld (pv 0) (pe_sorT (d := 2) rfl hr.units (by decide) (by rfl) T.m_sorted (by rfl) T.m_set (pv 2)) rfl)
      (pss_one (ps_fld (pv 0) (pe_dcT (own := [("program", 4), ("thing", 5), ("word", 6)]) (g := gTup K 3 (gCons (gName 4) (gCons (gName 5) (gCons (gName 6) gNil)))) rfl hr.units0 sc_memInit.nd (pi_list (pv 3)) (blkOk_by (own := [("program", 4), ("thing", 5), ("word", 6)]) (N := N_memInit) (sc := defScope s_memInit) (by decide +kernel)) (fun _ _ _ _ _ => (pg_tup rfl (pgs_cons (pg_name (i := 4) sc_memInit.nd rfl (Or.inl rfl)) (pgs_cons (pg_name (i := 5) sc_memInit.nd rfl (Or.inl rfl)) (pgs_cons (pg_name (i := 6) sc_memInit.nd rfl (Or.inl rfl)) pgs_nil))))) (fun _ _ _ _ _ => (pe_tup (pa_cons (pv 4) (pa_cons (pv 5) pa_nil)))) (fun _ _ _ _ _ => (pv 6))) rfl))))), ?_⟩
    refine ⟨_, rfl, r, R, rfl, hM.r, hM.rl, hM.rs, fun H1 s1 => ⟨_, rfl, ?_⟩⟩
    refine iteB (fun h1 => ?_) (fun h1 => iteT (qe (by unfold memB; rw [h1]; rfl) H1 s1))
    refine ⟨_, rfl, _, rfl, l, r, kl, R, rfl, Tups.same s1 hM.l, s1.seq hM.r, fun H2 s2' => ⟨_, rfl, ?_⟩⟩
    have s2 := s1.trans s2'
    refine iteB (fun h2 => ?_) (fun h2 => iteT (qe (by unfold memB; rw [h1, h2]; rfl) H2 s2))
    refine ⟨_, rfl, _, rfl, m, r, km, R, rfl, Tups.same s2 hM.m, s2.seq hM.r, hM.ms, fun H3 s3' => ⟨_, rfl, ?_⟩⟩
    have s3 := s2.trans s3'
    refine iteB (fun h3 => ?_) (fun h3 => ?_)
    · rw [Bool.not_eq_true'] at h3
      exact qe (by unfold memB; rw [h1, h2, h3]; rfl) H3 s3
    rw [Bool.not_eq_false'] at h3
    have hB : memB R (kl.map (·.2)) (km.map (·.2)) = true := by unfold memB; rw [h1, h2, h3]; rfl
    have ndR : R.Nodup := by unfold vRun at h1; exact of_decide_eq_true (Bool.and_eq_true_iff.mp h1).2
    have ndL : (kl.map (·.2)).Nodup := by unfold vLds at h2; exact of_decide_eq_true (Bool.and_eq_true_iff.mp h2).2
    have ndM : ((km.map (·.2)).map (·.take 2)).Nodup := by unfold vMks at h3; exact of_decide_eq_true (Bool.and_eq_true_iff.mp h3).2
    have hp3 := s3 _ _ hp
    have hM3 := hM.same s3
    -- _running
    refine ⟨_, rfl, r, R, rfl, hM3.r, hM3.rl, fun zs lr nd so mm nlr => ⟨_, rfl, p, C, dx, _, rfl, same_upd nlr _ _ hp3, T.insM.cl, T.nR, by show 0 < 1000; decide, ?_⟩⟩
    have plr : lr ≠ p := fun e => by rw [e, hp3] at nlr; cases nlr
    have hp4 := same_upd (o := HO.lst (zs.map V.str)) nlr _ _ hp3
    have elr : (upd H3 lr (.lst (zs.map V.str))) lr = some (.lst (zs.map V.str)) := upd_same
    have o4 : Off p H3 (upd H3 lr (.lst (zs.map V.str))) := Off.of (same_upd nlr)
    generalize upd H3 lr (.lst (zs.map V.str)) = H4 at hp4 elr o4 ⊢
    have hp5 : (upd H4 p (.ins C dx (putF "_running" (.ref lr) []))) p = some (.ins C dx (putF "_running" (.ref lr) [])) := upd_same
    have o5 : Off p H4 (upd H4 p (.ins C dx (putF "_running" (.ref lr) []))) := Off.put
    show tSeq _ _ _ _ (upd H4 p (.ins C dx (putF "_running" (.ref lr) [])))
    generalize upd H4 p (.ins C dx (putF "_running" (.ref lr) [])) = H5 at hp5 o5 ⊢
    -- _leads
    refine ⟨_, rfl, l, kl, rfl, o5.tups hp4 (o4.tups hp3 hM3.l), fun L ll dL pw nll => ⟨_, rfl, p, C, dx, _, rfl, same_upd nll _ _ hp5, T.insM.cl, T.nL, by show 1 < 1000; decide, ?_⟩⟩
    have pll : ll ≠ p := fun e => by rw [e, hp5] at nll; cases nll
    have hp6 := same_upd (o := HO.lst (L.map fun q => V.ref q.1)) nll _ _ hp5
    have ell : (upd H5 ll (.lst (L.map fun q => V.ref q.1))) ll = some (.lst (L.map fun q => V.ref q.1)) := upd_same
    have o6 : Off p H5 (upd H5 ll (.lst (L.map fun q => V.ref q.1))) := Off.of (same_upd nll)
    generalize upd H5 ll (.lst (L.map fun q => V.ref q.1)) = H6 at hp6 ell o6 ⊢
    have hp7 : (upd H6 p (.ins C dx (putF "_leads" (.ref ll) (putF "_running" (.ref lr) [])))) p = some (.ins C dx (putF "_leads" (.ref ll) (putF "_running" (.ref lr) []))) := upd_same
    have o7 : Off p H6 (upd H6 p (.ins C dx (putF "_leads" (.ref ll) (putF "_running" (.ref lr) [])))) := Off.put
    dsimp only
    generalize upd H6 p (.ins C dx (putF "_leads" (.ref ll) (putF "_running" (.ref lr) []))) = H7 at hp7 o7 ⊢
    have o37 : Off p H3 H7 := (o4.trans o5).trans (o6.trans o7)
    have hm7 := o37.tups hp3 hM3.m
    have hl7 := o37.tups hp3 hM3.l
    -- _words
    refine ⟨_, rfl, m, rfl, ⟨_, hm7.1⟩, fun D nD => ?_⟩
    have mget : ∀ {i : Nat} {e : Addr × List Str}, km[i]? = some e → (km.map (·.2))[i]? = some e.2 := fun h => by rw [List.getElem?_map, h]; rfl
    refine dct_list (K := K) (a := m) (xs := km.map fun p => V.ref p.1) (fun i H' => Same H7 H' ∧ H' D = some (.dT ((mkW ((km.map (·.2)).take i)).map entW))) ⟨same_upd nD, upd_same⟩ (fun i H' _ ⟨s7, _⟩ => s7.seq hm7.1) ?_ ?_
    · rintro i x H' hx ⟨s7, eD⟩
      obtain ⟨e, he, rfl⟩ := tups_get hx
      obtain ⟨e3, et⟩ := hm7.2.2 e (List.mem_of_getElem? he)
      have e3' := len3 e3
      rw [e3'] at et
      refine ⟨_, _, rfl, Same.tupS s7 et, rfl, _, _, rfl, _, _, rfl, _, _, rfl, rfl, rfl, ?_⟩
      refine ⟨_, rfl, _, rfl, by show 2 ≤ sizeLine; decide, fun t nt => ?_⟩
      have tk2 : e.2.take 2 = [at0 e.2 0, at0 e.2 1] := by rw [e3']; rfl
      have hml : (km.map (·.2)).length < 77 := by rw [List.length_map]; exact hM.m.2.1
      refine ⟨_, rfl, (mkW ((km.map (·.2)).take i)).map entW, t, (e.2.take 2).map Sum.inr, rfl, ?_, (upd_ne (ne_of_none eD nt)).trans eD, ?_, same_mut (s7.trans (same_upd nt)) nD, ?_⟩
      · rw [upd_same, tk2]
        rfl
      · unfold mkW
        rw [List.length_map, List.length_map, List.length_take]
        exact sz8 (by omega)
      · have tk1 : (km.map (·.2)).take (i + 1) = (km.map (·.2)).take i ++ [e.2] := by rw [List.take_add_one, mget he]; rfl
        rw [upd_same, mkW_new ndM (mget he), tk1]
        unfold mkW
        rw [List.map_append, List.map_append]
        rfl
    · rintro H8 ⟨s8, eD⟩
      rw [List.length_map, List.take_of_length_le (by rw [List.length_map]; exact Nat.le_refl _)] at eD
      refine ⟨_, rfl, p, C, dx, _, rfl, s8 _ _ hp7, T.insM.cl, T.nWo, by show 2 < 1000; decide, ?_⟩
      have o8 : Off p H7 H8 := Off.of s8
      have o9 : Off p H8 (upd H8 p (.ins C dx (memF lr ll D))) := Off.put
      have pD : D ≠ p := fun e => by rw [e, hp7] at nD; cases nD
      have o39 := o37.trans (o8.trans o9)
      refine q hB _ ⟨zs, L.map (·.2), mkW (km.map (·.2))⟩ ⟨?_, so, ?_, List.pairwise_map.mpr pw, rfl⟩ ⟨dx, lr, ll, D, L, upd_same, ?_, ?_, rfl, fun z hz => ⟨(hM.l.2.2 z (dL.sub z hz)).1, ?_⟩, ?_⟩ ?fr ((Off.of s3).trans o39)
      · exact (List.perm_ext_iff_of_nodup nd ndR).mpr mm
      · exact (List.perm_ext_iff_of_nodup dL.nd ndL).mpr fun z => ⟨dL.keys z, fun h => by
          obtain ⟨u, hu, rfl⟩ := List.mem_map.mp h
          exact dL.all u hu⟩
      · exact (o5.trans (o6.trans (o7.trans (o8.trans o9)))) _ _ elr plr
      · exact (o7.trans (o8.trans o9)) _ _ ell pll
      · exact o39.sqT hp3 (hM3.l.2.2 z (dL.sub z hz)).2
      · exact o9 _ _ eD pD
      case fr =>
        intro dx' lr' ll' lw' e
        have e : some (HO.ins C dx (memF lr ll D)) = some (HO.ins C dx' (memF lr' ll' lw')) := (upd_same (H := H8) (a := p) (o := .ins C dx (memF lr ll D))).symm.trans e
        injection e with e
        injection e with _ _ e
        have e1 := memF_R lr ll D
        rw [e, memF_R] at e1
        have e2 := memF_L lr ll D
        rw [e, memF_L] at e2
        have e3 := memF_W lr ll D
        rw [e, memF_W] at e3
        injection e1 with e1
        injection e1 with e1
        injection e2 with e2
        injection e2 with e2
        injection e3 with e3
        injection e3 with e3
        rw [e1, e2, e3]
        have fr : ∀ {Hx : Hp} {a : Addr}, Off p H Hx → Hx a = none → a ≠ p → H a = none := fun {Hx a} o h n => by
          cases z : H a with
          | none => rfl
          | some u => rw [o _ _ z n] at h; cases h
        exact ⟨fr (Off.of s3) nlr plr, fr ((Off.of s3).trans (o4.trans o5)) nll pll, fr ((Off.of s3).trans o37) nD pD⟩
end
end Kx

namespace Kx
open PySem PySem.Spec PyProof.Rows L2 NdefX Kr Ke Kn Kz Ky
/-! ### memories as callers make them -/
structure MeC (P : Program) (w : World) (K : PySem.W.Frag) (mg : Str → Option Value) (base : Heap) (C CI : Addr) (k : Nat) : Prop where
  ex : ∃ (f : Addr) (fd : FuncData), Mk K C f ∧ FnOk P w K mg base (L2.CX P w) k f fd ["self", "running", "leads", "marks"] (spMemI K C CI) ∧ Binds K fd ["self", "running", "leads", "marks"] []
  g : mg "Memory" = some (.ref C)
def tMeV (K : PySem.W.Frag) (C : Addr) (ta : TA) : TE := fun σ H Q => ta σ H fun vs H1 => ∃ (r l m : Addr) (R : List Str) (kl km : List (Addr × List Str)), vs = [.ref r, .ref l, .ref m] ∧ MemIn K H1 r l m R kl km ∧ memB R (kl.map (·.2)) (km.map (·.2)) = true ∧
  ∀ x H2 M, H1 x = none → Same H1 H2 → MemOf R (kl.map (·.2)) (km.map (·.2)) M → MemAt K C H2 x M → MemFr C H1 H2 x → Q (.ref x) H2
def tMeX (K : PySem.W.Frag) (CI : Addr) (W : WX) (ta : TA) : TE := fun σ H Q => ta σ H fun vs H1 => ∃ (r l m : Addr) (R : List Str) (kl km : List (Addr × List Str)), vs = [.ref r, .ref l, .ref m] ∧ MemIn K H1 r l m R kl km ∧ memB R (kl.map (·.2)) (km.map (·.2)) = false ∧
  ∀ H2, Same H1 H2 → W (.ref CI) none σ H2
theorem same_made {H : Hp} {x dx C : Addr} (nx : H x = none) (nd : H dx = none) : Same H (upd (upd H dx (.own x)) x (.ins C dx [])) := fun b o e => by
  rw [upd_ne (ne_of_none e nx), upd_ne (ne_of_none e nd)]
  exact e
section
variable {X : Cx} {C CI : Addr} {k : Nat} {e : Expr} {es : List Expr} {ta : TA} {p pos : Pos}
theorem pe_meV (M : MeC X.prog X.w X.K X.mg X.base C CI k) (hr : Room (k + 1) X.A) (hg : Gl X "Memory") (ha : PA X (e :: es) ta) (hst : starEach (e :: es) X.env = (false, eval e X.env) :: starEach es X.env := by rfl) (hpl : (backTo pos (starEach es X.env)).any (·.1) = false := by rfl) :
    PE X (.Call (.Name "Memory" p) (e :: es) [] pos) (tMeV X.K C ta) := by
  obtain ⟨f, fd, M1, F, hb⟩ := M.ex
  refine ⟨fun pins s σ H Q I h => ?_⟩
  refine wpAny_Call_Name_kw (ld_glob I hg M.g ?_)
  refine PySem.W.callWith_K (h₀ := X.base) I.ok.mod.kin M1.kp (thn (ha.run pos pins s σ H _ I h) fun us s1 hq => ?_) hst hpl
  obtain ⟨vs, H1, I1, rv, r, l, m, R, kl, km, rfl, hM, hB, q⟩ := hq
  refine ⟨I1.kIn, run_make (dvs := []) (ds := []) M1 F hr hb .nil passL I1 rv fun x dx nx nd ne => ?_⟩
  refine ⟨x, r, l, m, R, kl, km, rfl, ⟨dx, upd_same⟩, hM.same (same_made nx nd), fun _ H' M' mo ma fr hk => ⟨rfl, ?_⟩, fun hf => ?_⟩
  · exact q x H' M' nx (fun b o e => hk b o (same_made nx nd _ _ e) (ne_of_none e nx)) mo ma (fun dx' lr ll lw e => by
      obtain ⟨f1, f2, f3⟩ := fr dx' lr ll lw e
      have k : ∀ {a : Addr}, (upd (upd H1 dx (.own x)) x (.ins C dx [])) a = none → H1 a = none := fun {a} h => by
        cases z : H1 a with
        | none => rfl
        | some u => rw [same_made nx nd _ _ z] at h; cases h
      exact ⟨k f1, k f2, k f3⟩)
  · rw [hB] at hf
    cases hf
theorem pe_meX {W : WX} (M : MeC X.prog X.w X.K X.mg X.base C CI k) (hr : Room (k + 1) X.A) (tk : Takes X W) (hg : Gl X "Memory") (ha : PA X (e :: es) ta) (hst : starEach (e :: es) X.env = (false, eval e X.env) :: starEach es X.env := by rfl) (hpl : (backTo pos (starEach es X.env)).any (·.1) = false := by rfl) :
    PE X (.Call (.Name "Memory" p) (e :: es) [] pos) (tMeX X.K CI W ta) := by
  obtain ⟨f, fd, M1, F, hb⟩ := M.ex
  refine ⟨fun pins s σ H Q I h => ?_⟩
  refine wpAny_Call_Name_kw (ld_glob I hg M.g ?_)
  refine PySem.W.callWith_K (h₀ := X.base) I.ok.mod.kin M1.kp (thn (ha.run pos pins s σ H _ I h) fun us s1 hq => ?_) hst hpl
  obtain ⟨vs, H1, I1, rv, r, l, m, R, kl, km, rfl, hM, hB, q⟩ := hq
  refine ⟨I1.kIn, ?_⟩
  have nx : H1 (s1.heap.objs.size + 1) = none := I1.hok.fresh (Nat.le_succ s1.heap.objs.size)
  have nd : H1 s1.heap.objs.size = none := I1.hok.fresh (Nat.le_refl s1.heap.objs.size)
  have sm := same_made (C := C) nx nd
  have hsp : spMemI X.K C CI [V.ref (s1.heap.objs.size + 1), .ref r, .ref l, .ref m] (upd (upd H1 s1.heap.objs.size (.own (s1.heap.objs.size + 1))) (s1.heap.objs.size + 1) (.ins C s1.heap.objs.size [])) (fun _ _ => False) (WE W σ) :=
    ⟨_, r, l, m, R, kl, km, rfl, ⟨_, upd_same⟩, hM.same sm, (fun hf => Bool.noConfusion (hB.symm.trans hf)), fun _ H' s' => q H' (sm.trans s')⟩
  have J := Inv.made (C := C) I1
  have r2 : Vals [V.ref (s1.heap.objs.size + 1), .ref r, .ref l, .ref m] (Value.ref (s1.heap.objs.size + 1) :: us) := .cons rfl rv
  have hlen : us.length = 3 := rv.length.symm
  have bind := hb _ (Value.ref (s1.heap.objs.size + 1) :: us) J.kIn (by simp [hlen])
  rw [List.append_nil] at bind
  have run := F.run _ X.stack _ _ ⟨Value.ref (s1.heap.objs.size + 1) :: us, []⟩ _ _ _ _ (hr.make C us []) (J.env0.make C us []) bind r2 hsp
  refine wpAny_call (make_map (f := f) I1.kIn M1.makes M1.init (beq_iff_eq.mp M1.fn) (codeAny_mono run fun res s' hq => ?_))
  cases res with
  | error e => exact passAt tk σ pins _ _ e s' J hq
  | ok fl =>
    cases fl with
    | ret u =>
      obtain ⟨v, H', J', rv', no⟩ := J.after hq
      exact no.elim
    | next => exact False.elim hq
    | brk => exact False.elim hq
    | cont => exact False.elim hq
end
end Kx

namespace Kx
open PySem PySem.Spec PyProof.Rows L2 NdefX Kr Ke Kn Kz Ky
/-! ### data of lists of tuples of texts -/
def tT (xs : List (List Str)) : List PyData := xs.map fun p => .tuple (tD p)
theorem eqv_tup (p q : List Str) : PyData.eqv (.tuple (tD p)) (.tuple (tD q)) = decide (p = q) := by
  simp only [PyData.eqv]
  exact eqv_txts p q
theorem eqv_tT : ∀ xs ys : List (List Str), PyData.eqvAll (tT xs) (tT ys) = decide (xs = ys)
  | [], [] => by simp [tT, PyData.eqvAll]
  | [], y :: ys => by simp [tT, PyData.eqvAll]
  | x :: xs, [] => by simp [tT, PyData.eqvAll]
  | x :: xs, y :: ys => by
    have h := eqv_tT xs ys
    simp only [tT] at h
    simp only [tT, List.map_cons, PyData.eqvAll, h, eqv_tup, List.cons.injEq, Bool.decide_and]
theorem lay_tT : ∀ {xs : List (List Str)} {n : Nat}, (∀ p ∈ xs, ∀ z ∈ p, Sht z n) → PyData.canLayAll0 (tT xs) = true
  | [], _, _ => rfl
  | g :: gs, n, h => by
    have h1 := lay_tT (xs := gs) (n := n) fun y hy => h y (List.mem_cons_of_mem _ hy)
    have h2 := lay_txts (h g List.mem_cons_self)
    simp only [tT] at h1
    simp only [tT, List.map_cons, PyData.canLayAll0, PyData.canLay0, h1, h2, Bool.and_self]
theorem dep_tT : ∀ gs : List (List Str), PyData.depthAll (tT gs) ≤ 1
  | [] => by decide
  | g :: gs => by
    have h1 := dep_tT gs
    have h2 := dep_txts g
    simp only [tT] at h1
    simp only [tT, List.map_cons, PyData.depthAll, PyData.depth, h2]
    omega
theorem shp_tT {gs : List (List Str)} {n : Nat} (h : ∀ g ∈ gs, ∀ z ∈ g, Sht z n) : SeqAt.shaped (.list (tT gs)) = true := by
  unfold SeqAt.shaped
  rw [Bool.and_eq_true]
  refine ⟨by simp only [PyData.canLay0, lay_tT h], decide_eq_true ?_⟩
  have := dep_tT gs
  simp only [PyData.depth]
  omega
theorem shp_tup {p : List Str} {n : Nat} (h : ∀ z ∈ p, Sht z n) : SeqAt.shaped (.tuple (tD p)) = true := by
  unfold SeqAt.shaped
  simp only [PyData.canLay0, PyData.depth, lay_txts h, dep_txts, Bool.true_and]
  decide
theorem dp_tups {K : PySem.W.Frag} {H : Hp} : ∀ {kl : List (Addr × List Str)}, (∀ q ∈ kl, SqT K H q.1 (q.2.map V.str)) → DpAll K H (kl.map fun q => V.ref q.1) (tT (kl.map (·.2)))
  | [], _ => .nil
  | q :: kl, h => .cons (.tup (h q List.mem_cons_self) (dp_txts q.2)) (dp_tups fun u hu => h u (List.mem_cons_of_mem _ hu))
theorem any_tT (xs : List (List Str)) (p : List Str) : ((tT xs).any fun z => PyData.eqv z (.tuple (tD p))) = decide (p ∈ xs) := by
  unfold tT
  rw [Bool.eq_iff_iff, List.any_map, List.any_eq_true, decide_eq_true_iff]
  constructor
  · rintro ⟨y, hy, e⟩
    simp only [Function.comp_apply, eqv_tup, decide_eq_true_eq] at e
    exact e ▸ hy
  · intro h
    exact ⟨p, h, by simp only [Function.comp_apply, eqv_tup, decide_true]⟩
/-! ### what a memory tells -/
abbrev s_memRun : Stmt := inClass (topS 44) 3
abbrev N_memRun : List Str := ["self"]
theorem sc_memRun : FnScope N_memRun ["self"] (defScope s_memRun) := ⟨rfl, rfl, rfl, by decide +kernel, rfl, by decide +kernel, by decide +kernel⟩
abbrev s_memLds : Stmt := inClass (topS 44) 4
theorem sc_memLds : FnScope N_memRun ["self"] (defScope s_memLds) := ⟨rfl, rfl, rfl, by decide +kernel, rfl, by decide +kernel, by decide +kernel⟩
abbrev s_memMks : Stmt := inClass (topS 44) 5
abbrev N_memMks : List Str := ["self", "word", "program", "thing"]
theorem sc_memMks : FnScope N_memMks ["self"] (defScope s_memMks) := ⟨rfl, rfl, rfl, by decide +kernel, rfl, by decide +kernel, by decide +kernel⟩
abbrev s_memWord : Stmt := inClass (topS 44) 12
abbrev N_memWord : List Str := ["self", "program", "thing"]
theorem sc_memWord : FnScope N_memWord ["self", "program", "thing"] (defScope s_memWord) := ⟨rfl, rfl, rfl, by decide +kernel, rfl, by decide +kernel, by decide +kernel⟩
def spRunP (K : PySem.W.Frag) (C : Addr) : Sp := fun vs H Q _ => ∃ (p : Addr) (M : Mem), vs = [.ref p] ∧ MemAt K C H p M ∧ ∀ l, H l = none → Q (.ref l) (upd H l (.lst (M.R.map V.str)))
/-- a list of tuples of d texts -/
structure TL (K : PySem.W.Frag) (H : Hp) (d : Nat) (l : Addr) (ks : List (Addr × List Str)) : Prop where
  l : H l = some (.lst (ks.map fun q => V.ref q.1))
  t : ∀ q ∈ ks, q.2.length = d ∧ SqT K H q.1 (q.2.map V.str)
theorem TL.same {K : PySem.W.Frag} {H H' : Hp} {d : Nat} {l : Addr} {ks : List (Addr × List Str)} (t : TL K H d l ks) (s : Same H H') : TL K H' d l ks := ⟨s _ _ t.l, fun q hq => ⟨(t.t q hq).1, Same.tupS s (t.t q hq).2⟩⟩
theorem TL.tups {K : PySem.W.Frag} {H : Hp} {d : Nat} {l : Addr} {ks : List (Addr × List Str)} (t : TL K H d l ks) (h : ks.length < 77) : Tups K H d l ks := ⟨.inl (.inl t.l), h, t.t⟩
theorem TL.dp {K : PySem.W.Frag} {H : Hp} {d : Nat} {l : Addr} {ks : List (Addr × List Str)} (t : TL K H d l ks) : Dp K H (.ref l) (.list (tT (ks.map (·.2)))) := .lst (.inl (.inl t.l)) (dp_tups fun q hq => (t.t q hq).2)
def spLdsP (K : PySem.W.Frag) (C : Addr) : Sp := fun vs H Q _ => ∃ (p : Addr) (M : Mem), vs = [.ref p] ∧ MemAt K C H p M ∧ ∀ l H' kl, H l = none → Same H H' → TL K H' 2 l kl → kl.map (·.2) = M.L → Q (.ref l) H'
/-- the places differ and are pairs -/
structure WfW (W : List (List Str × Str)) : Prop where
  nd : (W.map (·.1)).Nodup
  two : ∀ e ∈ W, e.1.length = 2
  few : W.length < 77
def trip (e : List Str × Str) : List Str := e.1 ++ [e.2]
def spMksP (K : PySem.W.Frag) (C : Addr) : Sp := fun vs H Q _ => ∃ (p : Addr) (M : Mem), vs = [.ref p] ∧ MemAt K C H p M ∧ WfW M.W ∧
  ∀ l H' km, H l = none → Same H H' → TL K H' 3 l km → (km.map (·.2)).Pairwise (fun a b => lexT b a = false) → (km.map (·.2)).Perm (M.W.map trip) → Q (.ref l) H'
def wordOf (M : Mem) (a b : Str) : Str := ((M.W.find? fun e => decide (e.1 = [a, b])).map (·.2)).getD wNone
def spWordP (K : PySem.W.Frag) (C : Addr) : Sp := fun vs H Q _ => ∃ (p : Addr) (M : Mem) (a b : Str), vs = [.ref p, .str a, .str b] ∧ MemAt K C H p M ∧ ∀ H', Same H H' → Q (.str (wordOf M a b)) H'
theorem val_ent : ∀ (W : List (List Str × Str)) (k : List Str), valV (W.map entW) (k.map (Sum.inr : Str → Key)) = (W.find? fun e => decide (e.1 = k)).map fun e => V.str e.2
  | [], _ => rfl
  | e :: W, k => by
    rw [List.map_cons, List.find?_cons]
    by_cases h : e.1 = k
    · rw [valV_pos (by unfold entW; rw [h]), decide_eq_true h]
      rfl
    · rw [valV_neg (fun z => h (inr_inj z)), decide_eq_false h]
      exact val_ent W k
theorem trip_inj {a b : List Str × Str} (ha : a.1.length = 2) (hb : b.1.length = 2) (h : trip a = trip b) : a = b := by
  have h1 := List.append_inj_left h (by rw [ha, hb])
  have h2 := List.append_inj_right h (by rw [ha, hb])
  injection h2 with h2
  exact Prod.ext h1 h2
theorem WfW.trips {W : List (List Str × Str)} (w : WfW W) : (W.map trip).Nodup := by
  refine List.pairwise_map.mpr (List.Pairwise.imp_of_mem (fun {a b} ha hb hne e => hne ?_) (List.pairwise_map.mp w.nd))
  exact congrArg Prod.fst (trip_inj (w.two a ha) (w.two b hb) e)
section
variable {P : Program} {w : World} {K : PySem.W.Frag} {mg : Str → Option Value} {base : Heap} {ka C CI : Addr}
theorem ok_memRun {f : Addr} {fd : FuncData} (F : Fun K "running" "Memory.running" s_memRun f fd) (T : TxA K mg ka C CI) : FnOk P w K mg base CX0 1 f fd ["self"] (spRunP K C) := by
  refine F.ok sc_memRun (fun vs H Q E h => ?_) (fun cdv A outer s H vs Q E hr h => ?_)
  · obtain ⟨p, M, rfl, _⟩ := h
    rfl
  · obtain ⟨p, M, rfl, m, q⟩ := h
    obtain ⟨dx, lr, ll, lw, kl, hp, er, el, _, _, ew⟩ := m.ex
    refine ⟨_, (pss_one (ps_ret (pe_callTy (call_list_of) (by rfl) T.m_list (by decide +kernel) (pa_cons (pe_fld (pv 0) rfl) pa_nil)))), ?_⟩
    exact ⟨_, rfl, p, C, dx, _, _, rfl, hp, T.insM.cl, T.nR, memF_R lr ll lw, lr, _, rfl, .inl (.inl (.inl er)), fun l nl => q l nl⟩
theorem ok_memLds {f : Addr} {fd : FuncData} (F : Fun K "leads" "Memory.leads" s_memLds f fd) (T : TxA K mg ka C CI) : FnOk P w K mg base CX0 1 f fd ["self"] (spLdsP K C) := by
  refine F.ok sc_memLds (fun vs H Q E h => ?_) (fun cdv A outer s H vs Q E hr h => ?_)
  · obtain ⟨p, M, rfl, _⟩ := h
    rfl
  · obtain ⟨p, M, rfl, m, q⟩ := h
    obtain ⟨dx, lr, ll, lw, kl, hp, er, el, e1, e2, ew⟩ := m.ex
    refine ⟨_, (pss_one (ps_ret (pe_callTy (call_list_of) (by rfl) T.m_list (by decide +kernel) (pa_cons (pe_fld (pv 0) rfl) pa_nil)))), ?_⟩
    refine ⟨_, rfl, p, C, dx, _, _, rfl, hp, T.insM.cl, T.nL, memF_L lr ll lw, ll, _, rfl, .inl (.inl (.inl el)), fun l nl => q l _ kl nl (same_upd nl) ⟨upd_same, fun u hu => ⟨(e2 u hu).1, Same.tupS (same_upd nl) (e2 u hu).2⟩⟩ e1⟩
theorem ok_memWord {f : Addr} {fd : FuncData} (F : Fun K "_word" "Memory._word" s_memWord f fd) (T : TxA K mg ka C CI) : FnOk P w K mg base CX0 1 f fd ["self", "program", "thing"] (spWordP K C) := by
  refine F.ok sc_memWord (fun vs H Q E h => ?_) (fun cdv A outer s H vs Q E hr h => ?_)
  · obtain ⟨p, M, a, b, rfl, _⟩ := h
    rfl
  · obtain ⟨p, M, a, b, rfl, m, q⟩ := h
    obtain ⟨dx, lr, ll, lw, kl, hp, er, el, e1, e2, ew⟩ := m.ex
    refine ⟨_, (pss_one (ps_ret (pe_dget2 (hu_of hr) (pe_fld (pv 0) rfl) (pe_tup (pa_cons (pv 1) (pa_cons (pv 2) pa_nil))) pe_str ⟨by rfl, by rfl, by rfl, by rfl⟩))), ?_⟩
    refine ⟨_, rfl, p, C, dx, _, _, rfl, hp, T.insM.cl, T.nWo, memF_W lr ll lw, lw, rfl, .inr ⟨_, .inl ew⟩, ?_⟩
    refine ⟨_, rfl, _, rfl, by show 2 ≤ sizeLine; decide, fun t nt => ?_⟩
    have ew' := same_upd (o := HO.tup [.str a, .str b]) nt _ _ ew
    refine ⟨_, DGet.t (k := [a, b].map Sum.inr) ew' upd_same, ?_⟩
    have e : (valV (M.W.map entW) ([a, b].map (Sum.inr : Str → Key))).getD (V.str wNone) = V.str (wordOf M a b) := by
      rw [val_ent]
      unfold wordOf
      cases M.W.find? fun e => decide (e.1 = [a, b]) <;> rfl
    have q1 := q _ (same_upd (o := HO.tup [.str a, .str b]) nt)
    rw [← e] at q1
    exact q1
end
end Kx

namespace Kx
open PySem PySem.Spec PyProof.Rows L2 NdefX Kr Ke Kn Kz Ky
/-- behind a lock all is as it was -/
theorem same_unlock {H H' : Hp} {d : Addr} {u : HO} {od : Obj} (hd : H d = some u) (s : Same (upd H d (.frz od u)) H') : Same H (upd H' d u) := fun b o e => by
  by_cases h : b = d
  · rw [h, hd] at e
    rw [h, upd_same]
    exact e
  · rw [upd_ne h]
    exact s _ _ (by rw [upd_ne h]; exact e)
theorem TL.unlock {K : PySem.W.Frag} {H : Hp} {d : Nat} {l a : Addr} {ks : List (Addr × List Str)} {u : HO} {od : Obj} {kvs : List (List Key × V)} (t : TL K H d l ks) (ha : H a = some (.frz od (.dT kvs))) : TL K (upd H a u) d l ks := by
  refine ⟨(upd_ne (fun z => by have := t.l; rw [z, ha] at this; cases this)).trans t.l, fun q hq => ⟨(t.t q hq).1, ?_⟩⟩
  rcases (t.t q hq).2 with (h | ⟨o, h⟩) | h
  · exact .inl (.inl ((upd_ne fun z => by rw [z, ha] at h; cases h).trans h))
  · exact .inl (.inr ⟨o, (upd_ne fun z => by rw [z, ha] at h; cases h).trans h⟩)
  · exact .inr h
theorem two_of : ∀ {p : List Str}, p.length = 2 → ∃ a b, p = [a, b]
  | [a, b], _ => ⟨a, b, rfl⟩
section
variable {P : Program} {w : World} {K : PySem.W.Frag} {mg : Str → Option Value} {base : Heap} {ka C CI : Addr}
theorem ok_memMks {f : Addr} {fd : FuncData} (F : Fun K "marks" "Memory.marks" s_memMks f fd) (T : TxA K mg ka C CI) : FnOk P w K mg base CX0 1 f fd ["self"] (spMksP K C) := by
  refine F.ok sc_memMks (fun vs H Q E h => ?_) (fun cdv A outer s H vs Q E hr h => ?_)
  · obtain ⟨p, M, rfl, _⟩ := h
    rfl
  · obtain ⟨p, M, rfl, m, wf, q⟩ := h
    obtain ⟨dx, lr, ll, lw, kl, hp, er, el, e1, e2, ew⟩ := m.ex
    refine ⟨_, (pss_one (ps_ret (pe_lock (pe_sorT (d := 3) rfl hr.units (by decide) (by rfl) T.m_sorted (by rfl) T.m_set (pe_lc (own := [("word", 1), ("program", 2), ("thing", 3)]) (g := gTup K 2 (gCons (gTup K 2 (gCons (gName 2) (gCons (gName 3) gNil))) (gCons (gName 1) gNil))) (tt := tYes) rfl sc_memMks.nd (pi_itemsT (pe_fld (pv 0) rfl)) (blkOk_by (own := [("word", 1), ("program", 2), ("thing", 3)]) (N := N_memMks) (sc := defScope s_memMks) (by decide +kernel)) (fun _ _ _ _ _ => pg_tup rfl (pgs_cons (pg_tup rfl (pgs_cons (pg_name (i := 2) sc_memMks.nd rfl (Or.inl rfl)) (pgs_cons (pg_name (i := 3) sc_memMks.nd rfl (Or.inl rfl)) pgs_nil))) (pgs_cons (pg_name (i := 1) sc_memMks.nd rfl (Or.inl rfl)) pgs_nil))) (fun _ _ _ _ _ => pts_nil) (fun _ _ _ _ _ => (pe_tup (pa_cons (pv 2) (pa_cons (pv 3) (pa_cons (pv 1) pa_nil)))))))))), ?_⟩
    refine ⟨lw, _, ew, trivial, fun od => ?_⟩
    have pw : p ≠ lw := fun z => by rw [z, ew] at hp; cases hp
    have efz : (upd H lw (.frz od (.dT (M.W.map entW)))) lw = some (.frz od (.dT (M.W.map entW))) := upd_same
    have hp1 : (upd H lw (.frz od (.dT (M.W.map entW)))) p = some (.ins C dx (memF lr ll lw)) := (upd_ne pw).trans hp
    have back : ∀ {H'}, Same (upd H lw (.frz od (.dT (M.W.map entW)))) H' → Same H (upd H' lw (.dT (M.W.map entW))) := fun s => same_unlock ew s
    have nofr : ∀ {x : Addr}, (upd H lw (.frz od (.dT (M.W.map entW)))) x = none → H x = none := fun {x} h => by
      have : x ≠ lw := fun z => by rw [z, upd_same] at h; cases h
      rwa [upd_ne this] at h
    generalize upd H lw (.frz od (.dT (M.W.map entW))) = H0 at efz hp1 back nofr ⊢
    refine ⟨_, rfl, p, C, dx, _, _, rfl, hp1, T.insM.cl, T.nWo, memF_W lr ll lw, lw, od, _, rfl, efz, fun D nD => ?_⟩
    refine lc_it walk_itemsT (fun i H' => ∃ as, Same H0 H' ∧ Nw H' D as ∧ as.map (·.2) = (M.W.take i).map trip) ⟨[], same_upd nD, Nw.nil, rfl⟩ (fun i H' _ ⟨_, s1, _⟩ => s1 _ _ efz) ?_ ?_
    · rintro i x H1 H2 hi ⟨as, s1, n1, m1⟩ ⟨t, qa, k, v, hkv, hq, rfl, nt, rfl⟩
      rw [List.length_map] at hi
      have ge : M.W[i]? = some M.W[i] := List.getElem?_eq_getElem hi
      generalize M.W[i] = e at ge
      rw [List.getElem?_map, ge] at hkv
      obtain ⟨rfl, rfl⟩ : k = e.1.map Sum.inr ∧ v = V.str e.2 := by
        have z := Option.some.inj hkv
        exact ⟨(congrArg Prod.fst z).symm, (congrArg Prod.snd z).symm⟩
      obtain ⟨a, b, e2'⟩ := two_of (wf.two e (List.mem_of_getElem? ge))
      rw [e2'] at hq
      have hq' : (upd H1 t (.tup [.ref qa, .str e.2])) qa = some (.tup [V.str a, V.str b]) := same_upd nt _ _ hq
      have s2 : Same H1 (upd H1 t (.tup [.ref qa, .str e.2])) := same_upd nt
      have n2 := n1.same s2
      have s02 := s1.trans s2
      have et : (upd H1 t (.tup [.ref qa, .str e.2])) t = some (.tup [.ref qa, .str e.2]) := upd_same
      generalize upd H1 t (.tup [.ref qa, .str e.2]) = H2 at hq' s2 n2 s02 et ⊢
      refine ⟨t, _, rfl, .inl (.inl et), rfl, _, _, rfl, qa, _, rfl, .inl (.inl hq'), rfl, _, _, rfl, _, _, rfl, rfl, _, _, rfl, rfl, rfl, ?_⟩
      refine ⟨_, rfl, _, rfl, _, rfl, by show 3 ≤ sizeLine; decide, fun u nu => ?_⟩
      have n3 := n2.push (k := [a, b, e.2]) nu
      have la : as.length ≤ 80 := by
        have := congrArg List.length m1
        rw [List.length_map, List.length_map, List.length_take] at this
        have := wf.few
        omega
      refine ⟨_, (upd_ne (ne_of_none n2.l nu)).trans n2.l, by rw [List.length_map]; exact sz8 (by omega), as ++ [(u, [a, b, e.2])], same_push (k := [a, b, e.2]) s02 nD nu, n3, ?_⟩
      rw [List.map_append, m1, List.take_add_one, ge, List.map_append]
      congr 1
      show [[a, b, e.2]] = [trip e]
      unfold trip
      rw [e2']
      rfl
    · rintro H2 ⟨as, s1, n1, m1⟩
      rw [List.length_map, List.take_length] at m1
      have la : as.length = M.W.length := by
        have := congrArg List.length m1
        rwa [List.length_map, List.length_map] at this
      have d3 : ∀ u ∈ as, u.2.length = 3 := fun u hu => by
        have : u.2 ∈ as.map (·.2) := List.mem_map.mpr ⟨u, hu, rfl⟩
        rw [m1] at this
        obtain ⟨e, he, z⟩ := List.mem_map.mp this
        rw [← z]
        unfold trip
        rw [List.length_append, wf.two e he]
        rfl
      have few := wf.few
      have tp := n1.tups (K := K) (by omega) d3
      refine ⟨D, as, rfl, tp, fun L l dL pw2 nl => ?_⟩
      have s2 : Same H2 (upd H2 l (.lst (L.map fun q => V.ref q.1))) := same_upd nl
      have efz2 := s2 _ _ (s1 _ _ efz)
      have tl : TL K (upd H2 l (.lst (L.map fun q => V.ref q.1))) 3 l L := ⟨upd_same, fun u hu => ⟨(tp.2.2 u (dL.sub u hu)).1, Same.tupS s2 (tp.2.2 u (dL.sub u hu)).2⟩⟩
      have nl0 : H0 l = none := by
        cases z : H0 l with
        | none => rfl
        | some o => rw [s1 _ _ z] at nl; cases nl
      refine ⟨efz2, q l _ L (nofr nl0) (back (s1.trans s2)) (tl.unlock efz2) (List.pairwise_map.mpr pw2) ?_⟩
      refine (List.perm_ext_iff_of_nodup dL.nd wf.trips).mpr fun z => ?_
      rw [← m1]
      exact ⟨dL.keys z, fun h => by
        obtain ⟨u, hu, rfl⟩ := List.mem_map.mp h
        exact dL.all u hu⟩
end
end Kx

namespace Kx
open PySem PySem.Spec PyProof.Rows L2 NdefX Kr Ke Kn Kz Ky
/-! ### methods as their callers see them -/
def tMethS (C : Addr) (m : Str) (sp : Sp) (E : L2.St → XK) (ta : TE) (t : TA) : TE := fun σ H Q => ta σ H fun x H1 => ∃ a dx fs, x = .ref a ∧ H1 a = some (.ins C dx fs) ∧ fs.lookup m = none ∧ t σ H1 fun vs H2 => sp (x :: vs) H2 Q (E σ)
structure MtC (CX : CXT) (P : Program) (w : World) (K : PySem.W.Frag) (mg : Str → Option Value) (base : Heap) (C : Addr) (m : Str) (k : Nat) (sp : Sp) : Prop where
  ex : ∃ (f : Addr) (fd : FuncData) (ps : List Str), Meth K C m f ∧ FnOk P w K mg base CX k f fd ps sp ∧ Binds K fd ps []
section
variable {X : Cx} {CX : CXT} {C : Addr} {m : Str} {k : Nat} {sp : Sp} {o e : Expr} {es : List Expr} {ta : TE} {t : TA} {apos pos : Pos} {E : L2.St → XK}
theorem pe_md {pl : Sem Bool} (M : MtC CX X.prog X.w X.K X.mg X.base C m k sp) (he : PE X o ta) (c : Cls X.K C) (hr : Room k X.A) (hx : Passes CX X E0) (ha : PA X (e :: es) t)
    (hst : starEach (e :: es) X.env = (false, eval e X.env) :: starEach es X.env := by rfl) (hpl : (backTo pos (starEach es X.env)).any (·.1) = false := by rfl)
    (ht : eval (.Call (.Attribute o m apos) (e :: es) [] pos) X.env = (do
      let ov ← eval o X.env
      standAt apos.atName
      let (f, first) ← holding [ov] (getMethod ov m pl)
      callWith pos f first (backTo pos (starEach (e :: es) X.env)) (backToKw pos (keywordEach [] X.env))) := by rfl) :
    PE X (.Call (.Attribute o m apos) (e :: es) [] pos) (tMeth C m sp [] E0 ta t) := by
  obtain ⟨f, fd, ps, h1, F, hb⟩ := M.ex
  exact pe_meth he c h1 F hr hb .nil hx ha hst hpl ht
theorem pe_mdS {pl : Sem Bool} (M : MtC CX X.prog X.w X.K X.mg X.base C m k sp) (he : PE X o ta) (c : Cls X.K C) (hr : Room k X.A) (hx : ∀ σ, PassesAt CX X σ (E σ)) (ha : PA X (e :: es) t)
    (hst : starEach (e :: es) X.env = (false, eval e X.env) :: starEach es X.env := by rfl) (hpl : (backTo pos (starEach es X.env)).any (·.1) = false := by rfl)
    (ht : eval (.Call (.Attribute o m apos) (e :: es) [] pos) X.env = (do
      let ov ← eval o X.env
      standAt apos.atName
      let (f, first) ← holding [ov] (getMethod ov m pl)
      callWith pos f first (backTo pos (starEach (e :: es) X.env)) (backToKw pos (keywordEach [] X.env))) := by rfl) :
    PE X (.Call (.Attribute o m apos) (e :: es) [] pos) (tMethS C m sp E ta t) := by
  obtain ⟨f, fd, ps, h1, F, hb⟩ := M.ex
  refine ⟨fun pins s σ H Q I h => ?_⟩
  refine PySem.W.methodCall_KW (pl := pl) (thn (he.run pins s σ H _ I h) fun u s1 ⟨x, H1, I1, rx, a, dx, fs, ex, ea, l, q⟩ => ?_) ht
  subst ex
  obtain rfl : u = Value.ref a := rx
  refine getmeth_ok I1 ea c h1 l ?_
  refine PySem.W.callWith_K (h₀ := X.base) (first := [.ref a]) I1.ok.mod.kin h1.kp (thn (ha.run pos pins s1 σ H1 _ I1 q) fun us s2 ⟨vs, H2, I2, r, q2⟩ => ⟨I2.kIn, ?_⟩) hst hpl
  exact run_fnS (us := .ref a :: us) (vs := .ref a :: vs) F hr hb (hx σ) I2 (.cons rfl r) q2
end
end Kx

namespace Kx
open PySem PySem.Spec PyProof.Rows L2 NdefX Kr Ke Kn Kz Ky
abbrev s_memMark : Stmt := inClass (topS 44) 6
abbrev N_memMark : List Str := ["self", "program", "thing"]
theorem sc_memMark : FnScope N_memMark ["self", "program", "thing"] (defScope s_memMark) := ⟨rfl, rfl, rfl, by decide +kernel, rfl, by decide +kernel, by decide +kernel⟩
abbrev s_memEq : Stmt := inClass (topS 44) 8
abbrev N_memEq : List Str := ["self", "other"]
theorem sc_memEq : FnScope N_memEq ["self", "other"] (defScope s_memEq) := ⟨rfl, rfl, rfl, by decide +kernel, rfl, by decide +kernel, by decide +kernel⟩
/-- a running program's mark; a stranger's is refused -/
def spMarkP (K : PySem.W.Frag) (C Cm CN : Addr) : Sp := fun vs H Q E => ∃ (p : Addr) (M : Mem) (a b : Str), vs = [.ref p, .str a, .str b] ∧ MemAt K C H p M ∧
  (a ∈ M.R → ∃ r, r < 4 ∧ wordOf M a b = WD r ∧ ∀ x H', H x = none → Same H H' → MkAt Cm H' x r → Q (.ref x) H') ∧
  (a ∉ M.R → (reprText a).length ≤ 100000 ∧ ∀ d H', H d = none → Same H H' → H' d = some (.xd [("program", .str a)]) → E (.ref CN) (some d) H')
/-- the texts of a memory's lists are short -/
structure MemSh (M : Mem) : Prop where
  r : Shts M.R
  l : ∀ p ∈ M.L, Shts p
/-- what == asks -/
structure SameM (M N : Mem) : Prop where
  r : M.R = N.R
  l : M.L = N.L
  n : M.W.length = N.W.length
  w : ∀ e ∈ M.W, (N.W.find? fun u => decide (u.1 = e.1)).map (·.2) = some e.2
def spEqP (K : PySem.W.Frag) (C : Addr) : Sp := fun vs H Q _ => ∃ (p q : Addr) (M N : Mem), vs = [.ref p, .ref q] ∧ MemAt K C H p M ∧ MemAt K C H q N ∧ MemSh M ∧ MemSh N ∧ ∀ c : Bool, (c = true ↔ SameM M N) → Q (.bl c) H
section
variable {P : Program} {w : World} {K : PySem.W.Frag} {mg : Str → Option Value} {base : Heap} {ka C CI Cm wa : Addr} {mc : Value}
theorem ok_memMark {f CN fN : Addr} {fd fdN : FuncData} (F : Fun K "mark" "Memory.mark" s_memMark f fd) (T : TxA K mg ka C CI) (M1 : MkC P w K mg base Cm 1) (W1 : MtC CX0 P w K mg base C "_word" 1 (spWordP K C))
    (gN : mg "NotRunning" = some (.ref CN)) (sN : SupC K CN) (iN : PySem.W.findIn K (.ref CN) "__init__" = some (some (.ref fN))) (tN : PySem.W.typeIn K (.ref fN) = some (.type "function"))
    (FN : FnOk P w K mg base CX0 1 fN fdN ["self", "program"] (spErr1 CN "program" 100000)) (bN : Binds K fdN ["self", "program"] []) :
    FnOk P w K mg base (L2.CX P w) 4 f fd ["self", "program", "thing"] (spMarkP K C Cm CN) := by
  refine F.okX sc_memMark (fun vs H Q E h => ?_) (fun cdv A outer s H vs Q E hr h => ?_)
  · obtain ⟨p, M, a, b, rfl, _⟩ := h
    rfl
  · obtain ⟨p, M, a, b, rfl, m, q, qe⟩ := h
    obtain ⟨dx, lr, ll, lw, kl, hp, er, el, e1, e2, ew⟩ := id m.ex
    refine ⟨_, (pss_cons (ps_if (pt_cmpR op_notIn_seq (pv 1) (pe_fld (pv 0) rfl) rfl)
        (pss_one (ps_raise rfl (takes_of rfl rfl rfl rfl) (pmk_oex (sp := spErr1 CN "program" 100000) sN.oex iN tN FN (hr.mono (by decide)) bN .nil pass0 (by rfl) gN (pa_cons (pv 1) pa_nil))))
        pss_nil)
      (pss_one (ps_ret (pe_mkV M1 (hr.mono (by decide)) (by rfl) (pe_md W1 (pv 0) T.insM.cl (hr.mono (by decide)) pass0 (pa_cons (pv 1) (pa_cons (pv 2) pa_nil))))))), ?_⟩
    refine ⟨_, rfl, _, rfl, p, C, dx, _, _, rfl, hp, T.insM.cl, T.nR, memF_R lr ll lw, lr, _, rfl, .inl (.inl (.inl er)), rfl, txt_flat M.R, _, rfl, ?_⟩
    rw [if_pos rfl, inV_txt]
    refine iteB (fun h1 => ?_) (fun h1 => ?_)
    · have hn : a ∉ M.R := by simpa using h1
      obtain ⟨hz, qe⟩ := qe hn
      refine ⟨_, rfl, by show 1 ≤ 1000; decide, fun x nx => ⟨x, a, rfl, hz, upd_same, fun d nd ne => ⟨rfl, d, [("program", .str a)], upd_same, (upd_ne ne).trans upd_same, ?_, ?_⟩⟩⟩
      · rw [upd_ne ne] at nd
        exact nd
      · rw [made_heap nx ne]
        rw [upd_ne ne] at nd
        exact qe d _ nd (same_upd nd) upd_same
    · have hm : a ∈ M.R := by simpa using h1
      obtain ⟨r, hr4, ewd, q⟩ := q hm
      refine ⟨_, rfl, p, dx, _, rfl, hp, ?_, _, rfl, _, rfl, p, M, a, b, rfl, m, fun H1 s1 => ⟨r, hr4, by rw [ewd], fun x H2 nx s2 mk => ?_⟩⟩
      · unfold memF
        rw [lookup_putF, if_neg (by decide +kernel), lookup_putF, if_neg (by decide +kernel), lookup_putF, if_neg (by decide +kernel)]
        rfl
      · refine q x H2 ?_ (s1.trans s2) mk
        cases z : H x with
        | none => rfl
        | some o => rw [s1 _ _ z] at nx; cases nx
theorem sameT_iff {M N : Mem} : SameT (M.W.map entW) (N.W.map entW) ↔ M.W.length = N.W.length ∧ ∀ e ∈ M.W, (N.W.find? fun u => decide (u.1 = e.1)).map (·.2) = some e.2 := by
  unfold SameT
  rw [List.length_map, List.length_map]
  refine and_congr Iff.rfl ⟨fun h e he => ?_, fun h x hx => ?_⟩
  · have z := h (entW e) (List.mem_map.mpr ⟨e, he, rfl⟩)
    rw [show (entW e).1 = e.1.map Sum.inr from rfl, val_ent] at z
    obtain ⟨u, hu, hz⟩ := Option.map_eq_some_iff.mp z
    injection hz with hz
    rw [hu, ← hz]
    rfl
  · obtain ⟨e, he, rfl⟩ := List.mem_map.mp hx
    obtain ⟨u, hu, hz⟩ := Option.map_eq_some_iff.mp (h e he)
    rw [show (entW e).1 = e.1.map Sum.inr from rfl, val_ent, hu, Option.map_some, hz]
    rfl
theorem ok_memEq {f : Addr} {fd : FuncData} (F : Fun K "__eq__" "Memory.__eq__" s_memEq f fd) (T : TxA K mg ka C CI) : FnOk P w K mg base CX0 1 f fd ["self", "other"] (spEqP K C) := by
  refine F.ok sc_memEq (fun vs H Q E h => ?_) (fun cdv A outer s H vs Q E hr h => ?_)
  · obtain ⟨p, q, M, N, rfl, _⟩ := h
    rfl
  · obtain ⟨p, q, M, N, rfl, m, n, hM, hN, k⟩ := h
    obtain ⟨dx, lr, ll, lw, kl, hp, er, el, e1, e2, ew⟩ := id m.ex
    obtain ⟨dy, mr, ml, mw, jl, hq, gr, gl, g1, g2, gw⟩ := id n.ex
    refine ⟨_, (pss_cons (ps_if (pt_not (pt_val (pe_callB (C8.call_isC T.insM) (by rfl) T.m_isinstance (by decide +kernel) (pa_cons (pv 1) (pa_cons (pe_glob (v := .ref C) (by rfl) T.gM rfl) pa_nil))))) (pss_one ps_never) pss_nil)
      (pss_one (ps_ret (pe_and (pe_cmpR (op_eqD hr.units) (pe_fld (pv 0) rfl) (pe_fld (pv 1) rfl) (nomark _)) (pe_and (pe_cmpR (op_eqD hr.units) (pe_fld (pv 0) rfl) (pe_fld (pv 1) rfl) (nomark _)) (pe_one (pe_cmpR (op_eq_dT (hu_of hr)) (pe_fld (pv 0) rfl) (pe_fld (pv 1) rfl) (nomark _)))))))), ?_⟩
    refine ⟨_, rfl, q, dy, _, rfl, hq, _, rfl, iteF ?_⟩
    refine ⟨_, rfl, p, C, dx, _, _, rfl, hp, T.insM.cl, T.nR, memF_R lr ll lw, _, rfl, q, C, dy, _, _, rfl, hq, T.insM.cl, T.nR, memF_R mr ml mw, _, _, .lst (.inl (.inl er)) (dp_txts M.R), .lst (.inl (.inl gr)) (dp_txts N.R), shp_txts hM.r, shp_txts hN.r, _, rfl, ?_⟩
    have eR : PyData.eqv (.list (tD M.R)) (.list (tD N.R)) = decide (M.R = N.R) := by
      simp only [PyData.eqv]
      exact eqv_txts _ _
    rw [eR]
    refine iteB (fun h1 => ?_) (fun h1 => k false ⟨fun z => Bool.noConfusion z, fun z => absurd z.r (of_decide_eq_false h1)⟩)
    refine ⟨_, rfl, p, C, dx, _, _, rfl, hp, T.insM.cl, T.nL, memF_L lr ll lw, _, rfl, q, C, dy, _, _, rfl, hq, T.insM.cl, T.nL, memF_L mr ml mw, _, _, .lst (.inl (.inl el)) (dp_tups fun u hu => (e2 u hu).2), .lst (.inl (.inl gl)) (dp_tups fun u hu => (g2 u hu).2), by rw [e1]; exact shp_tT hM.l, by rw [g1]; exact shp_tT hN.l, _, rfl, ?_⟩
    have eL : PyData.eqv (.list (tT (kl.map (·.2)))) (.list (tT (jl.map (·.2)))) = decide (M.L = N.L) := by
      rw [e1, g1]
      simp only [PyData.eqv]
      exact eqv_tT _ _
    rw [eL]
    refine iteB (fun h2 => ?_) (fun h2 => k false ⟨fun z => Bool.noConfusion z, fun z => absurd z.l (of_decide_eq_false h2)⟩)
    refine ⟨_, rfl, p, C, dx, _, _, rfl, hp, T.insM.cl, T.nWo, memF_W lr ll lw, _, rfl, q, C, dy, _, _, rfl, hq, T.insM.cl, T.nWo, memF_W mr ml mw, lw, mw, _, _, rfl, rfl, .inl ew, .inl gw, fun x hx => ?_, fun x hx => ?_, fun c hc => k c (hc.trans ?_)⟩
    · obtain ⟨e, _, rfl⟩ := List.mem_map.mp hx
      exact ⟨e.2, rfl⟩
    · obtain ⟨e, _, rfl⟩ := List.mem_map.mp hx
      exact ⟨e.2, rfl⟩
    · rw [sameT_iff]
      exact ⟨fun z => ⟨of_decide_eq_true h1, of_decide_eq_true h2, z.1, z.2⟩, fun z => ⟨z.n, z.w⟩⟩
end
end Kx

namespace Kx
open PySem PySem.Spec PyProof.Rows L2 NdefX Kr Ke Kn
/-! ### names of the law are names -/
theorem let_nd : LET = A26 := rfl
theorem one_mem (k st : Int) : oneV k st ∈ LET.cps.toList := by
  have hl : ((k * 7 + st / 4) % 26).toNat < A26.cps.toList.length := by rw [a26_len]; omega
  unfold oneV
  rw [List.getD_eq_getElem?_getD, List.getElem?_eq_getElem hl]
  exact List.getElem_mem hl
def nmB (f : Nat → Str) : Bool := (List.range 12).all fun a => nameB (f a)
theorem nm_ws : nmB ws10 = true := by decide +kernel
theorem nm_ba : nmB ba = true := by decide +kernel
theorem nm_m7 : nmB m7 = true := by decide +kernel
theorem nm_of {f : Nat → Str} (h : nmB f = true) {a : Nat} (ha : a < 12) : nameB (f a) = true := List.all_eq_true.mp h a (List.mem_range.mpr ha)
theorem q_let : (113 : Nat) ∈ LET.cps.toList := by decide +kernel
theorem x_let : (120 : Nat) ∈ LET.cps.toList := by decide +kernel
theorem dig_mem : ∀ c : Nat, 48 ≤ c → c ≤ 57 → c ∈ DIG.cps.toList := by
  intro c h1 h2
  have : ∀ c, c < 58 → 48 ≤ c → c ∈ DIG.cps.toList := by decide +kernel
  exact this c (by omega) h1
theorem nameB_of {z : Str} (h1 : 1 ≤ z.length) (h8 : z.length ≤ 8) (hh : z.cps.toList.headD 0 ∈ LET.cps.toList) (ha : ∀ c ∈ z.cps.toList, c ∈ LET.cps.toList ∨ c ∈ DIG.cps.toList) : nameB z = true := by
  unfold nameB okN
  have l : z.cps.toList.length = z.length := by rw [Array.length_toList]; rfl
  rw [l, decide_eq_true h1, decide_eq_true h8, Bool.true_and, Bool.true_and, Bool.and_eq_true]
  refine ⟨decide_eq_true hh, List.all_eq_true.mpr fun c hc => ?_⟩
  rcases ha c hc with h | h
  · rw [Bool.or_eq_true]; exact .inl (decide_eq_true h)
  · rw [Bool.or_eq_true]; exact .inr (decide_eq_true h)
theorem dig_of {d : Char} (h : d.isDigit = true) : d.toNat ∈ DIG.cps.toList := by
  simp only [Char.isDigit, Bool.and_eq_true, decide_eq_true_eq] at h
  refine dig_mem _ ?_ ?_
  · exact h.1
  · exact h.2
theorem tS_dig (n : Nat) : ∀ c ∈ (tS (n : Int)).cps.toList, c ∈ DIG.cps.toList := fun c hc => by
  rw [tS_nat] at hc
  obtain ⟨d, hd, rfl⟩ := List.mem_map.mp hc
  exact dig_of (digits_dig n d hd)
theorem tS_len4 {n : Nat} (h : n < 10000) : (tS (n : Int)).length ≤ 4 := by
  have e : (tS (n : Int)).length = (tS (n : Int)).cps.toList.length := by rw [Array.length_toList]; rfl
  rw [e, tS_nat, List.length_map]
  exact digits10_le (n := n) (k := 4) (by decide) (by omega)
theorem base_facts (k st : Int) (h0 : 0 ≤ st) : 2 ≤ (baseV k st).length ∧ (baseV k st).length ≤ 5 ∧ (baseV k st).cps.toList.headD 0 ∈ LET.cps.toList ∧ ∀ c ∈ (baseV k st).cps.toList, c ∈ LET.cps.toList ∨ c ∈ DIG.cps.toList := by
  obtain ⟨n, hn⟩ : ∃ n : Nat, st / 4 % 10000 = (n : Int) := ⟨(st / 4 % 10000).toNat, by omega⟩
  have h4 := tS_len4 (n := n) (by omega)
  obtain ⟨c0, r0, e0, _, _⟩ := tS_head n
  have e : (baseV k st).cps.toList = oneV k st :: (tS (n : Int)).cps.toList := by
    unfold baseV
    rw [app_cps, hn]
    rfl
  have l : (baseV k st).length = (baseV k st).cps.toList.length := by rw [Array.length_toList]; rfl
  have lt : (tS (n : Int)).length = (tS (n : Int)).cps.toList.length := by rw [Array.length_toList]; rfl
  refine ⟨?_, ?_, ?_, fun c hc => ?_⟩
  · rw [l, e, e0]
    simp
  · rw [l, e, List.length_cons, ← lt]
    omega
  · rw [e]
    exact one_mem k st
  · rw [e] at hc
    rcases List.mem_cons.mp hc with rfl | hc
    · exact .inl (one_mem k st)
    · exact .inr (tS_dig n c hc)
theorem name_ok {k st : Int} (h0 : 0 ≤ k) (h1 : k < 12) (s0 : 0 ≤ st) : nameB (nameV k st) = true := by
  obtain ⟨a, rfl⟩ : ∃ a : Nat, k = (a : Int) := ⟨k.toNat, by omega⟩
  have ha : a < 12 := by omega
  have lenof : ∀ z : Str, z.length = z.cps.toList.length := fun z => by rw [Array.length_toList]; rfl
  unfold nameV
  by_cases c1 : st % 4 = 1 ∧ st / 4 % 2 = 1
  · rw [if_pos c1]
    have e : WS.getD ((a : Int) % 10).toNat "" ++ repT 50 ((a : Int) / 10).toNat = ws10 a := by
      unfold ws10
      rw [show ((a : Int) % 10).toNat = a % 10 by omega, show ((a : Int) / 10).toNat = a / 10 by omega]
    rw [e]
    exact nm_of nm_ws ha
  · rw [if_neg c1]
    by_cases c2 : st % 4 = 3 ∧ st / 4 % 2 = 1
    · rw [if_pos c2]
      have e : repT 98 ((a : Int) / 7).toNat ++ repT 97 ((a : Int) % 7 + 1).toNat = ba a := by
        unfold ba
        rw [show ((a : Int) / 7).toNat = a / 7 by omega, show ((a : Int) % 7 + 1).toNat = a % 7 + 1 by omega]
      rw [e]
      exact nm_of nm_ba ha
    · rw [if_neg c2]
      by_cases c3 : st % 4 = 1
      · rw [if_pos c3]
        have e : (repT 113 ((a : Int) % 3).toNat ++ (⟨#[oneV a st]⟩ : Str)).cps.toList = List.replicate ((a : Int) % 3).toNat 113 ++ [oneV a st] := by
          rw [app_cps, rep_cps]
        have b : ((a : Int) % 3).toNat ≤ 2 := by omega
        refine nameB_of ?_ ?_ ?_ fun c hc => .inl ?_
        · rw [lenof, e]; simp
        · rw [lenof, e, List.length_append, List.length_replicate]; show _ + 1 ≤ 8; omega
        · rw [e]
          cases ((a : Int) % 3).toNat with
          | zero => exact one_mem a st
          | succ n => exact q_let
        · rw [e] at hc
          rcases List.mem_append.mp hc with h | h
          · rw [(List.mem_replicate.mp h).2]; exact q_let
          · rw [List.mem_singleton.mp h]; exact one_mem a st
      · rw [if_neg c3]
        by_cases c4 : st % 4 = 2
        · rw [if_pos c4]
          obtain ⟨b1, b2, b3, b4⟩ := base_facts a st s0
          have any : ∀ n : Nat, (baseV a st).length + n ≤ 8 → nameB (baseV a st ++ repT 120 n) = true := fun n hn => by
            have e : (baseV a st ++ repT 120 n).cps.toList = (baseV a st).cps.toList ++ List.replicate n 120 := by rw [app_cps, rep_cps]
            have hne : (baseV a st).cps.toList ≠ [] := fun z => by rw [lenof, z] at b1; simp at b1
            refine nameB_of ?_ ?_ ?_ fun c hc => ?_
            · rw [lenof, e, List.length_append, ← lenof]; omega
            · rw [lenof, e, List.length_append, ← lenof, List.length_replicate]; exact hn
            · rw [e]
              cases z : (baseV a st).cps.toList with
              | nil => exact absurd z hne
              | cons u r => rw [z] at b3; exact b3
            · rw [e] at hc
              rcases List.mem_append.mp hc with h | h
              · exact b4 c h
              · rw [(List.mem_replicate.mp h).2]; exact .inl x_let
          by_cases c5 : (a : Int) % 4 = 3
          · rw [if_pos c5]
            exact any _ (by omega)
          · rw [if_neg c5]
            exact any _ (by omega)
        · rw [if_neg c4]
          by_cases c6 : st % 4 = 3
          · rw [if_pos c6]
            exact nm_of nm_m7 ha
          · rw [if_neg c6]
            refine nameB_of (by show 1 ≤ 1; decide) (by show 1 ≤ 8; decide) (one_mem a st) fun c hc => ?_
            rw [show (⟨#[oneV a st]⟩ : Str).cps.toList = [oneV a st] from rfl, List.mem_singleton] at hc
            rw [hc]
            exact .inl (one_mem a st)
theorem nameP_ok {k st : Int} (h0 : 0 ≤ k) (h1 : k < 12) (s0 : 0 ≤ st) : nameB (nameP k st) = true := by
  have lenof : ∀ z : Str, z.length = z.cps.toList.length := fun z => by rw [Array.length_toList]; rfl
  by_cases c1 : st % 4 = 1 ∧ st / 4 % 2 = 1
  · rw [nameP_1 c1.1]
    have e : (repT 113 (k % 3).toNat ++ (⟨#[oneV k st]⟩ : Str)).cps.toList = List.replicate (k % 3).toNat 113 ++ [oneV k st] := by
      rw [app_cps, rep_cps]
    have b : (k % 3).toNat ≤ 2 := by omega
    refine nameB_of ?_ ?_ ?_ fun c hc => .inl ?_
    · rw [lenof, e]; simp
    · rw [lenof, e, List.length_append, List.length_replicate]; show _ + 1 ≤ 8; omega
    · rw [e]
      cases (k % 3).toNat with
      | zero => exact one_mem k st
      | succ n => exact q_let
    · rw [e] at hc
      rcases List.mem_append.mp hc with h | h
      · rw [(List.mem_replicate.mp h).2]; exact q_let
      · rw [List.mem_singleton.mp h]; exact one_mem k st
  by_cases c2 : st % 4 = 3 ∧ st / 4 % 2 = 1
  · rw [nameP_3 c2.1]
    obtain ⟨a, rfl⟩ : ∃ a : Nat, k = (a : Int) := ⟨k.toNat, by omega⟩
    exact nm_of nm_m7 (by omega)
  · rw [nameP_V c1 c2]
    exact name_ok h0 h1 s0
/-- what the laws ask of their names -/
structure NmF (nf : Int → Int → Str) : Prop where
  sht : ∀ {k st : Int}, 0 ≤ k → k < 16 → Sht (nf k st) 20
  inj : ∀ {k k' st : Int}, 0 ≤ k → k < 16 → 0 ≤ k' → k' < 16 → nf k st = nf k' st → k = k'
  ok : ∀ {k st : Int}, 0 ≤ k → k < 12 → 0 ≤ st → nameB (nf k st) = true
theorem nmf_P : NmF nameP := ⟨fun a b => (nameP_facts a b).1, fun a b c d e => (nameP_facts a b).2 _ c d e, nameP_ok⟩
theorem nmf_V : NmF nameV := ⟨fun a b => (name_facts a b).1, fun a b c d e => (name_facts a b).2.2 _ c d e, name_ok⟩
end Kx

/-! ### pairs and triples in their order -/
namespace Kx
open PySem PySem.Spec PyProof.Rows L2 NdefX Kr Ke Kn Kz Ky
theorem lq_of {a b : Str} (h : LeS a b) (n : a ≠ b) : lq a b = true := by
  cases e : lq a b with
  | true => rfl
  | false => exact absurd (LeS.anti h (show LeS b a from e)) n
theorem lq_ne {a b : Str} (h : lq a b = true) : a ≠ b := fun e => by rw [e, lq_irr] at h; cases h
theorem strictS {rs : List Str} (s : sortedS rs = true) (n : rs.Nodup) : rs.Pairwise fun a b => lq a b = true :=
  List.Pairwise.imp₂ (fun a b h n => lq_of h n) (sorted_pw s) n
theorem lexT_irr : ∀ p : List Str, lexT p p = false
  | [] => rfl
  | x :: p => by unfold lexT; rw [if_pos rfl]; exact lexT_irr p
theorem lex_fst {a b : Str} {p q : List Str} (h : lq a b = true) : lexT (a :: p) (b :: q) = true := by
  unfold lexT
  rw [if_neg (lq_ne h)]
  exact h
theorem lex_snd {a : Str} {p q : List Str} (h : lexT p q = true) : lexT (a :: p) (a :: q) = true := by
  unfold lexT
  rw [if_pos rfl]
  exact h
/-- strictly ascending -/
abbrev Asc (xs : List (List Str)) : Prop := xs.Pairwise fun a b => lexT a b = true
theorem Asc.nd {xs : List (List Str)} (h : Asc xs) : xs.Nodup := List.Pairwise.imp (fun {a b} h e => by rw [e, lexT_irr] at h; cases h) h
theorem Asc.srt {xs : List (List Str)} (h : Asc xs) : xs.Pairwise fun a b => lexT b a = false := List.Pairwise.imp (fun {a b} h => lexT_asym h) h
theorem Asc.uniq {xs ys : List (List Str)} (h : Asc xs) (s : ys.Pairwise fun a b => lexT b a = false) (n : ys.Nodup) (m : ∀ z, z ∈ xs ↔ z ∈ ys) : xs = ys := sortT_uniq h.srt s ((List.perm_ext_iff_of_nodup h.nd n).mpr m)
/-- the pairs of leads, by their order -/
def rowP (rs : List Str) (L : List (List Str)) (a : Str) : List (List Str) := (rs.filter fun b => decide ([a, b] ∈ L)).map fun b => [a, b]
def pairsP (rs : List Str) (L : List (List Str)) : List (List Str) := rs.flatMap (rowP rs L)
theorem pairsP_asc {rs : List Str} {L : List (List Str)} (s : rs.Pairwise fun a b => lq a b = true) : Asc (pairsP rs L) := by
  unfold pairsP
  rw [Asc, List.pairwise_flatMap]
  refine ⟨fun a _ => ?_, List.Pairwise.imp (fun {a b} h x hx y hy => ?_) s⟩
  · exact List.pairwise_map.mpr (List.Pairwise.imp (fun {b c} h => lex_snd (lex_fst h)) (List.Pairwise.filter _ s))
  · obtain ⟨b1, _, rfl⟩ := List.mem_map.mp hx
    obtain ⟨b2, _, rfl⟩ := List.mem_map.mp hy
    exact lex_fst h
theorem pairsP_mem {rs : List Str} {L : List (List Str)} (h : ∀ p ∈ L, ∃ a b, p = [a, b] ∧ a ∈ rs ∧ b ∈ rs) (z : List Str) : z ∈ pairsP rs L ↔ z ∈ L := by
  unfold pairsP rowP
  rw [List.mem_flatMap]
  constructor
  · rintro ⟨a, _, hz⟩
    obtain ⟨b, hb, rfl⟩ := List.mem_map.mp hz
    exact of_decide_eq_true (List.mem_filter.mp hb).2
  · intro hz
    obtain ⟨a, b, rfl, ha, hb⟩ := h z hz
    exact ⟨a, ha, List.mem_map.mpr ⟨b, List.mem_filter.mpr ⟨hb, decide_eq_true hz⟩, rfl⟩⟩
/-! triples, with the places where they stand -/
abbrev AL := Addr × List Str
def atP (a t : Str) (q : AL) : Bool := decide (at0 q.2 0 = a) && decide (at0 q.2 1 = t)
def blk (km : List AL) (a : Str) (ys : List Str) : List AL := ys.flatMap fun t => km.filter (atP a t)
theorem blk_mem {km : List AL} {a : Str} {ys : List Str} {q : AL} : q ∈ blk km a ys ↔ q ∈ km ∧ at0 q.2 0 = a ∧ at0 q.2 1 ∈ ys := by
  unfold blk
  rw [List.mem_flatMap]
  constructor
  · rintro ⟨t, ht, hq⟩
    obtain ⟨h1, h2⟩ := List.mem_filter.mp hq
    unfold atP at h2
    rw [Bool.and_eq_true] at h2
    exact ⟨h1, of_decide_eq_true h2.1, (of_decide_eq_true h2.2) ▸ ht⟩
  · rintro ⟨h1, h2, h3⟩
    exact ⟨_, h3, List.mem_filter.mpr ⟨h1, by unfold atP; rw [decide_eq_true h2, decide_eq_true rfl]; rfl⟩⟩
/-- what has been told up to the i-th program -/
structure Tr (km : List AL) (rs : List Str) (i : Nat) (tr : List AL) : Prop where
  asc : tr.Pairwise fun q r => lexT q.2 r.2 = true
  mem : ∀ q, q ∈ tr ↔ q ∈ km ∧ at0 q.2 0 ∈ rs.take i
theorem Tr.zero {km : List AL} {rs : List Str} : Tr km rs 0 [] := ⟨List.Pairwise.nil, fun q => by simp⟩
theorem lex3 {p q : List Str} (hp : p.length = 3) (hq : q.length = 3) (h : lq (at0 p 0) (at0 q 0) = true ∨ (at0 p 0 = at0 q 0 ∧ lq (at0 p 1) (at0 q 1) = true)) : lexT p q = true := by
  rw [len3 hp, len3 hq]
  rcases h with h | ⟨h1, h2⟩
  · exact lex_fst h
  · rw [h1]
    exact lex_snd (lex_fst h2)
theorem Tr.next {km : List AL} {rs ys : List Str} {i : Nat} {tr : List AL} {a : Str} (t : Tr km rs i tr) (s : rs.Pairwise fun a b => lq a b = true) (ha : rs[i]? = some a) (h3 : ∀ q ∈ km, q.2.length = 3) (nd : (km.map fun q => q.2.take 2).Nodup)
    (sy : sortedS ys = true) (py : ys.Perm ((km.filter fun q => decide (at0 q.2 0 = a)).map fun q => at0 q.2 1)) : Tr km rs (i + 1) (tr ++ blk km a ys) := by
  have tk : rs.take (i + 1) = rs.take i ++ [a] := by rw [List.take_add_one, ha]; rfl
  have hi : i < rs.length := (List.getElem?_eq_some_iff.mp ha).1
  have ei : rs[i] = a := (List.getElem?_eq_some_iff.mp ha).2
  have before : ∀ b ∈ rs.take i, lq b a = true := fun b hb => by
    obtain ⟨j, hj, ej⟩ := List.mem_iff_getElem.mp hb
    have hj' : j < i := by rw [List.length_take] at hj; omega
    rw [List.getElem_take] at ej
    have z := List.pairwise_iff_getElem.mp s j i (by omega) hi hj'
    rw [ej, ei] at z
    exact z
  have pk : km.Pairwise fun q r => q.2.take 2 ≠ r.2.take 2 := List.pairwise_map.mp nd
  have two : ∀ q ∈ km, q.2.take 2 = [at0 q.2 0, at0 q.2 1] := fun q hq => by
    have e := len3 (h3 q hq)
    have : q.2.take 2 = [at0 q.2 0, at0 q.2 1, at0 q.2 2].take 2 := by rw [← e]
    rw [this]
    rfl
  have yn : ys.Nodup := by
    refine py.nodup_iff.mpr (List.pairwise_map.mpr (List.Pairwise.imp_of_mem (fun {q r} hq hr hne e => hne ?_) (List.Pairwise.filter _ pk)))
    obtain ⟨q1, q2⟩ := List.mem_filter.mp hq
    obtain ⟨r1, r2⟩ := List.mem_filter.mp hr
    rw [two q q1, two r r1, of_decide_eq_true q2, of_decide_eq_true r2, e]
  have sb : (blk km a ys).Pairwise fun q r => lexT q.2 r.2 = true := by
    unfold blk
    rw [List.pairwise_flatMap]
    refine ⟨fun t _ => ?_, List.Pairwise.imp (fun {t u} h x hx y hy => ?_) (strictS sy yn)⟩
    · refine List.Pairwise.imp_of_mem (fun {q r} hq hr hne => absurd ?_ hne) (List.Pairwise.filter _ pk)
      obtain ⟨q1, q2⟩ := List.mem_filter.mp hq
      obtain ⟨r1, r2⟩ := List.mem_filter.mp hr
      unfold atP at q2 r2
      rw [Bool.and_eq_true] at q2 r2
      rw [two q q1, two r r1, of_decide_eq_true q2.1, of_decide_eq_true r2.1, of_decide_eq_true q2.2, of_decide_eq_true r2.2]
    · obtain ⟨q1, q2⟩ := List.mem_filter.mp hx
      obtain ⟨r1, r2⟩ := List.mem_filter.mp hy
      unfold atP at q2 r2
      rw [Bool.and_eq_true] at q2 r2
      exact lex3 (h3 _ q1) (h3 _ r1) (.inr ⟨(of_decide_eq_true q2.1).trans (of_decide_eq_true r2.1).symm, by rw [of_decide_eq_true q2.2, of_decide_eq_true r2.2]; exact h⟩)
  refine ⟨List.pairwise_append.mpr ⟨t.asc, sb, fun q hq r hr => ?_⟩, fun q => ?_⟩
  · obtain ⟨q1, q2⟩ := (t.mem q).mp hq
    obtain ⟨r1, r2, _⟩ := blk_mem.mp hr
    exact lex3 (h3 q q1) (h3 r r1) (.inl (by rw [r2]; exact before _ q2))
  · rw [List.mem_append, t.mem, blk_mem, tk, List.mem_append, List.mem_singleton]
    constructor
    · rintro (⟨h1, h2⟩ | ⟨h1, h2, _⟩)
      · exact ⟨h1, .inl h2⟩
      · exact ⟨h1, .inr h2⟩
    · rintro ⟨h1, h2 | h2⟩
      · exact .inl ⟨h1, h2⟩
      · refine .inr ⟨h1, h2, py.mem_iff.mpr (List.mem_map.mpr ⟨q, List.mem_filter.mpr ⟨h1, decide_eq_true h2⟩, rfl⟩)⟩
/-- at the end: the memory's marks -/
theorem Tr.done {km : List AL} {rs : List Str} {tr : List AL} {ms : List (List Str)} (t : Tr km rs rs.length tr) (hr : ∀ q ∈ km, at0 q.2 0 ∈ rs) (s : ms.Pairwise fun a b => lexT b a = false) (n : ms.Nodup) (p : ∀ z, z ∈ ms ↔ z ∈ km.map (·.2)) : tr.map (·.2) = ms := by
  refine Asc.uniq (List.pairwise_map.mpr t.asc) s n fun z => ?_
  rw [p]
  constructor
  · intro h
    obtain ⟨q, hq, rfl⟩ := List.mem_map.mp h
    exact List.mem_map.mpr ⟨q, ((t.mem q).mp hq).1, rfl⟩
  · intro h
    obtain ⟨q, hq, rfl⟩ := List.mem_map.mp h
    exact List.mem_map.mpr ⟨q, (t.mem q).mpr ⟨hq, by rw [List.take_length]; exact hr q hq⟩, rfl⟩
end Kx

namespace Kx
open PySem PySem.Spec PyProof.Rows L2 NdefX Kr Ke Kn Kz Ky
/-! ### tables: names, leads, levels -/
structure Tbl where
  N : List Str
  L : List (List Str)
  V : List (List Str × Nat)
def lvl (V : List (List Str × Nat)) (k : List Str) : Nat := ((V.find? fun e => decide (e.1 = k)).map (·.2)).getD 0
theorem nd_of_map {α β : Type} {f : α → β} {l : List α} (h : (l.map f).Nodup) : l.Nodup := List.Pairwise.imp (fun {a b} h e => h (congrArg f e)) (List.pairwise_map.mp h)
theorem find_kv {β : Type} {W : List (List Str × β)} (nd : (W.map (·.1)).Nodup) {e : List Str × β} (he : e ∈ W) : (W.find? fun u => decide (u.1 = e.1)) = some e := by
  induction W with
  | nil => exact nomatch he
  | cons x W ih =>
    rw [List.map_cons, List.nodup_cons] at nd
    rw [List.find?_cons]
    rcases List.mem_cons.mp he with rfl | h
    · rw [decide_eq_true rfl]
    · have : x.1 ≠ e.1 := fun z => nd.1 (z ▸ List.mem_map.mpr ⟨e, h, rfl⟩)
      rw [decide_eq_false this]
      exact ih nd.2 h
theorem find_kn {β : Type} {W : List (List Str × β)} {k : List Str} (h : k ∉ W.map (·.1)) : (W.find? fun u => decide (u.1 = k)) = none := by
  rw [List.find?_eq_none]
  intro x hx e
  exact h ((of_decide_eq_true e) ▸ List.mem_map.mpr ⟨x, hx, rfl⟩)
theorem lvl_mem {V : List (List Str × Nat)} (nd : (V.map (·.1)).Nodup) {e : List Str × Nat} (he : e ∈ V) : lvl V e.1 = e.2 := by
  unfold lvl
  rw [find_kv nd he]
  rfl
theorem lvl_no {V : List (List Str × Nat)} {k : List Str} (h : k ∉ V.map (·.1)) : lvl V k = 0 := by
  unfold lvl
  rw [find_kn h]
  rfl
theorem lvl_pos {V : List (List Str × Nat)} {k : List Str} (h : lvl V k ≠ 0) : (k, lvl V k) ∈ V := by
  unfold lvl at h ⊢
  cases e : V.find? fun u => decide (u.1 = k) with
  | none => rw [e] at h; exact absurd rfl h
  | some u =>
    have := of_decide_eq_true (List.find?_some (p := fun u : List Str × Nat => decide (u.1 = k)) e)
    rw [← this]
    exact List.mem_of_find?_eq_some e
theorem lvl_key {V : List (List Str × Nat)} {k : List Str} (h : lvl V k ≠ 0) : k ∈ V.map (·.1) := List.mem_map.mpr ⟨_, lvl_pos h, rfl⟩
structure WfT (Th : List Str) (T : Tbl) : Prop where
  nd : T.N.Nodup
  nm : ∀ z ∈ T.N, nameB z = true
  n8 : T.N.length ≤ 8
  ln : T.L.Nodup
  lk : ∀ p ∈ T.L, ∃ a b, p = [a, b] ∧ a ∈ T.N ∧ b ∈ T.N ∧ a ≠ b
  vn : (T.V.map (·.1)).Nodup
  vk : ∀ e ∈ T.V, ∃ a b, e.1 = [a, b] ∧ a ∈ T.N ∧ b ∈ Th ∧ 1 ≤ e.2 ∧ e.2 < 4
  th : ∀ z ∈ Th, nameB z = true
  t7 : Th.length ≤ 7
theorem let_lt : ∀ c ∈ LET.cps.toList, c < 1114112 := by decide +kernel
theorem dig_lt : ∀ c ∈ DIG.cps.toList, c < 1114112 := by decide +kernel
theorem nameB_sht {z : Str} (h : nameB z = true) : Sht z 1000 := by
  unfold nameB okN at h
  simp only [Bool.and_eq_true, decide_eq_true_eq, List.all_eq_true, Bool.or_eq_true] at h
  obtain ⟨⟨⟨_, h8⟩, _⟩, ha⟩ := h
  have l : z.cps.toList.length = z.length := by rw [Array.length_toList]; rfl
  refine ⟨by omega, fun c hc => ?_⟩
  rcases ha c hc with h | h
  · exact let_lt c h
  · exact dig_lt c h
theorem flat_len {α β : Type} {f : α → List β} {m : Nat} : ∀ {l : List α}, (∀ a ∈ l, (f a).length ≤ m) → (l.flatMap f).length ≤ l.length * m
  | [], _ => Nat.zero_le _
  | a :: l, h => by
    have h1 := h a List.mem_cons_self
    have h2 := flat_len (l := l) fun b hb => h b (List.mem_cons_of_mem _ hb)
    rw [List.flatMap_cons, List.length_append, List.length_cons, Nat.succ_mul]
    omega
theorem WfT.ll {Th : List Str} {T : Tbl} (w : WfT Th T) : T.L.length ≤ T.N.length * (T.N.length - 1) := by
  refine Nat.le_trans (nd_len T.L (T.N.flatMap fun a => (T.N.erase a).map fun b => [a, b]) w.ln fun p hp => ?_) (flat_len fun a ha => ?_)
  · obtain ⟨a, b, rfl, ha, hb, ne⟩ := w.lk p hp
    exact List.mem_flatMap.mpr ⟨a, ha, List.mem_map.mpr ⟨b, (List.mem_erase_of_ne (Ne.symm ne)).mpr hb, rfl⟩⟩
  · rw [List.length_map, List.length_erase_of_mem ha]
    exact Nat.le_refl _
theorem WfT.l56 {Th : List Str} {T : Tbl} (w : WfT Th T) : T.L.length ≤ 56 := by
  have := w.ll
  have h8 := w.n8
  have : T.N.length * (T.N.length - 1) ≤ 8 * 7 := Nat.mul_le_mul h8 (by omega)
  omega
theorem WfT.vl {Th : List Str} {T : Tbl} (w : WfT Th T) : T.V.length ≤ T.N.length * Th.length := by
  have h := nd_len (T.V.map (·.1)) (T.N.flatMap fun a => Th.map fun b => [a, b]) w.vn fun p hp => by
    obtain ⟨e, he, rfl⟩ := List.mem_map.mp hp
    obtain ⟨a, b, e1, ha, hb, _⟩ := w.vk e he
    rw [e1]
    exact List.mem_flatMap.mpr ⟨a, ha, List.mem_map.mpr ⟨b, hb, rfl⟩⟩
  rw [List.length_map] at h
  exact Nat.le_trans h (flat_len fun a _ => by rw [List.length_map]; exact Nat.le_refl _)
theorem WfT.v56 {Th : List Str} {T : Tbl} (w : WfT Th T) : T.V.length ≤ 56 := by
  have := w.vl
  have : T.N.length * Th.length ≤ 8 * 7 := Nat.mul_le_mul w.n8 w.t7
  omega
theorem WfT.lvl4 {Th : List Str} {T : Tbl} (w : WfT Th T) (k : List Str) : lvl T.V k < 4 := by
  by_cases h : lvl T.V k = 0
  · omega
  · obtain ⟨a, b, _, _, _, _, h4⟩ := w.vk _ (lvl_pos h)
    exact h4
theorem WfT.l2 {Th : List Str} {T : Tbl} (w : WfT Th T) {p : List Str} (hp : p ∈ T.L) : p.length = 2 := by
  obtain ⟨a, b, rfl, _⟩ := w.lk p hp
  rfl
theorem WfT.v2 {Th : List Str} {T : Tbl} (w : WfT Th T) {e : List Str × Nat} (he : e ∈ T.V) : e.1.length = 2 := by
  obtain ⟨a, b, h, _⟩ := w.vk e he
  rw [h]
  rfl
theorem WfT.sh {Th : List Str} {T : Tbl} (w : WfT Th T) : Shts T.N := fun z hz => nameB_sht (w.nm z hz)
theorem WfT.shl {Th : List Str} {T : Tbl} (w : WfT Th T) {p : List Str} (hp : p ∈ T.L) : Shts p := fun z hz => by
  obtain ⟨a, b, rfl, ha, hb, _⟩ := w.lk p hp
  rcases List.mem_cons.mp hz with rfl | hz
  · exact w.sh _ ha
  · rw [List.mem_singleton.mp hz]; exact w.sh _ hb
theorem WfT.shv {Th : List Str} {T : Tbl} (w : WfT Th T) {e : List Str × Nat} (he : e ∈ T.V) : Shts e.1 := fun z hz => by
  obtain ⟨a, b, h, ha, hb, _⟩ := w.vk e he
  rw [h] at hz
  rcases List.mem_cons.mp hz with rfl | hz
  · exact w.sh _ ha
  · rw [List.mem_singleton.mp hz]; exact nameB_sht (w.th _ hb)
/-! ### a memory of a table -/
def entR (e : List Str × Nat) : List Str × Str := (e.1, WD e.2)
structure Rel (Th : List Str) (M : Mem) (T : Tbl) : Prop where
  wf : WfT Th T
  rp : M.R.Perm T.N
  rs : sortedS M.R = true
  lp : M.L.Perm T.L
  ls : M.L.Pairwise fun a b => lexT b a = false
  wp : M.W.Perm (T.V.map entR)
theorem keysR (V : List (List Str × Nat)) : (V.map entR).map (·.1) = V.map (·.1) := by rw [List.map_map]; rfl
theorem Rel.wk {Th : List Str} {M : Mem} {T : Tbl} (x : Rel Th M T) : (M.W.map (·.1)).Perm (T.V.map (·.1)) := by
  have := x.wp.map (·.1)
  rwa [keysR] at this
theorem Rel.wn {Th : List Str} {M : Mem} {T : Tbl} (x : Rel Th M T) : (M.W.map (·.1)).Nodup := x.wk.nodup_iff.mpr x.wf.vn
theorem Rel.wl {Th : List Str} {M : Mem} {T : Tbl} (x : Rel Th M T) : M.W.length ≤ 56 := by
  have := x.wp.length_eq
  rw [List.length_map] at this
  have := x.wf.v56
  omega
theorem Rel.wfW {Th : List Str} {M : Mem} {T : Tbl} (x : Rel Th M T) : WfW M.W := ⟨x.wn, fun e he => by
  obtain ⟨u, hu, rfl⟩ := List.mem_map.mp (x.wp.mem_iff.mp he)
  exact x.wf.v2 hu, by have := x.wl; omega⟩
theorem Rel.word {Th : List Str} {M : Mem} {T : Tbl} (x : Rel Th M T) (a b : Str) : wordOf M a b = WD (lvl T.V [a, b]) := by
  unfold wordOf
  by_cases h : lvl T.V [a, b] = 0
  · have : [a, b] ∉ M.W.map (·.1) := fun z => by
      obtain ⟨e, he, e1⟩ := List.mem_map.mp (x.wk.mem_iff.mp z)
      have l := lvl_mem x.wf.vn he
      obtain ⟨_, _, _, _, _, l1, _⟩ := x.wf.vk e he
      rw [e1, h] at l
      omega
    rw [find_kn this, h]
    rfl
  · have hm : entR ([a, b], lvl T.V [a, b]) ∈ M.W := x.wp.mem_iff.mpr (List.mem_map.mpr ⟨_, lvl_pos h, rfl⟩)
    have := find_kv x.wn hm
    rw [show (entR ([a, b], lvl T.V [a, b])).1 = [a, b] from rfl] at this
    rw [this]
    rfl
theorem Rel.memSh {Th : List Str} {M : Mem} {T : Tbl} (x : Rel Th M T) : MemSh M := ⟨fun z hz => x.wf.sh z (x.rp.mem_iff.mp hz), fun p hp => x.wf.shl (x.lp.mem_iff.mp hp)⟩
/-! ### below -/
structure LeT (S T : Tbl) : Prop where
  l : ∀ p ∈ S.L, p ∈ T.L
  v : ∀ k, lvl S.V k ≤ lvl T.V k
def belowB (S T : Tbl) : Bool := (S.L.all fun p => decide (p ∈ T.L)) && S.V.all fun e => decide (e.2 ≤ lvl T.V e.1)
theorem below_iff {Th : List Str} {S T : Tbl} (w : WfT Th S) : belowB S T = true ↔ LeT S T := by
  unfold belowB
  rw [Bool.and_eq_true, List.all_eq_true, List.all_eq_true]
  constructor
  · rintro ⟨a, b⟩
    refine ⟨fun p hp => of_decide_eq_true (a p hp), fun k => ?_⟩
    by_cases h : lvl S.V k = 0
    · omega
    · exact of_decide_eq_true (b _ (lvl_pos h))
  · rintro ⟨a, b⟩
    refine ⟨fun p hp => decide_eq_true (a p hp), fun e he => decide_eq_true ?_⟩
    have := b e.1
    rwa [lvl_mem w.vn he] at this
theorem LeT.refl (T : Tbl) : LeT T T := ⟨fun _ h => h, fun _ => Nat.le_refl _⟩
/-- two tables that are below each other have the same levels -/
theorem vperm {Th : List Str} {S T : Tbl} (a : WfT Th S) (b : WfT Th T) (h : ∀ k, lvl S.V k = lvl T.V k) : S.V.Perm T.V := by
  have one : ∀ {S T : Tbl}, WfT Th S → WfT Th T → (∀ k, lvl S.V k = lvl T.V k) → ∀ e ∈ S.V, e ∈ T.V := fun {S T} a b h e he => by
    have l := lvl_mem a.vn he
    obtain ⟨_, _, _, _, _, l1, _⟩ := a.vk e he
    have p := lvl_pos (V := T.V) (k := e.1) (by rw [← h, l]; omega)
    rw [← h, l] at p
    exact p
  refine (List.perm_ext_iff_of_nodup ?_ ?_).mpr fun e => ⟨one a b h e, one b a (fun k => (h k).symm) e⟩
  · exact nd_of_map (f := Prod.fst) a.vn
  · exact nd_of_map (f := Prod.fst) b.vn
theorem Rel.sameM {Th : List Str} {M N : Mem} {S T : Tbl} (x : Rel Th M S) (y : Rel Th N T) (hn : S.N.Perm T.N) : SameM M N ↔ LeT S T ∧ LeT T S := by
  constructor
  · intro s
    have sub : ∀ e ∈ M.W, e ∈ N.W := fun e he => by
      have z := s.w e he
      obtain ⟨u, hu, hz⟩ := Option.map_eq_some_iff.mp z
      have hk := of_decide_eq_true (List.find?_some (p := fun u : List Str × Str => decide (u.1 = e.1)) hu)
      have := List.mem_of_find?_eq_some hu
      have e1 : u = e := Prod.ext hk hz
      rwa [e1] at this
    have pm : M.W.Perm N.W := nd_perm M.W N.W (nd_of_map (f := Prod.fst) x.wn) sub (by rw [s.n]; exact Nat.le_refl _)
    have pv : (S.V.map entR).Perm (T.V.map entR) := x.wp.symm.trans (pm.trans y.wp)
    have lv : ∀ k, lvl S.V k = lvl T.V k := fun k => by
      have one : ∀ {S T : Tbl}, WfT Th S → WfT Th T → (S.V.map entR).Perm (T.V.map entR) → lvl S.V k ≠ 0 → lvl T.V k = lvl S.V k := fun {S T} a b pv h => by
        have hm := lvl_pos h
        obtain ⟨u, hu, eu⟩ := List.mem_map.mp (pv.mem_iff.mp (List.mem_map.mpr ⟨_, hm, rfl⟩))
        have e1 : u.1 = k := congrArg Prod.fst eu
        have e2 : WD u.2 = WD (lvl S.V k) := congrArg Prod.snd eu
        obtain ⟨_, _, _, _, _, _, u4⟩ := b.vk u hu
        have := wd_inj u4 (a.lvl4 k) e2
        rw [← e1, lvl_mem b.vn hu, this, e1]
      by_cases h : lvl S.V k = 0
      · by_cases h' : lvl T.V k = 0
        · rw [h, h']
        · exact one y.wf x.wf pv.symm h'
      · exact (one x.wf y.wf pv h).symm
    have ll : ∀ p, p ∈ S.L ↔ p ∈ T.L := fun p => by rw [← x.lp.mem_iff, ← y.lp.mem_iff, s.l]
    exact ⟨⟨fun p hp => (ll p).mp hp, fun k => Nat.le_of_eq (lv k)⟩, ⟨fun p hp => (ll p).mpr hp, fun k => Nat.le_of_eq (lv k).symm⟩⟩
  · rintro ⟨a, b⟩
    have pv : S.V.Perm T.V := vperm x.wf y.wf fun k => Nat.le_antisymm (a.v k) (b.v k)
    have pl : S.L.Perm T.L := (List.perm_ext_iff_of_nodup x.wf.ln y.wf.ln).mpr fun p => ⟨a.l p, b.l p⟩
    have pw : M.W.Perm N.W := x.wp.trans ((pv.map entR).trans y.wp.symm)
    refine ⟨sorted_uniq x.rs y.rs (x.rp.trans (hn.trans y.rp.symm)), sortT_uniq x.ls y.ls (x.lp.trans (pl.trans y.lp.symm)), pw.length_eq, fun e he => ?_⟩
    rw [find_kv y.wn (pw.mem_iff.mp he)]
    rfl
/-! ### the join -/
def putL : List (List Str × Nat) → List Str → Nat → List (List Str × Nat)
  | [], k, n => [(k, n)]
  | e :: r, k, n => if e.1 = k then (e.1, n) :: r else e :: putL r k n
theorem putL_keys (V : List (List Str × Nat)) (k : List Str) (n : Nat) : (putL V k n).map (·.1) = if k ∈ V.map (·.1) then V.map (·.1) else V.map (·.1) ++ [k] := by
  induction V with
  | nil => rfl
  | cons e r ih =>
    unfold putL
    by_cases h : e.1 = k
    · rw [if_pos h, List.map_cons, List.map_cons, if_pos (List.mem_cons.mpr (.inl h.symm))]
    · rw [if_neg h, List.map_cons, ih, List.map_cons]
      by_cases h' : k ∈ r.map (·.1)
      · rw [if_pos h', if_pos (List.mem_cons_of_mem _ h')]
      · rw [if_neg h', if_neg (fun z => (List.mem_cons.mp z).elim (fun q => h q.symm) h')]
        rfl
theorem putL_nd {V : List (List Str × Nat)} (nd : (V.map (·.1)).Nodup) (k : List Str) (n : Nat) : ((putL V k n).map (·.1)).Nodup := by
  rw [putL_keys]
  by_cases h : k ∈ V.map (·.1)
  · rw [if_pos h]; exact nd
  · rw [if_neg h]
    exact List.nodup_append.mpr ⟨nd, List.pairwise_singleton _ k, fun a ha b hb e => h (by rw [← List.mem_singleton.mp hb, ← e]; exact ha)⟩
theorem putL_mem {V : List (List Str × Nat)} (nd : (V.map (·.1)).Nodup) {k : List Str} {n : Nat} {e : List Str × Nat} : e ∈ putL V k n ↔ (e ∈ V ∧ e.1 ≠ k) ∨ e = (k, n) := by
  induction V with
  | nil => simp [putL]
  | cons u r ih =>
    rw [List.map_cons, List.nodup_cons] at nd
    unfold putL
    by_cases h : u.1 = k
    · rw [if_pos h, h, List.mem_cons]
      constructor
      · rintro (z | z)
        · exact .inr z
        · exact .inl ⟨List.mem_cons_of_mem _ z, fun q => nd.1 (by rw [h, ← q]; exact List.mem_map.mpr ⟨e, z, rfl⟩)⟩
      · rintro (⟨z, q⟩ | z)
        · rcases List.mem_cons.mp z with z | z
          · exact absurd (z ▸ h) q
          · exact .inr z
        · exact .inl z
    · rw [if_neg h, List.mem_cons, ih nd.2, List.mem_cons]
      constructor
      · rintro (z | ⟨z, q⟩ | z)
        · exact .inl ⟨.inl z, z ▸ h⟩
        · exact .inl ⟨.inr z, q⟩
        · exact .inr z
      · rintro (⟨z | z, q⟩ | z)
        · exact .inl z
        · exact .inr (.inl ⟨z, q⟩)
        · exact .inr (.inr z)
theorem putL_lvl (V : List (List Str × Nat)) (k : List Str) (n : Nat) (j : List Str) : lvl (putL V k n) j = if j = k then n else lvl V j := by
  induction V with
  | nil =>
    unfold putL lvl
    rw [List.find?_cons]
    by_cases h : j = k
    · rw [if_pos h, decide_eq_true h.symm]; rfl
    · rw [if_neg h, decide_eq_false (fun z => h z.symm)]
  | cons e r ih =>
    unfold putL
    by_cases h : e.1 = k
    · rw [if_pos h]
      unfold lvl
      rw [List.find?_cons, List.find?_cons]
      by_cases h' : e.1 = j
      · rw [decide_eq_true h', if_pos (h'.symm.trans h)]; rfl
      · rw [decide_eq_false h', if_neg (fun z => h' (h.trans z.symm))]
    · rw [if_neg h]
      unfold lvl at ih ⊢
      rw [List.find?_cons, List.find?_cons]
      by_cases h' : e.1 = j
      · rw [decide_eq_true h', if_neg (fun z => h (h'.trans z))]
      · rw [decide_eq_false h']; exact ih
def joinV (A B : List (List Str × Nat)) : List (List Str × Nat) := B.foldl (fun acc e => if e.2 > lvl acc e.1 then putL acc e.1 e.2 else acc) A
def joinT (S T : Tbl) : Tbl := ⟨S.N, S.L ++ T.L.filter fun p => decide (p ∉ S.L), joinV S.V T.V⟩
theorem joinV_nd {A : List (List Str × Nat)} (nd : (A.map (·.1)).Nodup) (B : List (List Str × Nat)) : ((joinV A B).map (·.1)).Nodup := by
  unfold joinV
  induction B generalizing A with
  | nil => exact nd
  | cons e r ih =>
    rw [List.foldl_cons]
    refine ih ?_
    split
    · exact putL_nd nd _ _
    · exact nd
theorem joinV_mem {A : List (List Str × Nat)} (nd : (A.map (·.1)).Nodup) (B : List (List Str × Nat)) {e : List Str × Nat} (h : e ∈ joinV A B) : e ∈ A ∨ e ∈ B := by
  unfold joinV at h
  induction B generalizing A with
  | nil => exact .inl h
  | cons u r ih =>
    rw [List.foldl_cons] at h
    by_cases c : u.2 > lvl A u.1
    · rw [if_pos c] at h
      rcases ih (putL_nd nd _ _) h with z | z
      · rcases (putL_mem nd).mp z with ⟨z, _⟩ | z
        · exact .inl z
        · exact .inr (by rw [z]; exact List.mem_cons_self)
      · exact .inr (List.mem_cons_of_mem _ z)
    · rw [if_neg c] at h
      rcases ih nd h with z | z
      · exact .inl z
      · exact .inr (List.mem_cons_of_mem _ z)
theorem joinV_lvl (A : List (List Str × Nat)) {B : List (List Str × Nat)} (nb : (B.map (·.1)).Nodup) (k : List Str) : lvl (joinV A B) k = max (lvl A k) (lvl B k) := by
  unfold joinV
  induction B generalizing A with
  | nil => show lvl A k = max (lvl A k) 0; rw [Nat.max_zero]
  | cons u r ih =>
    rw [List.map_cons, List.nodup_cons] at nb
    rw [List.foldl_cons, ih _ nb.2]
    have e1 : lvl (if u.2 > lvl A u.1 then putL A u.1 u.2 else A) k = if k = u.1 then max (lvl A k) u.2 else lvl A k := by
      by_cases c : u.2 > lvl A u.1
      · rw [if_pos c, putL_lvl]
        by_cases h : k = u.1
        · rw [if_pos h, if_pos h, h, Nat.max_eq_right (by omega)]
        · rw [if_neg h, if_neg h]
      · rw [if_neg c]
        by_cases h : k = u.1
        · rw [if_pos h, h, Nat.max_eq_left (by omega)]
        · rw [if_neg h]
    rw [e1]
    have e2 : lvl (u :: r) k = if k = u.1 then u.2 else lvl r k := by
      unfold lvl
      rw [List.find?_cons]
      by_cases h : k = u.1
      · rw [if_pos h, decide_eq_true h.symm]; rfl
      · rw [if_neg h, decide_eq_false (fun z => h z.symm)]
    rw [e2]
    by_cases h : k = u.1
    · have : lvl r k = 0 := lvl_no (by rw [h]; exact nb.1)
      rw [if_pos h, if_pos h, this, Nat.max_zero]
    · rw [if_neg h, if_neg h]
theorem WfT.join {Th : List Str} {S T : Tbl} (a : WfT Th S) (b : WfT Th T) (hn : ∀ z, z ∈ T.N → z ∈ S.N) : WfT Th (joinT S T) := by
  refine ⟨a.nd, a.nm, a.n8, ?_, fun p hp => ?_, joinV_nd a.vn _, fun e he => ?_, a.th, a.t7⟩
  · refine List.nodup_append.mpr ⟨a.ln, b.ln.filter _, fun x hx y hy e => ?_⟩
    have := of_decide_eq_true (List.mem_filter.mp hy).2
    exact this (e ▸ hx)
  · rcases List.mem_append.mp hp with h | h
    · exact a.lk p h
    · obtain ⟨x, y, e, hx, hy, ne⟩ := b.lk p (List.mem_filter.mp h).1
      exact ⟨x, y, e, hn x hx, hn y hy, ne⟩
  · rcases joinV_mem a.vn _ he with h | h
    · exact a.vk e h
    · obtain ⟨x, y, e1, hx, r⟩ := b.vk e h
      exact ⟨x, y, e1, hn x hx, r⟩
theorem join_L {S T : Tbl} (p : List Str) : p ∈ (joinT S T).L ↔ p ∈ S.L ∨ p ∈ T.L := by
  show p ∈ S.L ++ T.L.filter (fun p => decide (p ∉ S.L)) ↔ _
  rw [List.mem_append, List.mem_filter, decide_eq_true_iff]
  constructor
  · rintro (h | ⟨h, _⟩)
    · exact .inl h
    · exact .inr h
  · intro h
    by_cases c : p ∈ S.L
    · exact .inl c
    · exact h.imp id fun z => ⟨z, c⟩
theorem LeT.join1 {Th : List Str} {S T : Tbl} (b : WfT Th T) : LeT S (joinT S T) := ⟨fun p h => (join_L p).mpr (.inl h), fun k => by
  show _ ≤ lvl (joinV S.V T.V) k
  rw [joinV_lvl _ b.vn]
  exact Nat.le_max_left _ _⟩
theorem LeT.join2 {Th : List Str} {S T : Tbl} (b : WfT Th T) : LeT T (joinT S T) := ⟨fun p h => (join_L p).mpr (.inr h), fun k => by
  show _ ≤ lvl (joinV S.V T.V) k
  rw [joinV_lvl _ b.vn]
  exact Nat.le_max_right _ _⟩
theorem LeT.joinLe {Th : List Str} {S T U : Tbl} (b : WfT Th T) (x : LeT S U) (y : LeT T U) : LeT (joinT S T) U := ⟨fun p h => ((join_L p).mp h).elim (x.l p) (y.l p), fun k => by
  show lvl (joinV S.V T.V) k ≤ _
  rw [joinV_lvl _ b.vn]
  exact Nat.max_le.mpr ⟨x.v k, y.v k⟩⟩
end Kx

namespace Kx
open PySem PySem.Spec PyProof.Rows L2 NdefX Kr Ke Kn Kz Ky
/-! ### marks: <=, |, strongest -/
def gLe (r s : Nat) : Bool := decide ((r : Int) ≤ (s : Int))
def spOr (C : Addr) : Sp := fun vs H Q _ => ∃ (a b : Addr) (r s : Nat), vs = [.ref a, .ref b] ∧ MkAt C H a r ∧ MkAt C H b s ∧ Q (.ref (if r < s then b else a)) H
abbrev s_le : Stmt := inClass (topS 23) 4
abbrev N_le : List Str := ["self", "other"]
theorem sc_le : FnScope N_le ["self", "other"] (defScope s_le) := ⟨rfl, rfl, rfl, by decide +kernel, rfl, by decide +kernel, by decide +kernel⟩
abbrev s_or : Stmt := inClass (topS 23) 5
abbrev N_or : List Str := ["self", "other"]
theorem sc_or : FnScope N_or ["self", "other"] (defScope s_or) := ⟨rfl, rfl, rfl, by decide +kernel, rfl, by decide +kernel, by decide +kernel⟩
section
variable {P : Program} {w : World} {K : PySem.W.Frag} {mg : Str → Option Value} {base : Heap} {C wa : Addr} {mc : Value}
theorem ok_le {f : Addr} {fd : FuncData} (F : Fun K "__le__" "Mark.__le__" s_le f fd) (T : TxM K mg C wa mc) : FnOk P w K mg base CX0 1 f fd ["self", "other"] (spCmp C gLe) := by
  refine F.ok sc_le (fun vs H Q E h => ?_) (fun cdv A outer s H vs Q E hr h => ?_)
  · obtain ⟨a, b, r, s, rfl, _⟩ := h
    rfl
  · obtain ⟨a, b, r, s, rfl, ⟨hr4, dx, ha⟩, ⟨hs4, dy, hb⟩, q⟩ := h
    refine ⟨_, (pss_cons (ps_if (pt_not (pt_val (pe_callB (C8.call_isC T.ins) (by rfl) T.m_isinstance (by decide +kernel) (pa_cons (pv 1) (pa_cons (pe_glob (v := .ref C) (by rfl) T.gC rfl) pa_nil))))) (pss_one ps_never) pss_nil)
      (pss_one (ps_ret (pe_cmpR op_le (pe_fld (pv 0) rfl) (pe_fld (pv 1) rfl) (nomark _))))), ?_⟩
    refine ⟨_, rfl, b, dy, _, rfl, hb, _, rfl, iteF ?_⟩
    exact ⟨_, rfl, a, C, dx, _, _, rfl, ha, T.ins.cl, T.nS, mf_strength r, _, rfl, b, C, dy, _, _, rfl, hb, T.ins.cl, T.nS, mf_strength s, _, _, rfl, rfl, q⟩
theorem ok_or {f : Addr} {fd : FuncData} (F : Fun K "__or__" "Mark.__or__" s_or f fd) (T : TxM K mg C wa mc) : FnOk P w K mg base CX0 1 f fd ["self", "other"] (spOr C) := by
  refine F.ok sc_or (fun vs H Q E h => ?_) (fun cdv A outer s H vs Q E hr h => ?_)
  · obtain ⟨a, b, r, s, rfl, _⟩ := h
    rfl
  · obtain ⟨a, b, r, s, rfl, ⟨hr4, dx, ha⟩, ⟨hs4, dy, hb⟩, q⟩ := h
    refine ⟨_, (pss_cons (ps_if (pt_not (pt_val (pe_callB (C8.call_isC T.ins) (by rfl) T.m_isinstance (by decide +kernel) (pa_cons (pv 1) (pa_cons (pe_glob (v := .ref C) (by rfl) T.gC rfl) pa_nil))))) (pss_one ps_never) pss_nil)
      (pss_cons (ps_if (pt_cmpR op_lt (pe_fld (pv 0) rfl) (pe_fld (pv 1) rfl) (nomark _)) (pss_one (ps_ret (pv 1))) pss_nil)
      (pss_one (ps_ret (pv 0))))), ?_⟩
    refine ⟨_, rfl, b, dy, _, rfl, hb, _, rfl, iteF ?_⟩
    refine ⟨_, rfl, a, C, dx, _, _, rfl, ha, T.ins.cl, T.nS, mf_strength r, _, rfl, b, C, dy, _, _, rfl, hb, T.ins.cl, T.nS, mf_strength s, _, _, rfl, rfl, _, rfl, iteB (fun h1 => ?_) (fun h1 => ?_)⟩
    · have h1' : r < s := by have := of_decide_eq_true h1; omega
      rw [if_pos h1'] at q
      exact ⟨_, rfl, q⟩
    · have h1' : ¬ r < s := by have := of_decide_eq_false h1; omega
      rw [if_neg h1'] at q
      exact ⟨_, rfl, q⟩
end
section
variable {X : Cx} {C : Addr}
def rMkOr (C : Addr) : R2 := fun x y H Q => ∃ a b r s, x = .ref a ∧ y = .ref b ∧ MkAt C H a r ∧ MkAt C H b s ∧ Q (.ref (if r < s then b else a)) H
theorem op_mkOr (O : OpC X.prog X.w X.K X.mg X.base C "__or__" (spOr C)) (hr : Room 1 X.A) : OpR X (binaryOp .BitOr) (rMkOr C) := by
  obtain ⟨f, fd, F, hb, hs, hf⟩ := O.ex
  intro pins s σ H x y v u Q I rx ry h
  obtain ⟨a, b, r, t, rfl, rfl, ha, hb', q⟩ := h
  obtain ⟨_, dx, ea⟩ := id ha
  obtain ⟨_, dy, eb⟩ := id hb'
  exact op_ownB (X := X) (E := E0) (op := .BitOr) F hs hf O.sf hb pass0 hr pins s σ H _ _ v u Q I rx ry ⟨a, b, dx, dy, _, _, rfl, rfl, ea, eb, a, b, r, t, rfl, ha, hb', q⟩
end
def Mks (C : Addr) (H : Hp) : List V → List Nat → Prop := Paired fun v r => ∃ a, v = .ref a ∧ MkAt C H a r
theorem Mks.same {C : Addr} {H H' : Hp} (s : Same H H') : ∀ {vs : List V} {rs : List Nat}, Mks C H vs rs → Mks C H' vs rs
  | _, _, .nil => .nil
  | _, _, .cons ⟨a, e, m⟩ t => .cons ⟨a, e, m.same s⟩ (Mks.same s t)
theorem Mks.len {C : Addr} {H : Hp} {vs : List V} {rs : List Nat} (h : Mks C H vs rs) : vs.length = rs.length := Paired.length h
theorem Mks.get {C : Addr} {H : Hp} : ∀ {vs : List V} {rs : List Nat} {i : Nat} {v : V}, Mks C H vs rs → vs[i]? = some v → ∃ r a, rs[i]? = some r ∧ v = .ref a ∧ MkAt C H a r
  | _, _, _, _, .nil, e => by simp at e
  | _, _, 0, v, .cons (b := r) ⟨a, ea, m⟩ _, e => ⟨r, a, rfl, (Option.some.inj e).symm.trans ea, m⟩
  | _, _, i + 1, v, .cons _ t, e => by
    obtain ⟨r, a, h1, h2⟩ := Mks.get (i := i) (v := v) t (by simpa using e)
    exact ⟨r, a, by simpa using h1, h2⟩
def mx (rs : List Nat) : Nat := rs.foldl max 0
theorem mx_take {rs : List Nat} {i r : Nat} (h : rs[i]? = some r) : mx (rs.take (i + 1)) = max (mx (rs.take i)) r := by
  unfold mx
  rw [List.take_add_one, h, List.foldl_append]
  rfl
theorem if_max (r s : Nat) {C a b : Addr} {H : Hp} (ha : MkAt C H a r) (hb : MkAt C H b s) : MkAt C H (if r < s then b else a) (max r s) := by
  by_cases h : r < s
  · rw [if_pos h, Nat.max_eq_right (Nat.le_of_lt h)]
    exact hb
  · rw [if_neg h, Nat.max_eq_left (by omega)]
    exact ha
def spStrong (C : Addr) : Sp := fun vs H Q _ => ∃ (p : Addr) (xs : List V) (rs : List Nat), vs = [.ref p] ∧ H p = some (.tup xs) ∧ Mks C H xs rs ∧ ∀ H' q, Same H H' → MkAt C H' q (mx rs) → Q (.ref q) H'
abbrev s_strongest : Stmt := topS 24
abbrev N_strongest : List Str := ["marks", "found", "mark"]
theorem sc_strongest : FnScope N_strongest (([] : List Str) ++ [("marks" : Str)]) (defScope s_strongest) := ⟨rfl, rfl, rfl, by decide +kernel, rfl, by decide +kernel, by decide +kernel⟩
/-- strongest as its callers see it -/
def spStrV (C : Addr) : Sp := fun vs H Q _ => ∃ rs : List Nat, Mks C H vs rs ∧ vs.length ≤ 100 ∧ ∀ H' q, Same H H' → MkAt C H' q (mx rs) → Q (.ref q) H'
section
variable {P : Program} {w : World} {K : PySem.W.Frag} {mg : Str → Option Value} {base : Heap} {C wa : Addr} {mc : Value}
theorem ok_strongest {f : Addr} {fd : FuncData} (F : Fun K "strongest" "strongest" s_strongest f fd) (T : TxM K mg C wa mc) (M : MkC P w K mg base C 1) (O : OpC P w K mg base C "__or__" (spOr C))
    (hb : ∀ rest : List Value, bindArgs fd ⟨rest, []⟩ = (newTuple rest >>= fun t => pure [(("marks" : Str), t)])) : FnR P w K mg base CX0 5 f (spStrV C) := by
  obtain ⟨oc, od, kV, doc, pm, an, cdv, ct, osl, rfl, lk, hcd⟩ := F.ex
  have G := StX.fn_star (CX := CX0) (P := P) (w := w) (mg := mg) (base := base) (k := 4) (ps := []) (pv := "marks") (N := N_strongest) (sp := spStrong C) lk hcd sc_strongest StX.cxUp_none (fun us rest hl => by
      cases us with
      | nil => exact hb rest
      | cons u r => simp at hl) (fun A outer s H vs Q E hr h => ?_)
  · refine G.imp fun vs H Q E h => ?_
    obtain ⟨rs, hm, hl, q⟩ := h
    refine ⟨[], vs, rfl, rfl, sz9 (by omega), fun p np => ⟨p, vs, rs, rfl, upd_same, hm.same (same_upd np), fun H' q' s' m' => q H' q' ((same_upd np).trans s') m'⟩⟩
  · obtain ⟨p, xs, rs, rfl, ep, hm, q⟩ := h
    refine ⟨_, PSs.nox (pss_cons (ps_set (i := 1) sc_strongest.nd rfl (Or.inl rfl) (pe_mkV M (hr.mono (by decide)) (by rfl) pe_str))
      (pss_cons (ps_for PassesOwn.never rfl (pi_tup (pv 0)) (pg_name (i := 2) sc_strongest.nd rfl (Or.inl rfl))
        (pss_one (ps_set (i := 1) sc_strongest.nd rfl (Or.inl rfl) (pe_op (op_mkOr O (hr.mono (by decide))) (pv 1) (pv 2)))))
      (pss_one (ps_ret (pv 1))))), ?_⟩
    refine ⟨0, by decide, rfl, fun x H1 nx sm hx => ?_⟩
    have ep1 : H1 p = some (.tup xs) := sm _ _ ep
    refine ⟨_, rfl, p, rfl, ⟨_, .inl (.inl ep1)⟩, ?_⟩
    refine for_tup (xs := xs) (fun i σ H2 => ∃ (y : Addr) (x2 : Option V), σ = [some (.ref p), some (.ref y), x2] ∧ H2 = H1 ∧ MkAt C H1 y (mx (rs.take i)))
      ⟨x, none, rfl, rfl, hx⟩ (fun i σ H2 _ ⟨_, _, _, e, _⟩ => e ▸ .inl (.inl ep1)) ?_ ?_
    · rintro i v σ H2 hv ⟨y, x2, rfl, rfl, hy⟩
      obtain ⟨r, a, hr', rfl, ha⟩ := (hm.same sm).get hv
      refine ⟨_, rfl, _, rfl, y, a, _, r, rfl, rfl, hy, ha, ?_⟩
      exact ⟨_, _, rfl, rfl, by rw [mx_take hr']; exact if_max _ _ hy ha⟩
    · rintro σ H2 ⟨y, x2, rfl, rfl, hy⟩
      rw [List.take_of_length_le (by rw [← hm.len]; exact Nat.le_refl _)] at hy
      exact ⟨_, rfl, q H2 y sm hy⟩
end
section
variable {X : Cx} {C : Addr} {k f : Nat} {e : Expr} {es : List Expr} {t : TA} {p pos : Pos}
structure StC (P : Program) (w : World) (K : PySem.W.Frag) (mg : Str → Option Value) (base : Heap) (C : Addr) (k : Nat) : Prop where
  ex : ∃ f, FnR P w K mg base CX0 k f (spStrV C) ∧ mg "strongest" = some (.ref f) ∧ PySem.W.keepIn K (.ref f) = true
theorem pe_strong (S : StC X.prog X.w X.K X.mg X.base C k) (hr : Room k X.A) (hg : Gl X "strongest") (ha : PA X (e :: es) t)
    (he : starEach (e :: es) X.env = (false, eval e X.env) :: starEach es X.env := by rfl) (hpl : (backTo pos (starEach es X.env)).any (·.1) = false := by rfl) : PE X (.Call (.Name "strongest" p) (e :: es) [] pos) (fun σ H Q => t σ H fun vs H1 => spStrV C vs H1 Q E0) := by
  obtain ⟨f, F, hm, hk⟩ := S.ex
  refine ⟨fun pins s σ H Q I h => ?_⟩
  refine wpAny_Call_Name_kw (ld_glob I hg hm ?_)
  refine PySem.W.callWith_K (h₀ := X.base) I.ok.mod.kin hk (thn (ha.run pos pins s σ H _ I h) fun us s1 ⟨vs, H1, I1, rv, q⟩ => ⟨I1.kIn, ?_⟩) he hpl
  exact wpAny_call (run_fnR F hr pass0 I1 rv q)
theorem pe_strong0 (S : StC X.prog X.w X.K X.mg X.base C k) (hr : Room k X.A) (hg : Gl X "strongest") : PE X (.Call (.Name "strongest" p) [] [] pos) (fun σ H Q => spStrV C [] H Q E0) := by
  obtain ⟨f, F, hm, hk⟩ := S.ex
  refine ⟨fun pins s σ H Q I h => ?_⟩
  refine wpAny_Call_Name_kw (ld_glob I hg hm ?_)
  exact PySem.W.callWith_K0 I.kIn hk (wpAny_call (run_fnR (us := []) F hr pass0 I .nil h))
end
end Kx

namespace Kx
open PySem PySem.Spec PyProof.Rows L2 NdefX Kr Ke Kn Kz Ky
/-! ### a memory whose dict may be locked -/
theorem rd_same {H H' : Hp} {a : Addr} {u : HO} (h : Rd H a u) (s : Same H H') : Rd H' a u := h.elim (fun e => .inl (s _ _ e)) fun ⟨o, e⟩ => .inr ⟨o, s _ _ e⟩
theorem dget_r {H : Hp} {a b : Addr} {kvs : List (List Key × V)} {k : List Key} (e : Rd H a (.dT kvs)) (eb : H b = some (.tup (k.map kV))) : DGet H a (.ref b) (valV kvs k) := .inr ⟨kvs, k, b, e, rfl, eb, rfl⟩
/-- what stands while the dict at d is locked -/
structure Lk (H H' : Hp) (d : Addr) : Prop where
  o : ∀ a v, H a = some v → (∀ kvs, v ≠ .dT kvs) → H' a = some v
  r : ∀ a kvs, Rd H a (.dT kvs) → Rd H' a (.dT kvs)
theorem Lk.of {H : Hp} {d : Addr} {kvs : List (List Key × V)} (od : Obj) (hd : H d = some (.dT kvs)) : Lk H (upd H d (.frz od (.dT kvs))) d := by
  refine ⟨fun a v h n => ?_, fun a ks h => ?_⟩
  · have : a ≠ d := fun e => by rw [e, hd] at h; exact n _ (Option.some.inj h).symm
    rw [upd_ne this]
    exact h
  · by_cases e : a = d
    · subst e
      rcases h with h | ⟨o, h⟩
      · rw [hd] at h
        injection h with h
        injection h with h
        rw [← h]
        exact .inr ⟨od, upd_same⟩
      · rw [hd] at h
        cases h
    · rcases h with h | ⟨o, h⟩
      · exact .inl ((upd_ne e).trans h)
      · exact .inr ⟨o, (upd_ne e).trans h⟩
theorem Lk.sqL {K : PySem.W.Frag} {H H' : Hp} {d a : Addr} {xs : List V} (l : Lk H H' d) (h : SqL K H a xs) : SqL K H' a xs := by
  rcases h with (h | ⟨o, h⟩) | h
  · exact .inl (.inl (l.o _ _ h fun _ z => nomatch z))
  · exact .inl (.inr ⟨o, l.o _ _ h fun _ z => nomatch z⟩)
  · exact .inr h
theorem Lk.sqT {K : PySem.W.Frag} {H H' : Hp} {d a : Addr} {xs : List V} (l : Lk H H' d) (h : SqT K H a xs) : SqT K H' a xs := by
  rcases h with (h | ⟨o, h⟩) | h
  · exact .inl (.inl (l.o _ _ h fun _ z => nomatch z))
  · exact .inl (.inr ⟨o, l.o _ _ h fun _ z => nomatch z⟩)
  · exact .inr h
/-- a memory, its dict to be read -/
structure MemR (K : PySem.W.Frag) (C : Addr) (H : Hp) (p : Addr) (M : Mem) : Prop where
  ex : ∃ (dx lr ll lw : Addr) (kl : List (Addr × List Str)), H p = some (.ins C dx (memF lr ll lw)) ∧ H lr = some (.lst (M.R.map V.str)) ∧ H ll = some (.lst (kl.map fun q => V.ref q.1)) ∧ kl.map (·.2) = M.L ∧
    (∀ q ∈ kl, q.2.length = 2 ∧ SqT K H q.1 (q.2.map V.str)) ∧ Rd H lw (.dT (M.W.map entW))
theorem MemAt.r {K : PySem.W.Frag} {C p : Addr} {H : Hp} {M : Mem} (m : MemAt K C H p M) : MemR K C H p M := by
  obtain ⟨dx, lr, ll, lw, kl, a, b, c, d, e, f⟩ := m.ex
  exact ⟨dx, lr, ll, lw, kl, a, b, c, d, e, .inl f⟩
theorem MemR.same {K : PySem.W.Frag} {C p : Addr} {H H' : Hp} {M : Mem} (m : MemR K C H p M) (s : Same H H') : MemR K C H' p M := by
  obtain ⟨dx, lr, ll, lw, kl, a, b, c, d, e, f⟩ := m.ex
  exact ⟨dx, lr, ll, lw, kl, s _ _ a, s _ _ b, s _ _ c, d, fun q hq => ⟨(e q hq).1, Same.tupS s (e q hq).2⟩, rd_same f s⟩
theorem MemR.lock {K : PySem.W.Frag} {C p d : Addr} {H H' : Hp} {M : Mem} (m : MemR K C H p M) (l : Lk H H' d) : MemR K C H' p M := by
  obtain ⟨dx, lr, ll, lw, kl, a, b, c, dd, e, f⟩ := m.ex
  exact ⟨dx, lr, ll, lw, kl, l.o _ _ a (fun _ z => nomatch z), l.o _ _ b (fun _ z => nomatch z), l.o _ _ c (fun _ z => nomatch z), dd, fun q hq => ⟨(e q hq).1, l.sqT (e q hq).2⟩, l.r _ _ f⟩
def spWordR (K : PySem.W.Frag) (C : Addr) : Sp := fun vs H Q _ => ∃ (p : Addr) (M : Mem) (a b : Str), vs = [.ref p, .str a, .str b] ∧ MemR K C H p M ∧ ∀ H', Same H H' → Q (.str (wordOf M a b)) H'
def spMarkR (K : PySem.W.Frag) (C Cm CN : Addr) : Sp := fun vs H Q E => ∃ (p : Addr) (M : Mem) (a b : Str), vs = [.ref p, .str a, .str b] ∧ MemR K C H p M ∧
  (a ∈ M.R → ∃ r, r < 4 ∧ wordOf M a b = WD r ∧ ∀ x H', H x = none → Same H H' → MkAt Cm H' x r → Q (.ref x) H') ∧
  (a ∉ M.R → (reprText a).length ≤ 100000 ∧ ∀ d H', H d = none → Same H H' → H' d = some (.xd [("program", .str a)]) → E (.ref CN) (some d) H')
theorem memF_no {lr ll lw : Addr} {m : Str} (h1 : ¬ (m = "_running")) (h2 : ¬ (m = "_leads")) (h3 : ¬ (m = "_words")) : (memF lr ll lw).lookup m = none := by
  unfold memF
  rw [lookup_putF, if_neg h3, lookup_putF, if_neg h2, lookup_putF, if_neg h1]
  rfl
section
variable {P : Program} {w : World} {K : PySem.W.Frag} {mg : Str → Option Value} {base : Heap} {ka C CI Cm wa : Addr} {mc : Value}
theorem ok_memWordR {f : Addr} {fd : FuncData} (F : Fun K "_word" "Memory._word" s_memWord f fd) (T : TxA K mg ka C CI) : FnOk P w K mg base CX0 1 f fd ["self", "program", "thing"] (spWordR K C) := by
  refine F.ok sc_memWord (fun vs H Q E h => ?_) (fun cdv A outer s H vs Q E hr h => ?_)
  · obtain ⟨p, M, a, b, rfl, _⟩ := h
    rfl
  · obtain ⟨p, M, a, b, rfl, m, q⟩ := h
    obtain ⟨dx, lr, ll, lw, kl, hp, er, el, e1, e2, ew⟩ := m.ex
    refine ⟨_, (pss_one (ps_ret (pe_dget2 (hu_of hr) (pe_fld (pv 0) rfl) (pe_tup (pa_cons (pv 1) (pa_cons (pv 2) pa_nil))) pe_str ⟨by rfl, by rfl, by rfl, by rfl⟩))), ?_⟩
    refine ⟨_, rfl, p, C, dx, _, _, rfl, hp, T.insM.cl, T.nWo, memF_W lr ll lw, lw, rfl, .inr ⟨_, ew⟩, ?_⟩
    refine ⟨_, rfl, _, rfl, by show 2 ≤ sizeLine; decide, fun t nt => ?_⟩
    have s1 : Same H (upd H t (.tup [.str a, .str b])) := same_upd nt
    refine ⟨_, dget_r (k := [a, b].map Sum.inr) (rd_same ew s1) upd_same, ?_⟩
    have e : (valV (M.W.map entW) ([a, b].map (Sum.inr : Str → Key))).getD (V.str wNone) = V.str (wordOf M a b) := by
      rw [val_ent]
      unfold wordOf
      cases M.W.find? fun e => decide (e.1 = [a, b]) <;> rfl
    have q1 := q _ s1
    rw [← e] at q1
    exact q1
theorem ok_memMarkR {f CN fN : Addr} {fd fdN : FuncData} (F : Fun K "mark" "Memory.mark" s_memMark f fd) (T : TxA K mg ka C CI) (M1 : MkC P w K mg base Cm 1) (W1 : MtC CX0 P w K mg base C "_word" 1 (spWordR K C))
    (gN : mg "NotRunning" = some (.ref CN)) (sN : SupC K CN) (iN : PySem.W.findIn K (.ref CN) "__init__" = some (some (.ref fN))) (tN : PySem.W.typeIn K (.ref fN) = some (.type "function"))
    (FN : FnOk P w K mg base CX0 1 fN fdN ["self", "program"] (spErr1 CN "program" 100000)) (bN : Binds K fdN ["self", "program"] []) :
    FnOk P w K mg base (L2.CX P w) 4 f fd ["self", "program", "thing"] (spMarkR K C Cm CN) := by
  refine F.okX sc_memMark (fun vs H Q E h => ?_) (fun cdv A outer s H vs Q E hr h => ?_)
  · obtain ⟨p, M, a, b, rfl, _⟩ := h
    rfl
  · obtain ⟨p, M, a, b, rfl, m, q, qe⟩ := h
    obtain ⟨dx, lr, ll, lw, kl, hp, er, el, e1, e2, ew⟩ := id m.ex
    refine ⟨_, (pss_cons (ps_if (pt_cmpR op_notIn_seq (pv 1) (pe_fld (pv 0) rfl) rfl)
        (pss_one (ps_raise rfl (takes_of rfl rfl rfl rfl) (pmk_oex (sp := spErr1 CN "program" 100000) sN.oex iN tN FN (hr.mono (by decide)) bN .nil pass0 (by rfl) gN (pa_cons (pv 1) pa_nil))))
        pss_nil)
      (pss_one (ps_ret (pe_mkV M1 (hr.mono (by decide)) (by rfl) (pe_md W1 (pv 0) T.insM.cl (hr.mono (by decide)) pass0 (pa_cons (pv 1) (pa_cons (pv 2) pa_nil))))))), ?_⟩
    refine ⟨_, rfl, _, rfl, p, C, dx, _, _, rfl, hp, T.insM.cl, T.nR, memF_R lr ll lw, lr, _, rfl, .inl (.inl (.inl er)), rfl, txt_flat M.R, _, rfl, ?_⟩
    rw [if_pos rfl, inV_txt]
    refine iteB (fun h1 => ?_) (fun h1 => ?_)
    · have hn : a ∉ M.R := by simpa using h1
      obtain ⟨hz, qe⟩ := qe hn
      refine ⟨_, rfl, by show 1 ≤ 1000; decide, fun x nx => ⟨x, a, rfl, hz, upd_same, fun d nd ne => ⟨rfl, d, [("program", .str a)], upd_same, (upd_ne ne).trans upd_same, ?_, ?_⟩⟩⟩
      · rw [upd_ne ne] at nd
        exact nd
      · rw [made_heap nx ne]
        rw [upd_ne ne] at nd
        exact qe d _ nd (same_upd nd) upd_same
    · have hm : a ∈ M.R := by simpa using h1
      obtain ⟨r, hr4, ewd, q⟩ := q hm
      refine ⟨_, rfl, p, dx, _, rfl, hp, memF_no (by decide +kernel) (by decide +kernel) (by decide +kernel), _, rfl, _, rfl, p, M, a, b, rfl, m, fun H1 s1 => ⟨r, hr4, by rw [ewd], fun x H2 nx s2 mk => ?_⟩⟩
      refine q x H2 ?_ (s1.trans s2) mk
      cases z : H x with
      | none => rfl
      | some o => rw [s1 _ _ z] at nx; cases nx
end
end Kx

namespace Kx
open PySem PySem.Spec PyProof.Rows L2 NdefX Kr Ke Kn Kz Ky
theorem upd_upd {H : Hp} {a : Addr} {o u : HO} : upd (upd H a o) a u = upd H a u := by
  funext z
  by_cases e : z = a
  · rw [e, upd_same, upd_same]
  · rw [upd_ne e, upd_ne e, upd_ne e]
theorem upd_comm {H : Hp} {a b : Addr} {o u : HO} (ne : a ≠ b) : upd (upd H a o) b u = upd (upd H b u) a o := by
  funext z
  by_cases e : z = a
  · rw [e, upd_same, upd_ne ne, upd_same]
  · by_cases e' : z = b
    · rw [e', upd_same, upd_ne (Ne.symm ne), upd_same]
    · rw [upd_ne e', upd_ne e, upd_ne e, upd_ne e']
end Kx

namespace Kx
open PySem PySem.Spec PyProof.Rows L2 NdefX Kr Ke Kn Kz Ky
/-! ### lists, texts, pairs -/
theorem strs_at {N : List Str} {i : Nat} {y : V} (h : (N.map V.str)[i]? = some y) : ∃ z, N[i]? = some z ∧ y = .str z := by
  rw [List.getElem?_map] at h
  obtain ⟨z, a, b⟩ := Option.map_eq_some_iff.mp h
  exact ⟨z, a, b.symm⟩
theorem take_snoc {α : Type} {l : List α} {i : Nat} {x : α} (h : l[i]? = some x) : l.take (i + 1) = l.take i ++ [x] := by
  rw [List.take_add_one, h]
  rfl
/-- the data of a sorted list of names -/
theorem eqv_list (xs ys : List Str) : PyData.eqv (.list (tD xs)) (.list (tD ys)) = decide (xs = ys) := by
  simp only [PyData.eqv]
  exact eqv_txts _ _
theorem none_of {H H' : Hp} {a : Addr} (s : Same H H') (h : H' a = none) : H a = none := by
  cases z : H a with
  | none => rfl
  | some u => rw [s _ _ z] at h; cases h
theorem filt_yes {α : Type} {l : List α} {c : α → Bool} {i : Nat} {x : α} (h : l[i]? = some x) (hc : c x = true) : (l.take (i + 1)).filter c = (l.take i).filter c ++ [x] := by
  rw [take_snoc h, List.filter_append, List.filter_cons, if_pos hc]
  rfl
theorem filt_no {α : Type} {l : List α} {c : α → Bool} {i : Nat} {x : α} (h : l[i]? = some x) (hc : c x = false) : (l.take (i + 1)).filter c = (l.take i).filter c := by
  rw [take_snoc h, List.filter_append, List.filter_cons, if_neg (by rw [hc]; exact Bool.false_ne_true)]
  exact List.append_nil _
theorem filt_len {α : Type} {l : List α} {c : α → Bool} (i : Nat) : ((l.take i).filter c).length ≤ l.length := Nat.le_trans (List.length_filter_le _ _) (by rw [List.length_take]; omega)
theorem strV (a b : Str) : decide (V.str a = V.str b) = decide (a = b) := by
  by_cases h : a = b
  · rw [h, decide_eq_true rfl, decide_eq_true rfl]
  · rw [decide_eq_false h, decide_eq_false (fun z => h (by injection z))]
theorem pd_at {α β : Type} {F : α → β → Prop} : ∀ {xs : List α} {ys : List β}, Paired F xs ys → ∀ {i : Nat} {y : β}, ys[i]? = some y → ∃ x, xs[i]? = some x ∧ F x y
  | _, _, .nil, i, x, h => by simp at h
  | _, _, .cons (a := a) (b := b) f r, 0, x, h => ⟨a, rfl, by have e : b = x := by simpa using h
                                                              exact e ▸ f⟩
  | _, _, .cons f r, i + 1, x, h => by
    obtain ⟨y, h1, h2⟩ := pd_at r (i := i) (y := x) (by simpa using h)
    exact ⟨y, by simpa using h1, h2⟩
theorem pd_nil {α β : Type} {F : α → β → Prop} : ∀ {xs : List α}, Paired F xs [] → xs = []
  | _, .nil => rfl
theorem pd_cons {α β : Type} {F : α → β → Prop} {b : β} {r : List β} : ∀ {xs : List α}, Paired F xs (b :: r) → ∃ x t, xs = x :: t ∧ F x b ∧ Paired F t r
  | _, .cons h t => ⟨_, _, rfl, h, t⟩
theorem pd_two {α β : Type} {F : α → β → Prop} {a b : β} {xs : List α} (h : Paired F xs [a, b]) : ∃ x y, xs = [x, y] ∧ F x a ∧ F y b := by
  obtain ⟨x, t, rfl, h1, h⟩ := pd_cons h
  obtain ⟨y, t, rfl, h2, h⟩ := pd_cons h
  cases pd_nil h
  exact ⟨x, y, rfl, h1, h2⟩
theorem pd_three {α β : Type} {F : α → β → Prop} {a b c : β} {xs : List α} (h : Paired F xs [a, b, c]) : ∃ x y z, xs = [x, y, z] ∧ F x a ∧ F y b ∧ F z c := by
  obtain ⟨x, t, rfl, h1, h⟩ := pd_cons h
  obtain ⟨y, z, rfl, h2, h3⟩ := pd_two h
  exact ⟨x, y, z, rfl, h1, h2, h3⟩
theorem nameB_sht8 {z : Str} (h : nameB z = true) : Sht z 8 := by
  refine ⟨?_, (nameB_sht h).2⟩
  unfold nameB okN at h
  simp only [Bool.and_eq_true, decide_eq_true_eq] at h
  have l : z.cps.toList.length = z.length := by rw [Array.length_toList]; rfl
  omega
theorem repr8 {z : Str} (h : nameB z = true) : (reprText z).length ≤ 100000 := by
  have h1 := repr_le (nameB_sht8 h).ok
  have h2 := (nameB_sht8 h).1
  omega
end Kx

/-! len(set(t)), t a tuple of texts. -/
namespace Ks
open PySem PySem.Spec PyProof.Rows
/-- one more text into what was met -/
def sdd (l : List Str) (v : Str) : List Str := if l.any (· == v) then l else l ++ [v]
def met (ys : List Str) : List Str := ys.foldl sdd []
theorem met_succ {ys : List Str} {i : Nat} {v : Str} (h : ys[i]? = some v) : met (ys.take (i + 1)) = sdd (met (ys.take i)) v := by
  unfold met
  rw [List.take_add_one, h, List.foldl_append]
  rfl
theorem sdd_any (l : List Str) (v k : Str) : (sdd l v).any (· == k) = (l.any (· == k) || decide (k = v)) := by
  unfold sdd
  by_cases h : l.any (· == v) = true
  · rw [if_pos h]
    by_cases e : k = v
    · rw [e, h]
      rfl
    · rw [decide_eq_false e, Bool.or_false]
  · rw [if_neg h, List.any_append]
    have : ([v].any (· == k)) = decide (k = v) := by
      by_cases e : k = v
      · rw [e]
        simp
      · have e' : ¬ v = k := fun z => e z.symm
        simp [e, e']
    rw [this]
theorem sdd_len (l : List Str) (v : Str) : (sdd l v).length = if l.any (· == v) then l.length else l.length + 1 := by
  unfold sdd
  split <;> simp
theorem met_le : ∀ (ys l : List Str), (ys.foldl sdd l).length ≤ l.length + ys.length
  | [], l => Nat.le_refl _
  | v :: ys, l => by
    have h := met_le ys (sdd l v)
    rw [sdd_len] at h
    rw [List.foldl_cons, List.length_cons]
    split at h <;> omega
theorem met_full : ∀ (ys l : List Str), (ys.foldl sdd l).length = l.length + ys.length ↔ ys.Nodup ∧ ∀ y ∈ ys, y ∉ l
  | [], l => by simp
  | v :: ys, l => by
    rw [List.foldl_cons, List.length_cons]
    by_cases h : l.any (· == v) = true
    · have hm : v ∈ l := by
        obtain ⟨y, hy, e⟩ := List.any_eq_true.mp h
        exact beq_iff_eq.mp e ▸ hy
      have e : sdd l v = l := if_pos h
      rw [e]
      have hle := met_le ys l
      constructor
      · intro z
        omega
      · intro z
        exact absurd hm (z.2 v List.mem_cons_self)
    · have hm : v ∉ l := fun z => h (List.any_eq_true.mpr ⟨v, z, beq_self_eq_true v⟩)
      have e : sdd l v = l ++ [v] := if_neg h
      have ih := met_full ys (l ++ [v])
      rw [e]
      rw [List.length_append, List.length_singleton] at ih
      constructor
      · intro z
        obtain ⟨h1, h2⟩ := ih.mp (by omega)
        refine ⟨List.nodup_cons.mpr ⟨fun hv => h2 v hv (by simp), h1⟩, fun y hy => ?_⟩
        rcases List.mem_cons.mp hy with rfl | hy
        · exact hm
        · exact fun hl => h2 y hy (by simp [hl])
      · intro ⟨h1, h2⟩
        obtain ⟨h3, h4⟩ := List.nodup_cons.mp h1
        have := ih.mpr ⟨h4, fun y hy hl => by
          rcases List.mem_append.mp hl with hl | hl
          · exact h2 y (List.mem_cons_of_mem _ hy) hl
          · exact h3 (List.mem_singleton.mp hl ▸ hy)⟩
        omega
theorem met_nodup (ys : List Str) : ((met ys).length = ys.length) ↔ ys.Nodup := by
  have h := met_full ys []
  unfold met
  rw [List.length_nil, Nat.zero_add] at h
  rw [h]
  simp
section
variable {prog : Program} {w : World} {A : Around} {E : Value → Shared → Prop} {R : Result → Shared → Prop} {I : Addr} {fp wr : List Addr} {G : Array GenState → Array GenState → Prop} {n : Nat} {P : Nat → Value → Prop} {St : Nat → Shared → Prop}
theorem txt_loop (W : WalksS prog w A.in1 I fp wr G n P St) (S : Addr) (hSf : S ∉ fp) (ys : List Str) (hy : ys.length = n) (hval : ∀ i v, P i v → ∃ (x : Str) (t : Tok), ys[i]? = some x ∧ v = .str x t) (hb : n + 1 < scanBound) :
    ∀ (m i : Nat) (s : Shared), n - i = m → i ≤ n → St i s → s.heap.SetOf (strKind prog w) S (fun z => (met (ys.take i)).any (· == z)) (met (ys.take i)).length →
      (∀ s2, Moved (S :: wr) G s s2 → s2.heap.SetOf (strKind prog w) S (fun z => (met ys).any (· == z)) (met ys).length → R (.ok (.ret .none)) s2) → codeAny (model prog w) A (.builtin "set.update.loop" ⟨[.ref S, .ref I], []⟩) R s := by
  have out : S ∉ wr := fun z => hSf (W.sub _ z)
  have sub1 : ∀ b ∈ wr, b ∈ S :: wr := fun b z => List.mem_cons_of_mem _ z
  intro m
  induction m with
  | zero =>
    intro i s hm hi st hS hR
    obtain rfl : i = n := by omega
    have hall : ys.take i = ys := by rw [← hy, List.take_length]
    rw [hall] at hS
    refine codeAny_builtin PyProof.Rows.F.entry_set_update_loop ?_
    rw [Around.under_plainId PyProof.Rows.F.plain_set_update_loop _]
    show wpAny _ A.in1 (pyNext (.ref I) >>= _) _ _ s
    refine wpAny_bind (W.done s _ _ st fun s2 mv => ?_)
    show wpAny _ A.in1 (ret Value.none) _ _ s2
    obtain ⟨o, es, ep, tb, ho, rest⟩ := hS
    exact wpAny_pure (hR s2 (mv.mono sub1) ⟨o, es, ep, tb, mv.heap S _ out ho, rest⟩)
  | succ m ih =>
    intro i s hm hi st hS hR
    have lt : i < n := by omega
    refine codeAny_builtin PyProof.Rows.F.entry_set_update_loop ?_
    rw [Around.under_plainId PyProof.Rows.F.plain_set_update_loop _]
    show wpAny _ A.in1 (pyNext (.ref I) >>= _) _ _ s
    refine wpAny_bind (W.item i s _ _ lt st fun v s2 hP st2 mv => ?_)
    obtain ⟨x, t, hx, rfl⟩ := hval i v hP
    have hS2 : s2.heap.SetOf (strKind prog w) S (fun z => (met (ys.take i)).any (· == z)) (met (ys.take i)).length := by
      obtain ⟨o, es, ep, tb, ho, rest⟩ := hS
      exact ⟨o, es, ep, tb, mv.heap S _ out ho, rest⟩
    show wpAny _ A.in1 (holding [Value.str x t] (setAdd S (.str x t)) >>= _) _ _ s2
    refine wpAny_bind (wpAny_holding ?_)
    unfold setAdd
    refine wpAny_holding ?_
    refine wpAny_bind ((strKind prog w).pyHash (k := x) (strKind_is _ _ _ _) ?_)
    have room : (met (ys.take i)).length + 1 < scanBound := by
      have := met_le (ys.take i) []
      rw [List.length_take] at this
      unfold met
      simp only [List.length_nil] at this
      omega
    refine wpAny_setAddHashed_of (knd := strKind prog w) (s := { s2 with toks := s2.toks + 1 }) (strKind_is _ _ _ _) rfl hS2 room fun h' sb hS3 => ?_
    have nxt : h'.SetOf (strKind prog w) S (fun z => (met (ys.take (i + 1))).any (· == z)) (met (ys.take (i + 1))).length :=
      SetOf_congr hS3 (fun z => by rw [met_succ hx, sdd_any]) (by rw [met_succ hx, sdd_len])
    refine wpAny_pure ⟨plainId_quiet PyProof.Rows.F.plain_set_update_loop _, ih (i + 1) _ (by omega) lt (W.frame _ s2 _ _ st2 (Nat.le_succ _) fun b z o e => ?_) nxt fun s3 mv3 hS4 => ?_⟩
    · rw [sb.2 b (fun h : b = S => hSf (by rw [← h]; exact z))]
      exact e
    · refine hR s3 (Moved.trans W.gtrans ((mv.mono sub1).then_heap (Nat.le_succ _) fun b o z e => ?_) mv3) hS4
      rw [sb.2 b (fun h : b = S => z (by rw [h]; exact List.mem_cons_self))]
      exact e
end
end Ks

namespace PySem
section
variable {prog : Program} {w : World} {A : Around} {E : Value → Shared → Prop} {s : Shared}
abbrev bareSet (led : Bool) : Obj := { cls := .type "set", dict := none, data := .set #[] 0 (.fresh 0 0 led) }
theorem set_of_tup {l : Addr} {items : Array Value} {ys : List Str} {Q : Value → Shared → Prop} (hh : A.handled = none) (hl : s.heap.IsTuple l items) (hy : ys.length = items.size) (hi : ∀ (i : Nat) (v : Value), items[i]? = some v → ∃ (x : Str) (t : Tok), ys[i]? = some x ∧ v = Value.str x t) (hb : items.size + 1 < scanBound)
    (h : ∀ (h' : Heap) (tk : Nat), h'.SetOf (strKind prog w) s.heap.objs.size (fun z => (Ks.met ys).any (· == z)) (Ks.met ys).length → (∀ b o, b < s.heap.objs.size → s.heap.get? b = some o → h'.get? b = some o) → Q (.ref s.heap.objs.size) { s with heap := h', toks := tk }) :
    wpAny (model prog w) A (call (.type "set") [.ref l]) Q E s := by
  have a1 := F.called_set.notType; have a2 := F.called_set.canCreate; have a3 := F.typeCall_set_1 (.ref l); have a4 := F.called_set.made; have a5 := F.called_set.sub
  obtain ⟨c, tl, hmro⟩ := F.called_set.mro
  refine wpAny_call (codeAny_of_tree ?_); show wpAny _ _ (callAny (.type "set") _) _ _ _
  refine wpAny_pure ⟨Code.quiet_builtin _ (by decide +kernel), ?_⟩; refine codeAny_builtin F.entry_type_call ?_; rw [Around.under_plain (weight_type_call_type "set" [.ref l] []) rfl]
  repeat (any_goals (first | assumption | wp_step))
  refine codeAny_mono (code_set_new_1 (.ref l) (E := E) (Q₁ := fun obj s1 => ∃ led : Bool, obj = .ref s.heap.objs.size ∧ s1 = { s with heap := s.heap.push (bareSet led) }) fun led => ⟨led, rfl, rfl⟩) fun r s1 hr => ?_
  cases r with
  | error e => exact hr
  | ok fl =>
    cases fl with
    | ret obj =>
      obtain ⟨led, rfl, rfl⟩ := hr
      have hS : (s.heap.push (bareSet led)).get? s.heap.objs.size = some (bareSet led) := Heap.get?_push_size _ rfl
      have hT : Shared.TypeIs { s with heap := s.heap.push (bareSet led) } (.ref s.heap.objs.size) "set" := ⟨_, hS, rfl⟩
      have b1 := F.called_set.init.lookup; have b2 := F.called_set.init.bind (.ref s.heap.objs.size)
      repeat (any_goals (first | assumption | wp_step))
      refine codeAny_mono (codeAny_call_builtin (R := wants (fun r s2 => r = .none ∧ ∃ h' tk, s2 = { s with heap := h', toks := tk } ∧ h'.SetOf (strKind prog w) s.heap.objs.size (fun z => (Ks.met ys).any (· == z)) (Ks.met ys).length ∧
          (∀ b o, b < s.heap.objs.size → s.heap.get? b = some o → h'.get? b = some o)) E) F.called_set.init.plain F.entry_set_init (check_set_init_1 hT ?_)) fun r2 s2 hr2 => ?_
      · obtain ⟨ol, hol, hcl, nl, hdl⟩ := hl
        obtain ⟨ocls, odict, odata, oslots⟩ := ol
        simp only at hcl hdl; subst hcl; subst hdl
        have hol' : (s.heap.push (bareSet led)).get? l = some { cls := .type "tuple", dict := odict, data := .seq items nl, slots := oslots } := Heap.get?_push_of_some _ hol
        have d1 := F.sub_tuple_set; have d2 := F.sub_tuple_frozenset
        have d3 : (Value.type "tuple" == Value.type "dict") = false := by decide
        have tp : (s.heap.push (bareSet led)).IsTuple l items := ⟨_, hol', rfl, nl, rfl⟩
        unfold Builtin.«set.__init__» noKeywords Builtin.Frozenset.updateFrom; generalize hPI : pyIter = PI
        wp_walk
        subst hPI
        refine wpAny_pyIter_tuple tp ?_; refine wpAny_bind (wpAny_runValue ?_)
        have lS : l < s.heap.objs.size := Heap.lt_size hol
        have h3 : A.in1.in1.in1.handled = none := by simp [hh]
        have ne1 : l ≠ (s.heap.push (bareSet led)).objs.size := by
          rw [Heap.size_push]; exact Nat.ne_of_lt (Nat.lt_succ_of_lt lS)
        have no1 : s.heap.objs.size ∉ [(s.heap.push (bareSet led)).objs.size, l] := by
          rw [Heap.size_push]; simp only [List.mem_cons, List.mem_singleton, List.not_mem_nil, or_false, not_or]; exact ⟨Nat.ne_of_lt (Nat.lt_succ_self _), Nat.ne_of_gt lS⟩
        refine Ks.txt_loop ((Walks.tuple h3 _ l ne1 items).toS) s.heap.objs.size no1 ys hy hi hb (items.size - 0) 0 _ (by omega) (Nat.zero_le _) ⟨⟨_, Heap.get?_push_size _ rfl, rfl, rfl⟩, (tp.push _)⟩ ?hS0 ?hR
        case hS0 =>
          have g0 : ((s.heap.push (bareSet led)).push { cls := .type "tuple_iterator", data := .fields #[.ref l, .int 0 0] }).get? s.heap.objs.size = some (bareSet led) := Heap.get?_push_of_some _ hS
          exact PyProof.Rows.SetOf_congr ((PyProof.Rows.setObjOf_fresh (knd := strKind prog w) led).setOf g0 (by unfold scanBound; omega)) (fun _ => rfl) rfl
        case hR =>
          intro s' mv hS'
          obtain ⟨h', g', d', tk', os'⟩ := s'
          have eg : g' = s.gens := mv.gens; have ed : d' = s.drawn := mv.drawn; have eo : os' = s.os := mv.os
          subst eg; subst ed; subst eo
          show wpAny _ _ _ _ _ _
          refine wpAny_pure ?_; show wpAny _ _ (ret Value.none) _ _ _
          refine wpAny_pure ⟨rfl, h', tk', rfl, hS', fun b o lt e => ?_⟩
          have n2 : b ≠ (s.heap.push (bareSet led)).objs.size := by
            rw [Heap.size_push]; exact Nat.ne_of_lt (Nat.lt_succ_of_lt lt)
          exact mv.heap b o (by simp only [List.mem_cons, List.mem_singleton, List.not_mem_nil, or_false, not_or]; exact ⟨Nat.ne_of_lt lt, n2⟩) (Heap.get?_push_of_some _ (Heap.get?_push_of_some _ e))
      · cases r2 with
        | error e => exact hr2
        | ok fl2 =>
          cases fl2 with
          | ret r =>
            obtain ⟨rfl, h', tk, rfl, hS', hk'⟩ := hr2
            repeat (any_goals (first | assumption | wp_step))
            exact h _ _ hS' hk'
          | _ => exact hr2.elim
    | _ => exact hr.elim
end
end PySem

namespace Ks
open PySem PySem.Spec PyProof.Rows L2
section
variable {X : Cx}
theorem strs_at : ∀ {ys : List Str} {its : List Value}, Vals (ys.map V.str) its → ∀ (i : Nat) (v : Value), its[i]? = some v → ∃ (x : Str) (t : Tok), ys[i]? = some x ∧ v = Value.str x t
  | [], _, r, i, v, e => by
    cases r
    simp at e
  | y :: ys, _, r, 0, v, e => by
    cases r with
    | cons r1 r2 =>
      obtain ⟨t, rfl⟩ := r1
      exact ⟨y, t, rfl, (Option.some.inj e).symm⟩
  | y :: ys, _, r, i + 1, v, e => by
    cases r with
    | cons r1 r2 =>
      obtain ⟨x, t, h1, h2⟩ := strs_at r2 i v (by simpa using e)
      exact ⟨x, t, by simpa using h1, h2⟩
/-- len(set(t)), t a tuple of texts -/
def tLenSetT (K : PySem.W.Frag) (ta : TE) : TE := fun σ H Q => ta σ H fun x H1 => ∃ (l : Addr) (ys : List Str), x = V.ref l ∧ SqT K H1 l (ys.map V.str) ∧ ys.length < 64 ∧ Q (.int ((met ys).length : Nat)) H1
theorem pe_lenSetT {a : Expr} {ta : TE} {p p2 q pos : Pos} (hc : X.calm = true) (hg : Gl X "len") (hm : X.mg "len" = none) (hg2 : Gl X "set") (hm2 : X.mg "set" = none) (ha : PE X a ta) (na : starEach [a] X.env = (false, eval a X.env) :: starEach [] X.env := by rfl) :
    PE X (.Call (.Name "len" p) [.Call (.Name "set" p2) [a] [] q] [] pos) (tLenSetT X.K ta) := by
  refine ⟨fun pins s σ H Q I h => ?_⟩
  refine Call_ (ld_blt I hg hm PySem.boot_len ?_)
  refine PyProof.Rows.callWith_builtin1 (PyProof.Rows.args_cons ?_ rfl) rfl rfl; refine Call_ (ld_blt I hg2 hm2 PyProof.Rows.boot_set ?_)
  refine PyProof.Rows.callWith_type1 (PyProof.Rows.args_cons (thn (ha.run pins s σ H _ I h) fun v s1 ⟨x, H1, I1, r1, hh⟩ => PyProof.Rows.args_nil ?_) na) na rfl
  obtain ⟨l, ys, rfl, hq, h1, hQ⟩ := hh
  cases r1
  obtain ⟨its, r, ⟨o, ho, hcl, n, hd⟩, hz⟩ := I1.tuple hq
  have hl : ys.length = its.toArray.size := by rw [List.size_toArray, ← r.length, List.length_map]
  refine PySem.set_of_tup (I1.ok.hd hc) ⟨o, ho, hcl, n, hd⟩ hl (fun i v e => strs_at r i v (by simpa using e)) (by unfold scanBound; omega) fun h' tk hS hk => ?_
  refine PyProof.Rows.args_nil ?_
  have hm3 := met_le ys []
  rw [List.length_nil] at hm3
  have hm4 : (met ys).length ≤ 0 + ys.length := hm3
  obtain ⟨o2, es, ep, t, ho2, hex, hd2, _, _, _, hf, hn⟩ := hS
  have I2 : Inv X pins σ H1 { s1 with heap := h', toks := tk } := I1.kept fun b o e => hk b o (Heap.lt_size e) e
  refine call_len_set ho2 hex hd2 hf (by rw [hn]; omega) ⟨.int ((met ys).length : Nat), H1, I2.tok _, ⟨_, by rw [hn]⟩, hQ⟩
end
end Ks

namespace Kx
open PySem PySem.Spec PyProof.Rows L2 NdefX Kr Ke Kn Kz Ky
open Ks (met met_nodup pe_lenSetT tLenSetT)
/-- a part of what is passed as a step -/
inductive Part
  | s (z : Str)
  | t (zs : List Str)
def PtAt (K : PySem.W.Frag) (H : Hp) : V → Part → Prop
  | x, .s z => x = .str z
  | x, .t zs => ∃ a, x = .ref a ∧ SqT K H a (zs.map V.str)
def okP : Part → Prop
  | .s z => Sht z 200
  | .t zs => zs.length ≤ 20 ∧ ∀ z ∈ zs, Sht z 200
def nmP : Part → Bool
  | .s z => nameB z
  | .t _ => false
def difP : Part → Bool
  | .s _ => false
  | .t zs => zs.all nameB && decide (zs.Nodup)
def isW : Part → Str → Bool
  | .s z, y => decide (z = y)
  | .t _, _ => false
def pd : Part → PyData
  | .s z => .str z
  | .t zs => .tuple (zs.map PyData.str)
theorem PtAt.same {K : PySem.W.Frag} {H H' : Hp} (s : Same H H') : ∀ {x : V} {p : Part}, PtAt K H x p → PtAt K H' x p
  | _, .s _, h => h
  | _, .t _, ⟨a, e, h⟩ => ⟨a, e, Same.tupS s h⟩
theorem sqT_ty {K : PySem.W.Frag} {H : Hp} {a : Addr} {xs : List V} (h : SqT K H a xs) : TyX K H (.ref a) (.type "tuple") := by
  rcases h with (h | ⟨o, h⟩) | h
  · exact .base (.tup h)
  · exact .fTuple h
  · obtain ⟨o, its, n, h1, h2, _⟩ := h
    exact .kTuple h1 h2
theorem dps {K : PySem.W.Frag} {H : Hp} : ∀ zs : List Str, DpAll K H (zs.map V.str) (zs.map PyData.str)
  | [] => .nil
  | z :: zs => .cons (.str z) (dps zs)
theorem PtAt.dp {K : PySem.W.Frag} {H : Hp} : ∀ {x : V} {p : Part}, PtAt K H x p → Dp K H x (pd p)
  | _, .s z, h => by
    cases (show _ = V.str z from h)
    exact .str z
  | _, .t zs, ⟨a, e, h⟩ => by
    cases e
    exact .tup h (dps zs)
theorem okAll_strs : ∀ {zs : List Str}, (∀ z ∈ zs, Sht z 200) → okAll (zs.map PyData.str) = true ∧ costAll (zs.map PyData.str) ≤ 2004 * zs.length ∧ PyData.depthAll (zs.map PyData.str) = 0
  | [], _ => ⟨by simp [okAll], by simp [costAll], by simp [PyData.depthAll]⟩
  | z :: zs, h => by
    obtain ⟨h1, h2, h3⟩ := okAll_strs fun y hy => h y (List.mem_cons_of_mem _ hy)
    have hz := h z List.mem_cons_self
    have h4 := hz.1
    refine ⟨?_, ?_, ?_⟩
    · rw [List.map_cons]
      simp only [okAll, hz.ok, h1, Bool.and_self]
    · rw [List.map_cons, List.length_cons]
      simp only [costAll, costD]
      omega
    · rw [List.map_cons]
      simp only [PyData.depthAll, PyData.depth, h3]
      decide
theorem okP.d : ∀ {p : Part}, okP p → okD (pd p) = true ∧ costD (pd p) ≤ 50000 ∧ (pd p).depth ≤ 1
  | .s z, h => by
    have h4 := h.1
    refine ⟨h.ok, ?_, by simp [pd, PyData.depth]⟩
    simp only [pd, costD]
    omega
  | .t zs, ⟨h1, h2⟩ => by
    obtain ⟨a, b, c⟩ := okAll_strs h2
    refine ⟨by simpa only [pd, okD] using a, ?_, ?_⟩
    · simp only [pd, costD]
      omega
    · simp only [pd, PyData.depth, c]
      decide
theorem eqv_w : ∀ (p : Part) (y : Str), PyData.eqv (pd p) (.str y) = isW p y
  | .s z, y => by
    simp only [pd, isW, PyData.eqv]
    by_cases h : z = y
    · rw [h, decide_eq_true rfl]
      exact beq_self_eq_true y
    · rw [decide_eq_false h]
      exact beq_eq_false_iff_ne.mpr h
  | .t zs, y => by simp [pd, isW, PyData.eqv]
theorem fn_or {P : Program} {w : World} {K : PySem.W.Frag} {mg : Str → Option Value} {base : Heap} {CX : CXT} {k : Nat} {f : Addr} {fd : FuncData} {ps : List Str} {sp sp' : Sp} (F : FnOk P w K mg base CX k f fd ps sp) (F' : FnOk P w K mg base CX k f fd ps sp') :
    FnOk P w K mg base CX k f fd ps (fun vs H Q E => sp vs H Q E ∨ sp' vs H Q E) :=
  ⟨fun vs H Q E h => h.elim (F.len vs H Q E) (F'.len vs H Q E), fun A outer s H args us vs Q E hr e0 hb r h => h.elim (F.run A outer s H args us vs Q E hr e0 hb r) (F'.run A outer s H args us vs Q E hr e0 hb r)⟩
/-- asked of a part, told what g says of it -/
def spPt (K : PySem.W.Frag) (g : Part → Bool) : Sp := fun vs H Q _ => ∃ (x : V) (p : Part), vs = [x] ∧ PtAt K H x p ∧ okP p ∧ ∀ H', Same H H' → Q (.bl (g p)) H'
abbrev s_iname : Stmt := topS 32
abbrev N_iname : List Str := ["part"]
theorem sc_iname : FnScope N_iname ["part"] (defScope s_iname) := ⟨rfl, rfl, rfl, by decide +kernel, rfl, by decide +kernel, by decide +kernel⟩
abbrev s_dif : Stmt := topS 33
abbrev N_dif : List Str := ["part", "thing"]
theorem sc_dif : FnScope N_dif ["part"] (defScope s_dif) := ⟨rfl, rfl, rfl, by decide +kernel, rfl, by decide +kernel, by decide +kernel⟩
section
variable {P : Program} {w : World} {K : PySem.W.Frag} {mg : Str → Option Value} {base : Heap}
theorem ok_iname {f : Addr} {fd : FuncData} (F : Fun K "_is_name" "_is_name" s_iname f fd) (T : TxS mg) (C_valid_name : Cal P w K mg base "valid_name" 1 spName) : FnOk P w K mg base CX0 2 f fd ["part"] (spPt K nmP) := by
  refine F.ok sc_iname (fun vs H Q E h => ?_) (fun cdv A outer s H vs Q E hr h => ?_)
  · obtain ⟨x, p, rfl, _⟩ := h
    rfl
  · obtain ⟨x, p, rfl, hp, ho, q⟩ := h
    refine ⟨_, (pss_one (ps_ret (pe_and (pe_callB call_isi (by rfl) T.m_isinstance (by decide +kernel) (pa_cons (pv 0) (pa_cons (pe_bltn (v := .ty "str") (by rfl) T.m_str (by decide +kernel) rfl) pa_nil))) (pe_one (pe_cal C_valid_name (hr.mono (by decide)) (by rfl) (pa_cons (pv 0) pa_nil)))))), ?_⟩
    cases p with
    | s z =>
      cases (show x = V.str z from hp)
      refine ⟨_, rfl, .str z, .ty "str", .type "str", .type "str", true, rfl, .ty "str", .base (.str z), kit_ty (by decide +kernel), _, rfl, ?_⟩
      rw [if_pos rfl]
      have h1 := ho.1
      exact ⟨_, rfl, z, rfl, by omega, fun H' s' => q H' s'⟩
    | t zs =>
      obtain ⟨a, rfl, ha⟩ := hp
      refine ⟨_, rfl, .ref a, .ty "str", .type "tuple", .type "str", false, rfl, .ty "str", sqT_ty ha, kit_ty (by decide +kernel), _, rfl, ?_⟩
      rw [if_neg (by decide)]
      exact q H (Same.refl H)
theorem ok_dif {f : Addr} {fd : FuncData} (F : Fun K "_are_different_names" "_are_different_names" s_dif f fd) (T : TxS mg) (C_is_name : Cal P w K mg base "_is_name" 2 (spPt K nmP)) : FnOk P w K mg base CX0 3 f fd ["part"] (spPt K difP) := by
  refine F.ok sc_dif (fun vs H Q E h => ?_) (fun cdv A outer s H vs Q E hr h => ?_)
  · obtain ⟨x, p, rfl, _⟩ := h
    rfl
  · obtain ⟨x, p, rfl, hp, ho, q⟩ := h
    refine ⟨_, (pss_cons (ps_if (pt_not (pt_val (pe_callB call_isi (by rfl) T.m_isinstance (by decide +kernel) (pa_cons (pv 0) (pa_cons (pe_bltn (v := .ty "tuple") (by rfl) T.m_tuple (by decide +kernel) rfl) pa_nil)))))
        (pss_one (ps_ret pe_bl))
        pss_nil)
      (pss_one (ps_ret (pe_and (pe_callB (cr_all rfl) (by rfl) T.m_all (by decide +kernel) (pa_cons (pe_lc (own := [("thing", 1)]) (g := gName 1) (tt := tYes) rfl sc_dif.nd (pi_tup (pv 0)) (blkOk_by (own := [("thing", 1)]) (N := N_dif) (sc := defScope s_dif) (by decide +kernel)) (fun _ _ _ _ _ => pg_name (i := 1) sc_dif.nd rfl (Or.inl rfl)) (fun _ _ _ _ _ => pts_nil) (fun _ _ _ _ _ => (pe_cal C_is_name (hr.mono (by decide)) (by rfl) (pa_cons (pv 1) pa_nil)))) pa_nil)) (pe_one (pe_cmpR op_eq (pe_lenSetT rfl (by rfl) T.m_len (by rfl) T.m_set (pv 0)) (pe_callB call_len_seq (by rfl) T.m_len (by decide +kernel) (pa_cons (pv 0) pa_nil)) (nomark _))))))), ?_⟩
    cases p with
    | s z =>
      cases (show x = V.str z from hp)
      exact ⟨_, rfl, .str z, .ty "tuple", .type "str", .type "tuple", false, rfl, .ty "tuple", .base (.str z), kit_ty (by decide +kernel), _, rfl, iteT (q H (Same.refl H))⟩
    | t zs =>
      obtain ⟨a, rfl, ha⟩ := hp
      refine ⟨_, rfl, .ref a, .ty "tuple", .type "tuple", .type "tuple", true, rfl, .ty "tuple", sqT_ty ha, kit_ty (by decide +kernel), _, rfl, iteF ?_⟩
      refine ⟨_, rfl, a, rfl, ⟨_, ha⟩, fun D hD => ?_⟩
      refine lc_tup (xs := zs.map V.str) (fun i H1 => Same H H1 ∧ H1 D = some (.lst ((zs.take i).map fun z => V.bl (nameB z)))) ⟨same_upd hD, upd_same⟩ (fun i H1 _ ⟨s1, _⟩ => Same.tupS s1 ha) ?_ ?_
      · rintro i y H1 hy ⟨s1, d1⟩
        obtain ⟨z, hz, rfl⟩ : ∃ z, zs[i]? = some z ∧ y = .str z := by
          rw [List.getElem?_map] at hy
          cases e : zs[i]? with
          | none => rw [e] at hy; cases hy
          | some n => rw [e] at hy; exact ⟨n, rfl, (Option.some.inj hy).symm⟩
        have hl20 := ho.1
        refine ⟨rfl, _, rfl, .str z, .s z, rfl, rfl, ho.2 z (List.mem_of_getElem? hz), fun H2 s2 => ⟨_, s2 _ _ d1, ?_, same_mut (s1.trans s2) hD, ?_⟩⟩
        · rw [List.length_map, List.length_take]
          exact sz8 (by omega)
        · rw [upd_same, List.take_add_one, hz, List.map_append]
          rfl
      · rintro H1 ⟨s1, d1⟩
        have hl20 := ho.1
        rw [List.length_map, List.take_length] at d1
        refine ⟨D, zs.map nameB, rfl, .inl (.inl ?_), _, rfl, ?_⟩
        · rw [d1, List.map_map]
          rfl
        have ea : (zs.map nameB).all id = zs.all nameB := by
          rw [List.all_map]
          rfl
        rw [ea]
        refine iteB (fun h1 => ?_) (fun h1 => ?_)
        · have ha1 := Same.tupS s1 ha
          refine ⟨_, rfl, a, zs, rfl, ha1, by omega, _, rfl, a, _, rfl, .inr ha1, rfl, ?_⟩
          have e : difP (.t zs) = decide (V.int ((met zs).length : Nat) = V.int (((zs.map V.str).length : Nat) : Int)) := by
            show (zs.all nameB && decide zs.Nodup) = _
            rw [h1, Bool.true_and, List.length_map]
            have hm := met_nodup zs
            by_cases hn : zs.Nodup
            · rw [decide_eq_true hn, hm.mpr hn, decide_eq_true rfl]
            · rw [decide_eq_false hn, decide_eq_false]
              intro z
              injection z with z
              exact hn (hm.mp (by omega))
          rw [← e]
          exact q _ s1
        · have e : difP (.t zs) = false := by
            show (zs.all nameB && decide zs.Nodup) = _
            rw [h1]
            rfl
          rw [← e]
          exact q _ s1
end
def wBegin : Str := "begin"
def wQuit : Str := "quit"
def wClose : Str := "close"
def StAt (K : PySem.W.Frag) (H : Hp) (a : Addr) (ps : List Part) : Prop := ∃ xs, SqT K H a xs ∧ Paired (PtAt K H) xs ps
theorem StAt.same {K : PySem.W.Frag} {H H' : Hp} {a : Addr} {ps : List Part} (h : StAt K H a ps) (s : Same H H') : StAt K H' a ps := let ⟨xs, e, p⟩ := h; ⟨xs, Same.tupS s e, Paired.mono (fun _ _ z => z.same s) p⟩
def stepB : List Part → Bool
  | w :: p :: rest => nmP p && (if (isW w wBegin || isW w wQuit) = true then decide (rest.length = 0) else if isW w wRead = true then decide (rest.length = 1) && nmP (rest.headD (.s wBegin)) else if isW w wClose = true then decide (rest.length = 1) && difP (rest.headD (.s wBegin)) else false)
  | _ => false
def spStp (K : PySem.W.Frag) (g : List Part → Bool) : Sp := fun vs H Q _ => ∃ (a : Addr) (ps : List Part), vs = [.ref a] ∧ StAt K H a ps ∧ (∀ p ∈ ps, okP p) ∧ ps.length ≤ 20 ∧ ∀ H', Same H H' → Q (.bl (g ps)) H'
theorem shW (w : Str) (h : okD (.str w) = true) : SeqAt.shaped (.str w) = true := Bool.and_eq_true_iff.mpr ⟨by
    have h' : w.cps.toList.all (fun c => decide (c < 1114112)) = true := by simpa only [okD] using h
    have h2 : w.cps.all (fun c => decide (c < 0x110000)) = true := by
      rw [← Array.all_toList]
      exact h'
    simpa [PyData.canLay0, PyData.strOk] using h2, by simp [PyData.depth]⟩
theorem can_strs : ∀ {zs : List Str}, (∀ z ∈ zs, Sht z 200) → PyData.canLayAll0 (zs.map PyData.str) = true
  | [], _ => by simp [PyData.canLayAll0]
  | z :: zs, h => by
    have h1 := (Bool.and_eq_true_iff.mp (shW z (h z List.mem_cons_self).ok)).1
    rw [List.map_cons]
    simp only [PyData.canLayAll0, h1, can_strs fun y hy => h y (List.mem_cons_of_mem _ hy), Bool.and_self]
theorem okP.sh : ∀ {p : Part}, okP p → SeqAt.shaped (pd p) = true
  | .s z, h => shW z h.ok
  | .t zs, h => Bool.and_eq_true_iff.mpr ⟨by simpa only [pd, PyData.canLay0] using can_strs h.2, decide_eq_true (by have := (okP.d (p := .t zs) h).2.2; omega)⟩
theorem okb : okD (.str wBegin) = true := by decide +kernel
theorem okq : okD (.str wQuit) = true := by decide +kernel
theorem okr : okD (.str wRead) = true := by decide +kernel
theorem okc : okD (.str wClose) = true := by decide +kernel
theorem lenI (n m : Nat) : decide (V.int (n : Int) = V.int (m : Int)) = decide (n = m) := by
  by_cases h : n = m
  · rw [h, decide_eq_true rfl, decide_eq_true rfl]
  · rw [decide_eq_false h, decide_eq_false]
    intro z
    injection z with z
    exact h (by omega)
theorem one_pd {α β : Type} {F : α → β → Prop} : ∀ {xs : List α} {ys : List β}, Paired F xs ys → ys.length = 1 → ∃ x y, xs = [x] ∧ ys = [y] ∧ F x y
  | _, _, .cons (a := a) (b := b) h .nil, _ => ⟨a, b, rfl, rfl, h⟩
  | _, _, .cons _ (.cons _ _), h => by rw [List.length_cons, List.length_cons] at h; omega
abbrev s_valid_step : Stmt := topS 30
abbrev N_valid_step : List Str := ["step", "word"]
theorem sc_valid_step : FnScope N_valid_step ["step"] (defScope s_valid_step) := ⟨rfl, rfl, rfl, by decide +kernel, rfl, by decide +kernel, by decide +kernel⟩
section
variable {P : Program} {w : World} {K : PySem.W.Frag} {mg : Str → Option Value} {base : Heap}
theorem ok_valid_step {f : Addr} {fd : FuncData} (F : Fun K "valid_step" "valid_step" s_valid_step f fd) (T : TxS mg) (C_is_name : Cal P w K mg base "_is_name" 2 (spPt K nmP)) (C_dif : Cal P w K mg base "_are_different_names" 3 (spPt K difP)) :
    FnOk P w K mg base CX0 4 f fd ["step"] (spStp K stepB) := by
  refine F.ok sc_valid_step (fun vs H Q E h => ?_) (fun cdv A outer s H vs Q E hr h => ?_)
  · obtain ⟨a, ps, rfl, _⟩ := h
    rfl
  · obtain ⟨a, ps, rfl, hst, ho, hl, q⟩ := h
    refine ⟨_, (pss_cons (ps_if (PW.pt (pw_or (pt_cmpR op_lt (pe_callB call_len_seq (by rfl) T.m_len (by decide +kernel) (pa_cons (pv 0) pa_nil)) pe_int (nomark _)) (pw_or1 (pt_not (pt_val (pe_cal C_is_name (hr.mono (by decide)) (by rfl) (pa_cons (pe_ix ix_tup (pv 0) pe_int (fun _ _ => rfl)) pa_nil)))))))
        (pss_one (ps_ret pe_bl))
        pss_nil)
      (pss_cons (ps_set (i := 1) sc_valid_step.nd rfl (Or.inl rfl) (pe_ix ix_tup (pv 0) pe_int (fun _ _ => rfl)))
      (pss_cons (ps_if (PW.pt (pw_or (pt_cmpR (op_eqD hr.units) (pv 1) pe_str (nomark _)) (pw_or1 (pt_cmpR (op_eqD hr.units) (pv 1) pe_str (nomark _)))))
        (pss_one (ps_ret (pe_cmpR op_eq (pe_callB call_len_seq (by rfl) T.m_len (by decide +kernel) (pa_cons (pv 0) pa_nil)) pe_int (nomark _))))
        pss_nil)
      (pss_cons (ps_if (pt_cmpR (op_eqD hr.units) (pv 1) pe_str (nomark _))
        (pss_one (ps_ret (pe_and (pe_cmpR op_eq (pe_callB call_len_seq (by rfl) T.m_len (by decide +kernel) (pa_cons (pv 0) pa_nil)) pe_int (nomark _)) (pe_one (pe_cal C_is_name (hr.mono (by decide)) (by rfl) (pa_cons (pe_ix ix_tup (pv 0) pe_int (fun _ _ => rfl)) pa_nil))))))
        pss_nil)
      (pss_cons (ps_if (pt_cmpR (op_eqD hr.units) (pv 1) pe_str (nomark _))
        (pss_one (ps_ret (pe_and (pe_cmpR op_eq (pe_callB call_len_seq (by rfl) T.m_len (by decide +kernel) (pa_cons (pv 0) pa_nil)) pe_int (nomark _)) (pe_one (pe_cal C_dif (hr.mono (by decide)) (by rfl) (pa_cons (pe_ix ix_tup (pv 0) pe_int (fun _ _ => rfl)) pa_nil))))))
        pss_nil)
      (pss_one (ps_ret pe_bl))))))), ?_⟩
    obtain ⟨xs, ha, hp⟩ := id hst
    have hT : ∀ H' : Hp, Same H H' → SqT K H' a xs := fun _ s' => Same.tupS s' ha
    refine ⟨_, rfl, a, xs, rfl, .inr (hT _ (Same.refl H)), _, _, rfl, rfl, _, rfl, ?_⟩
    have hlen := hp.length
    match xs, ps, hp, hT, ho, hlen, q with
    | [], [], _, _, _, _, q => exact iteT (q H (Same.refl H))
    | [_], [_], _, _, _, _, q => exact iteT (q H (Same.refl H))
    | x0 :: x1 :: xr, w0 :: p0 :: rest, .cons h0 (.cons h1 hr'), hT, ho, hlen, q =>
      refine iteB (fun h => ?_) (fun _ => ?_)
      · have := of_decide_eq_true h
        simp only [List.length_cons] at this
        omega
      have o0 := ho w0 List.mem_cons_self
      have o1 := ho p0 (List.mem_cons_of_mem _ List.mem_cons_self)
      have hle : xr.length = rest.length := hr'.length
      refine ⟨_, rfl, a, _, 1, x1, rfl, rfl, hT _ (Same.refl H), atI_nat (j := 1) rfl, x1, p0, rfl, h1, o1, fun H1 s1 => ⟨_, rfl, iteB (fun hn => ?_) (fun hn => ?_)⟩⟩
      · have e : stepB (w0 :: p0 :: rest) = false := by
          have : nmP p0 = false := by simpa using hn
          simp only [stepB, this, Bool.false_and]
        exact e ▸ q H1 s1
      have hn' : nmP p0 = true := by simpa using hn
      have eS : stepB (w0 :: p0 :: rest) = (if (isW w0 wBegin || isW w0 wQuit) = true then decide (rest.length = 0) else if isW w0 wRead = true then decide (rest.length = 1) && nmP (rest.headD (.s wBegin)) else if isW w0 wClose = true then decide (rest.length = 1) && difP (rest.headD (.s wBegin)) else false) := by
        simp only [stepB, hn', Bool.true_and]
      refine ⟨_, rfl, a, _, 0, x0, rfl, rfl, hT _ s1, atI_nat (j := 0) rfl, ?_⟩
      have dp0 : ∀ H', Same H H' → Dp K H' x0 (pd w0) := fun H' s' => (h0.same s').dp
      have sh0 := o0.sh
      -- begin, quit
      refine ⟨_, rfl, pd w0, .str wBegin, dp0 _ s1, .str _, sh0, shW _ okb, _, rfl, ?_⟩
      rw [eqv_w]
      have lenT : ∀ H', Same H H' → (SqL K H' a (x0 :: x1 :: xr) ∨ SqT K H' a (x0 :: x1 :: xr)) := fun H' s' => .inr (hT H' s')
      have fin1 : ∀ n : Nat, decide (V.int (((x0 :: x1 :: xr).length : Nat) : Int) = V.int (((n + 2 : Nat)) : Int)) = decide (rest.length = n) := fun n => by
        rw [lenI]
        have e : ((x0 :: x1 :: xr).length = n + 2) ↔ rest.length = n := by
          simp only [List.length_cons]
          omega
        by_cases h : rest.length = n
        · rw [decide_eq_true h, decide_eq_true (e.mpr h)]
        · rw [decide_eq_false h, decide_eq_false (fun z => h (e.mp z))]
      have ret0 : (isW w0 wBegin || isW w0 wQuit) = true → Q (.bl (decide (V.int (((x0 :: x1 :: xr).length : Nat) : Int) = V.int ((2 : Nat) : Int)))) H1 := fun hb => by
        rw [fin1 0]
        have e : stepB (w0 :: p0 :: rest) = decide (rest.length = 0) := by rw [eS, if_pos hb]
        rw [← e]
        exact q H1 s1
      refine iteB (fun hb => ?_) (fun hb => ?_)
      · exact ⟨_, rfl, a, _, rfl, lenT _ s1, rfl, ret0 (by rw [hb]; rfl)⟩
      refine ⟨_, rfl, pd w0, .str wQuit, dp0 _ s1, .str _, sh0, shW _ okq, _, rfl, ?_⟩
      rw [eqv_w]
      refine iteB (fun hq => ?_) (fun hq => ?_)
      · exact ⟨_, rfl, a, _, rfl, lenT _ s1, rfl, ret0 (by rw [hq, Bool.or_true])⟩
      have e1 : (isW w0 wBegin || isW w0 wQuit) = false := by rw [hb, hq]; rfl
      rw [e1, if_neg Bool.false_ne_true] at eS
      -- the third part
      have third : ∀ (g : Part → Bool) (C : Prop), True → True := fun _ _ _ => trivial
      refine ⟨_, rfl, pd w0, .str wRead, dp0 _ s1, .str _, sh0, shW _ okr, _, rfl, ?_⟩
      rw [eqv_w]
      refine iteB (fun hrd => ?_) (fun hrd => ?_)
      · rw [hrd, if_pos rfl] at eS
        refine ⟨_, rfl, a, _, rfl, lenT _ s1, rfl, _, rfl, ?_⟩
        have f1 := fin1 1
        refine iteB (fun h3 => ?_) (fun h3 => ?_)
        · have h3' : rest.length = 1 := of_decide_eq_true (f1.symm.trans h3)
          obtain ⟨x2, p2, rfl, rfl, h2⟩ := one_pd hr' h3'
          refine ⟨_, rfl, a, _, 2, x2, rfl, rfl, hT _ s1, atI_nat (j := 2) rfl, x2, p2, rfl, h2.same s1, ho p2 (List.mem_cons_of_mem _ (List.mem_cons_of_mem _ List.mem_cons_self)), fun H2 s2 => ?_⟩
          have e : stepB [w0, p0, p2] = nmP p2 := by rw [eS]; rfl
          exact e ▸ q H2 (s1.trans s2)
        · have h3' : decide (rest.length = 1) = false := f1.symm.trans h3
          rw [h3', Bool.false_and] at eS
          exact eS ▸ q H1 s1
      rw [hrd, if_neg Bool.false_ne_true] at eS
      refine ⟨_, rfl, pd w0, .str wClose, dp0 _ s1, .str _, sh0, shW _ okc, _, rfl, ?_⟩
      rw [eqv_w]
      refine iteB (fun hcl => ?_) (fun hcl => ?_)
      · rw [hcl, if_pos rfl] at eS
        refine ⟨_, rfl, a, _, rfl, lenT _ s1, rfl, _, rfl, ?_⟩
        have f1 := fin1 1
        refine iteB (fun h3 => ?_) (fun h3 => ?_)
        · have h3' : rest.length = 1 := of_decide_eq_true (f1.symm.trans h3)
          obtain ⟨x2, p2, rfl, rfl, h2⟩ := one_pd hr' h3'
          refine ⟨_, rfl, a, _, 2, x2, rfl, rfl, hT _ s1, atI_nat (j := 2) rfl, x2, p2, rfl, h2.same s1, ho p2 (List.mem_cons_of_mem _ (List.mem_cons_of_mem _ List.mem_cons_self)), fun H2 s2 => ?_⟩
          have e : stepB [w0, p0, p2] = difP p2 := by rw [eS]; rfl
          exact e ▸ q H2 (s1.trans s2)
        · have h3' : decide (rest.length = 1) = false := f1.symm.trans h3
          rw [h3', Bool.false_and] at eS
          exact eS ▸ q H1 s1
      · rw [hcl, if_neg Bool.false_ne_true] at eS
        exact eS ▸ q H1 s1
end
end Kx

/-! walks, a search by paths, a search by levels -/
namespace Kg
variable {α : Type} [DecidableEq α]
theorem nd_le : ∀ {l m : List α}, l.Nodup → (∀ x ∈ l, x ∈ m) → l.length ≤ m.length
  | [], m, _, _ => Nat.zero_le _
  | x :: l, m, h, hs => by
    obtain ⟨h1, h2⟩ := List.nodup_cons.mp h
    have hx : x ∈ m := hs x List.mem_cons_self
    have h3 := nd_le (l := l) (m := m.erase x) h2 fun y hy => (List.mem_erase_of_ne (fun e : y = x => h1 (by rw [← e]; exact hy))).mpr (hs y (List.mem_cons_of_mem _ hy))
    rw [List.length_erase_of_mem hx] at h3
    have := List.length_pos_of_mem hx
    rw [List.length_cons]
    omega
inductive Wk (arcs : List (α × α)) (s : α) : List α → α → Prop
  | one : Wk arcs s [s] s
  | snoc {p : List α} {x y : α} : Wk arcs s p x → (x, y) ∈ arcs → Wk arcs s (p ++ [y]) y
theorem Wk.last {arcs : List (α × α)} {s x : α} {p : List α} (h : Wk arcs s p x) : p.getLast? = some x := by
  cases h with
  | one => rfl
  | snoc h hm => simp
theorem Wk.pos {arcs : List (α × α)} {s x : α} {p : List α} (h : Wk arcs s p x) : 1 ≤ p.length := by
  cases h with
  | one => exact Nat.le_refl _
  | snoc h hm => simp
theorem Wk.head {arcs : List (α × α)} {s x : α} {p : List α} (h : Wk arcs s p x) : p.head? = some s := by
  induction h with
  | one => rfl
  | snoc h hm ih => rw [List.head?_append, ih]; rfl
theorem Wk.one_eq {arcs : List (α × α)} {s x : α} {p : List α} (h : Wk arcs s p x) (hl : p.length ≤ 1) : x = s := by
  cases h with
  | one => rfl
  | snoc h hm =>
    have := h.pos
    rw [List.length_append, List.length_singleton] at hl
    omega
theorem Wk.mem {arcs : List (α × α)} {s x : α} {p : List α} (h : Wk arcs s p x) : ∀ y ∈ p, y = s ∨ ∃ z, (z, y) ∈ arcs := by
  induction h with
  | one => intro y hy; exact .inl (List.mem_singleton.mp hy)
  | snoc h hm ih =>
    intro y hy
    rcases List.mem_append.mp hy with hy | hy
    · exact ih y hy
    · rw [List.mem_singleton.mp hy]
      exact .inr ⟨_, hm⟩
/-- arcs lead from each to the next -/
theorem Wk.arcs {arcs : List (α × α)} {s x : α} {p : List α} (h : Wk arcs s p x) : ∀ (i : Nat) (a b : α), p[i]? = some a → p[i + 1]? = some b → (a, b) ∈ arcs := by
  induction h with
  | one => intro i a b h1 h2; simp at h2
  | @snoc p x y h hm ih =>
    intro i a b h1 h2
    by_cases hi : i + 1 < p.length
    · rw [List.getElem?_append_left (by omega)] at h1
      rw [List.getElem?_append_left hi] at h2
      exact ih i a b h1 h2
    · have hlen := (List.getElem?_eq_some_iff.mp h2).1
      rw [List.length_append, List.length_singleton] at hlen
      have e : i + 1 = p.length := by omega
      rw [List.getElem?_append_right (by omega), show i + 1 - p.length = 0 by omega] at h2
      rw [List.getElem?_append_left (by omega)] at h1
      have hl := h.last
      rw [List.getLast?_eq_getElem?, show p.length - 1 = i by omega, h1] at hl
      have e1 : a = x := Option.some.inj hl
      have e2 : y = b := by simpa using h2
      rw [e1, ← e2]
      exact hm
def Sh (arcs : List (α × α)) (s : α) (goals p : List α) : Prop := (∃ g, g ∈ goals ∧ Wk arcs s p g) ∧ p.Nodup ∧ ∀ q h, Wk arcs s q h → h ∈ goals → p.length ≤ q.length
def NoW (arcs : List (α × α)) (s : α) (goals : List α) : Prop := ∀ q h, Wk arcs s q h → h ∉ goals
/-! ### by paths -/
structure BI (arcs : List (α × α)) (s : α) (goals : List α) (ps : List (List α)) (es : List α) (k : Nat) : Prop where
  len : es.length = ps.length
  wk : ∀ (i : Nat) (p : List α), ps[i]? = some p → ∃ e, es[i]? = some e ∧ Wk arcs s p e ∧ p.Nodup ∧ ∀ x ∈ p, x ∈ es
  nd : es.Nodup
  zero : ps[0]? = some [s]
  mono : ∀ (i j : Nat) (p q : List α), i ≤ j → ps[i]? = some p → ps[j]? = some q → p.length ≤ q.length
  far : ∀ (j : Nat) (p q : List α), ps[k]? = some p → ps[j]? = some q → q.length ≤ p.length + 1
  done : ∀ (i : Nat) (p : List α) (e : α), i < k → ps[i]? = some p → es[i]? = some e → e ∉ goals ∧ ∀ y, (e, y) ∈ arcs → ∃ (j : Nat) (q : List α), ps[j]? = some q ∧ es[j]? = some y ∧ q.length ≤ p.length + 1
  le : k ≤ ps.length
theorem bi_start (arcs : List (α × α)) (s : α) (goals : List α) : BI arcs s goals [[s]] [s] 0 where
  len := rfl
  wk := fun i p h => by
    match i, h with
    | 0, h =>
      have e : [s] = p := by simpa using h
      subst e
      exact ⟨s, rfl, .one, by simp, fun x hx => hx⟩
    | i + 1, h => simp at h
  nd := by simp
  zero := rfl
  mono := fun i j p q hij h1 h2 => by
    match i, j, h1, h2 with
    | 0, 0, h1, h2 => rw [h1] at h2; rw [Option.some.inj h2]; exact Nat.le_refl _
    | i + 1, _, h1, _ => simp at h1
    | 0, j + 1, _, h2 => simp at h2
  far := fun j p q h1 h2 => by
    match j, h2 with
    | 0, h2 => rw [h1] at h2; rw [Option.some.inj h2]; omega
    | j + 1, h2 => simp at h2
  done := fun i p e h => absurd h (Nat.not_lt_zero i)
  le := Nat.zero_le _
theorem BI.bound {arcs : List (α × α)} {s : α} {goals : List α} {ps : List (List α)} {es : List α} {k : Nat} (h : BI arcs s goals ps es k) : ps.length ≤ arcs.length + 1 := by
  rw [← h.len]
  have h1 := nd_le (l := es) (m := s :: arcs.map (·.2)) h.nd fun x hx => by
    obtain ⟨i, hi⟩ := List.mem_iff_getElem?.mp hx
    have hl := (List.getElem?_eq_some_iff.mp hi).1
    rw [h.len] at hl
    obtain ⟨e, h1, h2, h3, h4⟩ := h.wk i ps[i] (List.getElem?_eq_getElem hl)
    rw [hi] at h1
    rw [Option.some.inj h1]
    rcases h2.mem e (by have := h2.last; exact List.mem_of_getLast? this) with h | ⟨z, hz⟩
    · rw [h]; exact List.mem_cons_self
    · exact List.mem_cons_of_mem _ (List.mem_map.mpr ⟨_, hz, rfl⟩)
  rw [List.length_cons, List.length_map] at h1
  exact h1
theorem BI.path_le {arcs : List (α × α)} {s : α} {goals : List α} {ps : List (List α)} {es : List α} {k i : Nat} {p : List α} (h : BI arcs s goals ps es k) (hp : ps[i]? = some p) : p.length ≤ arcs.length + 1 := by
  obtain ⟨e, h1, h2, h3, h4⟩ := h.wk i p hp
  have := nd_le h3 h4
  rw [h.len] at this
  exact Nat.le_trans this h.bound
/-- one more path -/
theorem BI.add {arcs : List (α × α)} {s : α} {goals : List α} {ps : List (List α)} {es : List α} {k : Nat} {p0 : List α} {e0 y : α} (h : BI arcs s goals ps es k) (hp : ps[k]? = some p0) (he : es[k]? = some e0) (hy : y ∉ es) (ha : (e0, y) ∈ arcs) :
    BI arcs s goals (ps ++ [p0 ++ [y]]) (es ++ [y]) k := by
  obtain ⟨e1, g1, g2, g3, g4⟩ := h.wk k p0 hp
  have ee : e1 = e0 := Option.some.inj (g1.symm.trans he)
  subst ee
  have hk : k < ps.length := (List.getElem?_eq_some_iff.mp hp).1
  have old : ∀ {i : Nat} {q : List α}, (ps ++ [p0 ++ [y]])[i]? = some q → (i < ps.length ∧ ps[i]? = some q) ∨ (i = ps.length ∧ q = p0 ++ [y]) := fun {i q} hq => by
    by_cases hi : i < ps.length
    · rw [List.getElem?_append_left hi] at hq
      exact .inl ⟨hi, hq⟩
    · have hl := (List.getElem?_eq_some_iff.mp hq).1
      rw [List.length_append, List.length_singleton] at hl
      have e : i = ps.length := by omega
      rw [e, List.getElem?_append_right (Nat.le_refl _), Nat.sub_self] at hq
      exact .inr ⟨e, by simpa using hq.symm⟩
  refine ⟨by rw [List.length_append, List.length_append, h.len, List.length_singleton, List.length_singleton], fun i q hq => ?_, ?_, ?_, fun i j p q hij h1 h2 => ?_, fun j p q h1 h2 => ?_, fun i p e hi h1 h2 => ?_, by rw [List.length_append]; have := h.le; omega⟩
  · rcases old hq with ⟨hi, hq⟩ | ⟨rfl, rfl⟩
    · obtain ⟨e, a1, a2, a3, a4⟩ := h.wk i q hq
      exact ⟨e, by rw [List.getElem?_append_left (by rw [h.len]; exact hi)]; exact a1, a2, a3, fun x hx => List.mem_append_left _ (a4 x hx)⟩
    · refine ⟨y, by rw [← h.len]; simp, g2.snoc ha, ?_, fun x hx => ?_⟩
      · rw [List.nodup_append]
        refine ⟨g3, by simp, fun a ha' b hb e => ?_⟩
        rw [List.mem_singleton.mp hb] at e
        exact hy (e ▸ g4 a ha')
      · rcases List.mem_append.mp hx with hx | hx
        · exact List.mem_append_left _ (g4 x hx)
        · exact List.mem_append_right _ hx
  · rw [List.nodup_append]
    refine ⟨h.nd, by simp, fun a ha' b hb e => ?_⟩
    rw [List.mem_singleton.mp hb] at e
    exact hy (e ▸ ha')
  · rw [List.getElem?_append_left (by omega)]
    exact h.zero
  · rcases old h2 with ⟨hj, h2⟩ | ⟨rfl, rfl⟩
    · rcases old h1 with ⟨hi, h1⟩ | ⟨rfl, rfl⟩
      · exact h.mono i j p q hij h1 h2
      · omega
    · rw [List.length_append, List.length_singleton]
      rcases old h1 with ⟨hi, h1⟩ | ⟨_, rfl⟩
      · exact h.far i p0 p hp h1
      · rw [List.length_append, List.length_singleton]; exact Nat.le_refl _
  · rw [List.getElem?_append_left hk, hp] at h1
    rw [← Option.some.inj h1]
    rcases old h2 with ⟨hj, h2⟩ | ⟨rfl, rfl⟩
    · exact h.far j p0 q hp h2
    · rw [List.length_append, List.length_singleton]; exact Nat.le_refl _
  · rw [List.getElem?_append_left (by omega)] at h1
    rw [List.getElem?_append_left (by rw [h.len]; omega)] at h2
    obtain ⟨a1, a2⟩ := h.done i p e hi h1 h2
    refine ⟨a1, fun z hz => ?_⟩
    obtain ⟨j, q, b1, b2, b3⟩ := a2 z hz
    have hj := (List.getElem?_eq_some_iff.mp b1).1
    exact ⟨j, q, by rw [List.getElem?_append_left hj]; exact b1, by rw [List.getElem?_append_left (by rw [h.len]; exact hj)]; exact b2, b3⟩
/-- the next turn -/
theorem BI.next {arcs : List (α × α)} {s : α} {goals : List α} {ps : List (List α)} {es : List α} {k : Nat} {p0 : List α} {e0 : α} (h : BI arcs s goals ps es k) (hp : ps[k]? = some p0) (he : es[k]? = some e0) (hg : e0 ∉ goals) (ha : ∀ y, (e0, y) ∈ arcs → y ∈ es) :
    BI arcs s goals ps es (k + 1) := by
  have hk : k < ps.length := (List.getElem?_eq_some_iff.mp hp).1
  refine ⟨h.len, h.wk, h.nd, h.zero, h.mono, fun j p q h1 h2 => ?_, fun i p e hi h1 h2 => ?_, hk⟩
  · have a := h.far j p0 q hp h2
    have b := h.mono k (k + 1) p0 p (Nat.le_succ _) hp h1
    omega
  · by_cases hik : i < k
    · exact h.done i p e hik h1 h2
    · have e1 : i = k := by omega
      subst e1
      rw [hp] at h1
      rw [he] at h2
      rw [← Option.some.inj h1, ← Option.some.inj h2]
      refine ⟨hg, fun y hy => ?_⟩
      obtain ⟨j, hj⟩ := List.mem_iff_getElem?.mp (ha y hy)
      have hl := (List.getElem?_eq_some_iff.mp hj).1
      rw [h.len] at hl
      exact ⟨j, ps[j], List.getElem?_eq_getElem hl, hj, h.far j p0 _ hp (List.getElem?_eq_getElem hl)⟩
theorem BI.start0 {arcs : List (α × α)} {s : α} {goals : List α} {ps : List (List α)} {es : List α} {k : Nat} (h : BI arcs s goals ps es k) : es[0]? = some s := by
  obtain ⟨e, h1, h2, _⟩ := h.wk 0 [s] h.zero
  have := h2.one_eq (Nat.le_refl _)
  rw [this] at h1
  exact h1
theorem BI.found {arcs : List (α × α)} {s : α} {goals : List α} {ps : List (List α)} {es : List α} {k : Nat} {p : List α} {e : α} (h : BI arcs s goals ps es k) (hp : ps[k]? = some p) (he : es[k]? = some e) (hg : e ∈ goals) : Sh arcs s goals p := by
  obtain ⟨e1, g1, g2, g3, g4⟩ := h.wk k p hp
  have ee : e1 = e := Option.some.inj (g1.symm.trans he)
  subst ee
  refine ⟨⟨e1, hg, g2⟩, g3, ?_⟩
  have key : ∀ q x, Wk arcs s q x → (∃ (i : Nat) (p' : List α), i < k ∧ ps[i]? = some p' ∧ es[i]? = some x ∧ p'.length ≤ q.length) ∨ p.length ≤ q.length := by
    intro q x w
    induction w with
    | one =>
      by_cases h0 : k = 0
      · subst h0
        rw [h.zero] at hp
        rw [← Option.some.inj hp]
        exact .inr (Nat.le_refl _)
      · exact .inl ⟨0, [s], by omega, h.zero, h.start0, Nat.le_refl _⟩
    | @snoc q x y w hm ih =>
      rw [List.length_append, List.length_singleton]
      rcases ih with ⟨i, p', hi, h1, h2, h3⟩ | h3
      · obtain ⟨j, q', b1, b2, b3⟩ := (h.done i p' x hi h1 h2).2 y hm
        by_cases hj : j < k
        · exact .inl ⟨j, q', hj, b1, b2, by omega⟩
        · have := h.mono k j p q' (by omega) hp b1
          exact .inr (by omega)
      · exact .inr (by omega)
  intro q x w hx
  rcases key q x w with ⟨i, p', hi, h1, h2, h3⟩ | h3
  · exact absurd hx (h.done i p' x hi h1 h2).1
  · exact h3
theorem BI.none {arcs : List (α × α)} {s : α} {goals : List α} {ps : List (List α)} {es : List α} (h : BI arcs s goals ps es ps.length) : NoW arcs s goals := by
  have key : ∀ q x, Wk arcs s q x → ∃ (i : Nat) (p' : List α), i < ps.length ∧ ps[i]? = some p' ∧ es[i]? = some x := by
    intro q x w
    induction w with
    | one => exact ⟨0, [s], (List.getElem?_eq_some_iff.mp h.zero).1, h.zero, h.start0⟩
    | @snoc q x y w hm ih =>
      obtain ⟨i, p', hi, h1, h2⟩ := ih
      obtain ⟨j, q', b1, b2, b3⟩ := (h.done i p' x hi h1 h2).2 y hm
      exact ⟨j, q', (List.getElem?_eq_some_iff.mp b1).1, b1, b2⟩
  intro q x w
  obtain ⟨i, p', hi, h1, h2⟩ := key q x w
  exact (h.done i p' x hi h1 h2).1
/-! ### by levels -/
structure LI (arcs : List (α × α)) (s : α) (goals : List α) (k : Nat) (seen lev : List α) : Prop where
  s_in : s ∈ seen
  lv : ∀ x ∈ lev, x ∈ seen ∧ ∃ p, Wk arcs s p x ∧ p.length = k + 1
  old : ∀ x ∈ seen, x ∉ lev → x ∉ goals ∧ ∀ y, (x, y) ∈ arcs → y ∈ seen
  cov : ∀ p x, Wk arcs s p x → p.length ≤ k + 1 → x ∈ seen
  min : ∀ p x, Wk arcs s p x → p.length ≤ k → x ∉ goals
theorem li_start (arcs : List (α × α)) (s : α) (goals : List α) : LI arcs s goals 0 [s] [s] where
  s_in := List.mem_cons_self
  lv := fun x hx => by
    have e := List.mem_singleton.mp hx
    subst e
    exact ⟨hx, [x], .one, rfl⟩
  old := fun x h1 h2 => absurd h1 h2
  cov := fun p x w hl => by rw [w.one_eq hl]; exact List.mem_cons_self
  min := fun p x w hl => by have := w.pos; omega
theorem LI.next {arcs : List (α × α)} {s : α} {goals : List α} {k : Nat} {seen lev later : List α} (h : LI arcs s goals k seen lev) (hg : ∀ x ∈ lev, x ∉ goals) (ha : ∀ x ∈ lev, ∀ y, (x, y) ∈ arcs → y ∈ seen ++ later) (hl : ∀ y ∈ later, ∃ x ∈ lev, (x, y) ∈ arcs) :
    LI arcs s goals (k + 1) (seen ++ later) later := by
  have hs : ∀ x ∈ seen, x ∉ goals ∧ ∀ y, (x, y) ∈ arcs → y ∈ seen ++ later := fun x hx => by
    by_cases hv : x ∈ lev
    · exact ⟨hg x hv, ha x hv⟩
    · exact ⟨(h.old x hx hv).1, fun y hy => List.mem_append_left _ ((h.old x hx hv).2 y hy)⟩
  refine ⟨List.mem_append_left _ h.s_in, fun y hy => ?_, fun x hx hv => ?_, fun p x w hle => ?_, fun p x w hle => (hs x (h.cov p x w hle)).1⟩
  · obtain ⟨x, hx, hm⟩ := hl y hy
    obtain ⟨_, p, w, e⟩ := h.lv x hx
    exact ⟨List.mem_append_right _ hy, p ++ [y], w.snoc hm, by rw [List.length_append, e]; rfl⟩
  · rcases List.mem_append.mp hx with hx | hx
    · exact hs x hx
    · exact absurd hx hv
  · cases w with
    | one => exact List.mem_append_left _ h.s_in
    | @snoc p x y w hm =>
      rw [List.length_append, List.length_singleton] at hle
      exact (hs x (h.cov p x w (by omega))).2 _ hm
/-! ### the chain -/
theorem chain_walk {c : Nat → α} {arcs : List (α × α)} (inj : ∀ i j, i < 16 → j < 16 → c i = c j → i = j) (ha : ∀ x y, (x, y) ∈ arcs → ∃ i j, i < 16 ∧ j < 16 ∧ x = c i ∧ y = c j ∧ (j < i ∨ j = i + 1)) :
    ∀ {p : List α} {x : α}, Wk arcs (c 0) p x → ∃ m, m < 16 ∧ x = c m ∧ m + 1 ≤ p.length ∧ (p.length = m + 1 → p = (List.range (m + 1)).map c) := by
  intro p x w
  induction w with
  | one => exact ⟨0, by decide, rfl, Nat.le_refl _, fun _ => rfl⟩
  | @snoc p x y w hm ih =>
    obtain ⟨m, hm16, e, hl, hp⟩ := ih
    obtain ⟨i, j, hi, hj, e1, e2, hij⟩ := ha x y hm
    have : m = i := inj m i hm16 hi (e.symm.trans e1)
    subst this
    refine ⟨j, hj, e2, ?_, fun hlen => ?_⟩
    · rw [List.length_append, List.length_singleton]
      omega
    · rw [List.length_append, List.length_singleton] at hlen
      rcases hij with hij | hij
      · omega
      · subst hij
        rw [hp (by omega), List.range_succ (n := m + 1), List.map_append, e2]
        rfl
theorem chain_is {c : Nat → α} {arcs : List (α × α)} (hb : ∀ i, i + 1 < 16 → (c i, c (i + 1)) ∈ arcs) : ∀ m, m < 16 → Wk arcs (c 0) ((List.range (m + 1)).map c) (c m)
  | 0, _ => .one
  | m + 1, h => by
    rw [List.range_succ, List.map_append]
    exact (chain_is hb m (by omega)).snoc (hb m h)
theorem chain_short {c : Nat → α} {arcs : List (α × α)} (inj : ∀ i j, i < 16 → j < 16 → c i = c j → i = j) (ha : ∀ x y, (x, y) ∈ arcs → ∃ i j, i < 16 ∧ j < 16 ∧ x = c i ∧ y = c j ∧ (j < i ∨ j = i + 1)) (hb : ∀ i, i + 1 < 16 → (c i, c (i + 1)) ∈ arcs)
    {m : Nat} (hm : m < 16) {p : List α} (h : Sh arcs (c 0) [c m] p) : p = (List.range (m + 1)).map c := by
  obtain ⟨⟨g, hg, w⟩, _, hmin⟩ := h
  rw [List.mem_singleton.mp hg] at w
  obtain ⟨m', h1, h2, h3, h4⟩ := chain_walk inj ha w
  have : m = m' := inj m m' hm h1 h2
  subst this
  have := hmin _ _ (chain_is hb m hm) List.mem_cons_self
  rw [List.length_map, List.length_range] at this
  exact h4 (by omega)
theorem back_short {arcs : List (α × α)} {a b : α} (hab : a ≠ b) (ha : (a, b) ∈ arcs) {p : List α} (h : Sh arcs a [b] p) : p = [a, b] := by
  obtain ⟨⟨g, hg, w⟩, _, hmin⟩ := h
  rw [List.mem_singleton.mp hg] at w
  have h2 := hmin _ _ (Wk.one.snoc ha) List.mem_cons_self
  cases w with
  | one => exact absurd rfl hab
  | @snoc q x y w hm =>
    have h1 := w.pos
    simp only [List.length_append, List.length_cons, List.length_nil] at h2
    have hq : q.length = 1 := by omega
    have hh := w.head
    match q, hq, hh with
    | [z], _, hh =>
      have : z = a := by simpa using hh
      rw [this]
      rfl
end Kg

namespace Kx
open PySem PySem.Spec PyProof.Rows L2 NdefX Kr Ke Kn Kz Ky Kg StX
/-! ### pairs in the heap -/
def PrAt (K : PySem.W.Frag) (H : Hp) (x : V) (p : Str × Str) : Prop := ∃ t : Addr, x = .ref t ∧ SqT K H t [.str p.1, .str p.2]
theorem PrAt.same {K : PySem.W.Frag} {H H' : Hp} (s : Same H H') {x : V} {p : Str × Str} (h : PrAt K H x p) : PrAt K H' x p := let ⟨t, e, g⟩ := h; ⟨t, e, Same.tupS s g⟩
theorem pd_mono {α β : Type} {F G : α → β → Prop} (h : ∀ a b, F a b → G a b) : ∀ {xs : List α} {ys : List β}, Paired F xs ys → Paired G xs ys
  | _, _, .nil => .nil
  | _, _, .cons a r => .cons (h _ _ a) (pd_mono h r)
theorem pd_len {α β : Type} {F : α → β → Prop} : ∀ {xs : List α} {ys : List β}, Paired F xs ys → xs.length = ys.length
  | _, _, .nil => rfl
  | _, _, .cons a r => by rw [List.length_cons, List.length_cons, pd_len r]
theorem pd_get {α β : Type} {F : α → β → Prop} : ∀ {xs : List α} {ys : List β}, Paired F xs ys → ∀ {i : Nat} {x : α}, xs[i]? = some x → ∃ y, ys[i]? = some y ∧ F x y
  | _, _, .nil, i, x, h => by simp at h
  | _, _, .cons (a := a) (b := b) f r, 0, x, h => ⟨b, rfl, by have e : a = x := by simpa using h
                                                              exact e ▸ f⟩
  | _, _, .cons f r, i + 1, x, h => by
    obtain ⟨y, h1, h2⟩ := pd_get r (i := i) (x := x) (by simpa using h)
    exact ⟨y, by simpa using h1, h2⟩
def Prs (K : PySem.W.Frag) (H : Hp) (a : Addr) (arcs : List (Str × Str)) : Prop := ∃ xs, SqL K H a xs ∧ Paired (PrAt K H) xs arcs
theorem Prs.same {K : PySem.W.Frag} {H H' : Hp} {a : Addr} {arcs : List (Str × Str)} (h : Prs K H a arcs) (s : Same H H') : Prs K H' a arcs := let ⟨xs, e, p⟩ := h; ⟨xs, s.seq e, pd_mono (fun _ _ z => z.same s) p⟩
/-- what arcs lead to -/
def tgt (arcs : List (Str × Str)) (x : Str) : List Str := (arcs.filter fun p => decide (p.1 = x)).map (·.2)
theorem tgt_snoc (arcs : List (Str × Str)) (p : Str × Str) (x : Str) : tgt (arcs ++ [p]) x = if p.1 = x then tgt arcs x ++ [p.2] else tgt arcs x := by
  unfold tgt
  by_cases h : p.1 = x
  · simp [List.filter_append, h]
  · simp [List.filter_append, h]
theorem tgt_mem {arcs : List (Str × Str)} {x y : Str} : y ∈ tgt arcs x ↔ (x, y) ∈ arcs := by
  unfold tgt
  rw [List.mem_map]
  constructor
  · rintro ⟨p, hp, rfl⟩
    obtain ⟨h1, h2⟩ := List.mem_filter.mp hp
    have e : p.1 = x := of_decide_eq_true h2
    rw [← e]
    exact h1
  · intro h
    exact ⟨(x, y), List.mem_filter.mpr ⟨h, decide_eq_true rfl⟩, rfl⟩
theorem tgt_len (arcs : List (Str × Str)) (x : Str) : (tgt arcs x).length ≤ arcs.length := by
  unfold tgt
  rw [List.length_map]
  exact List.length_filter_le _ _
/-- the dict of what leads on -/
structure OW (H0 H1 : Hp) (d : Addr) (kvs : List (Key × V)) (arcs : List (Str × Str)) : Prop where
  at_ : H1 d = some (.dK kvs)
  len : kvs.length ≤ arcs.length
  no : ∀ x : Str, valV kvs (.inr x) = none → tgt arcs x = []
  is : ∀ (x : Str) (v : V), valV kvs (.inr x) = some v → ∃ q : Addr, v = .ref q ∧ q ≠ d ∧ H0 q = none ∧ H1 q = some (.lst ((tgt arcs x).map V.str))
  inj : ∀ (x y : Str) (q : Addr), valV kvs (.inr x) = some (.ref q) → valV kvs (.inr y) = some (.ref q) → x = y
theorem OW.more {H0 H1 H2 : Hp} {d : Addr} {kvs : List (Key × V)} {arcs : List (Str × Str)} (h : OW H0 H1 d kvs arcs) (s : Same H1 H2) : OW H0 H2 d kvs arcs :=
  ⟨s _ _ h.at_, h.len, h.no, fun x v e => let ⟨q, a, b, c, g⟩ := h.is x v e; ⟨q, a, b, c, s _ _ g⟩, h.inj⟩
def spOnward (K : PySem.W.Frag) : Sp := fun vs H Q _ => ∃ (a : Addr) (arcs : List (Str × Str)), vs = [.ref a] ∧ Prs K H a arcs ∧ arcs.length ≤ 400 ∧ ∀ (d : Addr) kvs H', Same H H' → H d = none → OW H H' d kvs arcs → Q (.ref d) H'
abbrev s_onward : Stmt := topS 40
abbrev N_onward : List Str := ["arcs", "onward", "one", "other"]
theorem sc_onward : FnScope N_onward ["arcs"] (defScope s_onward) := ⟨rfl, rfl, rfl, by decide +kernel, rfl, by decide +kernel, by decide +kernel⟩
section
variable {P : Program} {w : World} {K : PySem.W.Frag} {mg : Str → Option Value} {base : Heap}
theorem ok_onward {f : Addr} {fd : FuncData} (F : Fun K "_onward" "_onward" s_onward f fd) : FnOk P w K mg base CX0 1 f fd ["arcs"] (spOnward K) := by
  refine F.ok sc_onward (fun vs H Q E h => ?_) (fun cdv A outer s H vs Q E hr h => ?_)
  · obtain ⟨a, arcs, rfl, _⟩ := h
    rfl
  · obtain ⟨a, arcs, rfl, ⟨xs, ea, hp⟩, hlen, q⟩ := h
    refine ⟨_, (pss_cons (ps_set (i := 1) sc_onward.nd rfl (Or.inl rfl) pe_dnewK)
      (pss_cons (ps_for PassesOwn.never rfl (pi_list (pv 0)) (pg_tup rfl (pgs_cons (pg_name (i := 2) sc_onward.nd rfl (Or.inl rfl)) (pgs_cons (pg_name (i := 3) sc_onward.nd rfl (Or.inl rfl)) pgs_nil)))
        (pss_one (ps_expr (pe_bm PySem.F.plainAttrs_list PySem.F.slot_list_append PySem.F.type_list_append mt_append (pe_dsetd (pv 1) (pv 2) (pe_lst pa_nil) ⟨by rfl, by rfl, by rfl, by rfl⟩) (pa_cons (pv 3) pa_nil)))))
      (pss_one (ps_ret (pv 1))))), ?_⟩
    intro d nd
    refine ⟨_, rfl, a, rfl, ⟨_, (same_upd nd).seq ea⟩, ?_⟩
    have hl := pd_len hp
    refine for_list (xs := xs) (fun i σ H1 => ∃ (x2 x3 : Option V) (kvs : List (Key × V)), σ = [some (.ref a), some (.ref d), x2, x3] ∧ Same H H1 ∧ OW H H1 d kvs (arcs.take i))
      ⟨none, none, [], rfl, same_upd nd, upd_same, Nat.zero_le _, fun x _ => rfl, fun x v e => (by cases e), fun x y q e => (by cases e)⟩ (fun i σ H1 _ ⟨_, _, _, _, sm, _⟩ => sm.seq ea) ?_ ?_
    · rintro i x σ H1 hx ⟨x2, x3, kvs, rfl, sm, ow⟩
      obtain ⟨⟨one, other⟩, hy, t, rfl, et⟩ := pd_get hp hx
      have hk : arcs.take (i + 1) = arcs.take i ++ [(one, other)] := by rw [List.take_add_one, hy]; rfl
      have hi : i < arcs.length := (List.getElem?_eq_some_iff.mp hy).1
      have hkl := ow.len
      rw [List.length_take] at hkl
      have hT : ∀ x, tgt (arcs.take (i + 1)) x = if one = x then tgt (arcs.take i) x ++ [other] else tgt (arcs.take i) x := fun x => by rw [hk, tgt_snoc]
      have hTl := tgt_len (arcs.take i) one
      rw [List.length_take] at hTl
      refine ⟨t, _, rfl, Same.tupS sm et, rfl, ?_⟩
      refine ⟨_, _, rfl, _, _, rfl, rfl, ?_⟩
      refine ⟨_, rfl, d, rfl, .inl ⟨kvs, .inl ow.at_⟩, _, rfl, by show 0 ≤ sizeLine; decide, fun e ne => ?_⟩
      have hde : d ≠ e := ne_of_none ow.at_ ne
      refine ⟨kvs, .inr one, (upd_ne hde).trans ow.at_, rfl, sz8 (by omega), fun v hv => ?_, fun hv => ?_⟩
      · obtain ⟨l, rfl, h1, h2, h3⟩ := ow.is one v hv
        have hle : l ≠ e := ne_of_none h3 ne
        have h3' : (upd H1 e (.lst [])) l = some (.lst ((tgt (arcs.take i) one).map V.str)) := (upd_ne hle).trans h3
        refine ⟨.inl ⟨rfl, _, .inl (.inl h3')⟩, _, rfl, l, _, _, rfl, rfl, h3', sz8 (by rw [List.length_map]; omega), ?_⟩
        have sm2 : Same H (upd (upd H1 e (.lst [])) l (.lst ((tgt (arcs.take i) one).map V.str ++ [V.str other]))) := same_mut (sm.trans (same_upd ne)) h2
        refine ⟨_, _, kvs, rfl, sm2, (upd_ne (Ne.symm h1)).trans ((upd_ne hde).trans ow.at_), by rw [List.length_take]; omega, fun x hx => ?_, fun x v hx => ?_, ow.inj⟩
        · rw [hT]
          by_cases e1 : one = x
          · rw [← e1, hv] at hx
            cases hx
          · rw [if_neg e1]
            exact ow.no x hx
        · obtain ⟨l', rfl, g1, g2, g3⟩ := ow.is x v hx
          refine ⟨l', rfl, g1, g2, ?_⟩
          rw [hT]
          by_cases e1 : one = x
          · rw [← e1, hv] at hx
            have e2 : l = l' := by injection hx with hx; injection hx
            rw [if_pos e1, ← e2, upd_same, ← e1, List.map_append]
            rfl
          · have e2 : l' ≠ l := fun e2 => e1 (ow.inj one x l hv (e2 ▸ hx))
            rw [if_neg e1, upd_ne e2, upd_ne (ne_of_none g3 ne)]
            exact g3
      · have hee : (upd (upd H1 e (.lst [])) d (.dK (putK kvs (.inr one) (.ref e)))) e = some (.lst []) := (upd_ne (Ne.symm hde)).trans upd_same
        refine ⟨.inl ⟨rfl, _, .inl (.inl hee)⟩, _, rfl, e, _, _, rfl, rfl, hee, by decide, ?_⟩
        have he0 : H e = none := sm.free ne
        have sm2 : Same H (upd (upd (upd H1 e (.lst [])) d (.dK (putK kvs (.inr one) (.ref e)))) e (.lst ([] ++ [V.str other]))) := same_mut (same_mut (sm.trans (same_upd ne)) nd) he0
        refine ⟨_, _, _, rfl, sm2, (upd_ne hde).trans upd_same, ?_, fun x hx => ?_, fun x v hx => ?_, fun x y l hx hy' => ?_⟩
        · have := length_putK kvs (.inr one) (.ref e)
          rw [List.length_take]
          omega
        · rw [valV_put] at hx
          split at hx
          · cases hx
          · rename_i h1
            rw [hT, if_neg (fun e1 => h1 (by rw [e1]))]
            exact ow.no x hx
        · rw [valV_put] at hx
          split at hx
          · rename_i h1
            have h1' : x = one := by injection h1
            injection hx with hx
            refine ⟨e, hx.symm, Ne.symm hde, he0, ?_⟩
            rw [hT, if_pos h1'.symm, h1', ow.no one hv]
            exact upd_same
          · rename_i h1
            obtain ⟨l', rfl, g1, g2, g3⟩ := ow.is x v hx
            refine ⟨l', rfl, g1, g2, ?_⟩
            have hle : l' ≠ e := ne_of_none g3 ne
            rw [hT, if_neg (fun e1 => h1 (by rw [e1])), upd_ne hle, upd_ne g1, upd_ne hle]
            exact g3
        · rw [valV_put] at hx hy'
          split at hx
          · rename_i h1
            split at hy'
            · rename_i h2
              injection h1 with h1
              injection h2 with h2
              rw [h1, h2]
            · injection hx with hx
              injection hx with hx
              subst hx
              obtain ⟨l', e1, _, _, g3⟩ := ow.is y _ hy'
              injection e1 with e1
              subst e1
              rw [g3] at ne
              cases ne
          · split at hy'
            · injection hy' with hy'
              injection hy' with hy'
              subst hy'
              obtain ⟨l', e1, _, _, g3⟩ := ow.is x _ hx
              injection e1 with e1
              subst e1
              rw [g3] at ne
              cases ne
            · exact ow.inj x y l hx hy'
    · rintro σ H1 ⟨x2, x3, kvs, rfl, sm, ow⟩
      rw [hl, List.take_length] at ow
      exact ⟨_, rfl, q d kvs H1 sm nd ow⟩
end
theorem at_last {l : List Str} {e : Str} (h : l.getLast? = some e) : atI (l.map V.str) (-1) = some (.str e) := by
  have hne : l ≠ [] := fun z => by rw [z] at h; cases h
  have e2 : l = l.dropLast ++ [e] := by
    have h1 := List.dropLast_concat_getLast hne
    rw [List.getLast?_eq_some_getLast hne] at h
    rw [← Option.some.inj h]
    exact h1.symm
  rw [e2, List.map_append]
  exact atI_last _ _
theorem put_new {κ : Type} [DecidableEq κ] {kvs : List (κ × V)} {k : κ} {v : V} (h : valV kvs k = none) : putK kvs k v = kvs ++ [(k, v)] := by
  unfold putK
  rw [if_neg]
  rw [valV_any, h]
  exact Bool.noConfusion
/-- a path in the heap -/
def PhAt (H1 : Hp) (P : Addr) (H : Hp) (x : V) (p : List Str) : Prop := ∃ q : Addr, x = .ref q ∧ q ≠ P ∧ H1 q = none ∧ H q = some (.lst (p.map V.str))
/-- the search's state -/
structure SS (H1 : Hp) (P S : Addr) (H : Hp) (xs : List V) (ps : List (List Str)) (sv : List (Key × V)) (es : List Str) : Prop where
  same : Same H1 H
  pt : H P = some (.lst xs)
  ph : Paired (PhAt H1 P H) xs ps
  sn : H S = some (.dK sv)
  ks : sv.map (·.1) = es.map Sum.inr
theorem SS.val {H1 : Hp} {P S : Addr} {H : Hp} {xs : List V} {ps : List (List Str)} {sv : List (Key × V)} {es : List Str} (h : SS H1 P S H xs ps sv es) (y : Str) : (valV sv (.inr y)).isSome = decide (y ∈ es) := by
  cases e : valV sv (.inr y) with
  | none =>
    have := valV_not e
    rw [h.ks] at this
    rw [decide_eq_false (fun hy => this (List.mem_map.mpr ⟨y, hy, rfl⟩))]
    rfl
  | some v =>
    have := valV_in e
    rw [h.ks] at this
    obtain ⟨z, hz, e2⟩ := List.mem_map.mp this
    injection e2 with e2
    rw [decide_eq_true (e2 ▸ hz)]
    rfl
theorem SS.more {H1 : Hp} {P S : Addr} {H H' : Hp} {xs : List V} {ps : List (List Str)} {sv : List (Key × V)} {es : List Str} (h : SS H1 P S H xs ps sv es) (s : Same H H') : SS H1 P S H' xs ps sv es :=
  ⟨h.same.trans s, s _ _ h.pt, pd_mono (fun _ _ ⟨q, a, b, b', c⟩ => ⟨q, a, b, b', s _ _ c⟩) h.ph, s _ _ h.sn, h.ks⟩
/-- one more path, behind the mark that its end is seen -/
theorem SS.add {H1 : Hp} {P S : Addr} {H : Hp} {xs : List V} {ps : List (List Str)} {sv : List (Key × V)} {es : List Str} {y : Str} {p : List Str} {l : Addr} (h : SS H1 P S H xs ps sv es) (nP : H1 P = none) (nS : H1 S = none) (hPS : P ≠ S) (hy : y ∉ es)
    (nl : (upd H S (.dK (putK sv (.inr y) (.bl true)))) l = none) :
    SS H1 P S (upd (upd (upd H S (.dK (putK sv (.inr y) (.bl true)))) l (.lst (p.map V.str))) P (.lst (xs ++ [.ref l]))) (xs ++ [.ref l]) (ps ++ [p]) (putK sv (.inr y) (.bl true)) (es ++ [y]) := by
  have hn : valV sv (.inr y) = none := by
    have := h.val y
    rw [decide_eq_false hy] at this
    cases e : valV sv (.inr y) with
    | none => rfl
    | some v => rw [e] at this; cases this
  have s1 : Same H1 (upd H S (.dK (putK sv (.inr y) (.bl true)))) := same_mut h.same nS
  have hlP : l ≠ P := fun e => by
    rw [e, upd_ne hPS, h.pt] at nl
    cases nl
  have hlS : l ≠ S := fun e => by
    rw [e, upd_same] at nl
    cases nl
  refine ⟨same_mut (same_mut s1 (s1.free nl)) nP, upd_same, .snoc (pd_mono (fun x q hx => ?_) h.ph) ⟨l, rfl, hlP, s1.free nl, (upd_ne hlP).trans upd_same⟩, ?_, ?_⟩
  · obtain ⟨b, e1, e2, e4, e3⟩ := hx
    have hbS : b ≠ S := fun e => by
      rw [e, h.sn] at e3
      cases e3
    have hbl : b ≠ l := fun e => by
      rw [← e, upd_ne hbS, e3] at nl
      cases nl
    exact ⟨b, e1, e2, e4, by rw [upd_ne e2, upd_ne hbl, upd_ne hbS]; exact e3⟩
  · rw [upd_ne (Ne.symm hPS), upd_ne (Ne.symm hlS), upd_same]
  · rw [put_new hn, List.map_append, List.map_append, h.ks]
    rfl
def spSP (K : PySem.W.Frag) : Sp := fun vs H Q _ => ∃ (a g : Addr) (s : Str) (arcs : List (Str × Str)) (goals : List Str), vs = [.ref a, .str s, .ref g] ∧ Prs K H a arcs ∧ arcs.length ≤ 400 ∧ SqL K H g (goals.map V.str) ∧
  (∀ (p : Addr) (path : List Str) H', Same H H' → H p = none → H' p = some (.lst (path.map V.str)) → Sh arcs s goals path → Q (.ref p) H') ∧ (∀ H', Same H H' → NoW arcs s goals → Q .non H')
abbrev s_shortest_path : Stmt := topS 37
abbrev N_shortest_path : List Str := ["arcs", "start", "goals", "onward", "paths", "seen", "at", "path", "name"]
theorem sc_shortest_path : FnScope N_shortest_path ["arcs", "start", "goals"] (defScope s_shortest_path) := ⟨rfl, rfl, rfl, by decide +kernel, rfl, by decide +kernel, by decide +kernel⟩
def muS (n : Nat) : L2.St → Hp → Nat := fun σ _ => match (σ[6]? : Option (Option V)) with
  | some (some (V.int i)) => n + 2 - i.toNat
  | _ => 0
section
variable {P : Program} {w : World} {K : PySem.W.Frag} {mg : Str → Option Value} {base : Heap}
theorem ok_shortest_path {f : Addr} {fd : FuncData} (F : Fun K "shortest_path" "shortest_path" s_shortest_path f fd) (T : TxS mg) (C_onward : Cal P w K mg base "_onward" 1 (spOnward K)) : FnOk P w K mg base CX0 2 f fd ["arcs", "start", "goals"] (spSP K) := by
  refine F.ok sc_shortest_path (fun vs H Q E h => ?_) (fun cdv A outer s H vs Q E hr h => ?_)
  · obtain ⟨a, g, s, arcs, goals, rfl, _⟩ := h
    rfl
  · obtain ⟨a, g, s, arcs, goals, rfl, hA, hlen, hg, qf, qn⟩ := h
    refine ⟨_, (pss_cons (ps_set (i := 3) sc_shortest_path.nd rfl (Or.inl rfl) (pe_cal C_onward (hr.mono (by decide)) (by rfl) (pa_cons (pv 0) pa_nil)))
      (pss_cons (ps_set (i := 4) sc_shortest_path.nd rfl (Or.inl rfl) (pe_lst (pa_cons (pe_lst (pa_cons (pv 1) pa_nil)) pa_nil)))
      (pss_cons (ps_set (i := 5) sc_shortest_path.nd rfl (Or.inl rfl) (pe_disp (pps_cons (pv 1) pe_bl pps_nil) (by rfl) (by rfl) (fun z => by cases z) (by decide)))
      (pss_cons (ps_set (i := 6) sc_shortest_path.nd rfl (Or.inl rfl) pe_int)
      (pss_cons (ps_while PassesOwn.never (pt_cmpR op_lt (pv 6) (pe_callB call_len_seq (by rfl) T.m_len (by decide +kernel) (pa_cons (pv 4) pa_nil)) (nomark _))
        (pss_cons (ps_set (i := 7) sc_shortest_path.nd rfl (Or.inl rfl) (pe_ix ix_list (pv 4) (pv 6) (fun _ _ => rfl)))
        (pss_cons (ps_if (pt_cmpR op_in_seq (pe_ix ix_list (pv 7) (pe_un un_neg pe_int) (fun _ _ => rfl)) (pv 2) (by rfl))
          (pss_one (ps_ret (pv 7)))
          pss_nil)
        (pss_cons (ps_for PassesOwn.never rfl (pi_list (pe_dget2 (hu_of hr) (pv 3) (pe_ix ix_list (pv 7) (pe_un un_neg pe_int) (fun _ _ => rfl)) (pe_lst pa_nil) ⟨by rfl, by rfl, by rfl, by rfl⟩)) (pg_name (i := 8) sc_shortest_path.nd rfl (Or.inl rfl))
          (pss_one (ps_if (pt_cmp (pc_dnotin (hu_of hr) (pv 8) (pv 5)))
            (pss_cons (ps_dput (hu_of hr) (pv 5) (pv 8) pe_bl rfl)
            (pss_one (ps_expr (pe_bm PySem.F.plainAttrs_list PySem.F.slot_list_append PySem.F.type_list_append mt_append (pv 4) (pa_cons (pe_lst (pa_star (pv 7) (pa_cons (pv 8) pa_nil))) pa_nil)))))
            pss_nil)))
        (pss_one (ps_set (i := 6) sc_shortest_path.nd rfl (Or.inl rfl) (pe_op op_add (pv 6) pe_int)))))))
      (pss_one (ps_ret pe_non))))))), ?_⟩
    refine ⟨_, rfl, a, arcs, rfl, hA, hlen, fun d kvs H1 s1 nd ow => ?_⟩
    refine ⟨_, rfl, by show 1 ≤ sizeLine; decide, fun l0 nl0 => ⟨by show 1 ≤ sizeLine; decide, fun P nP => ?_⟩⟩
    intro S nS
    refine ⟨_, rfl, upd_same, [(.inr s, .bl true)], rfl, by show 1 ≤ 15; decide, ?_⟩
    have nP1 : H1 P = none := (same_upd nl0).free nP
    have hl0P : l0 ≠ P := fun e => by rw [← e, upd_same] at nP; cases nP
    have nS2 := (same_upd nP).free nS
    have nS1 : H1 S = none := (same_upd nl0).free nS2
    have hPS : P ≠ S := fun e => by rw [← e, upd_same] at nS; cases nS
    have hl0S : l0 ≠ S := fun e => by rw [← e, upd_ne hl0P, upd_same] at nS; cases nS
    have hini : SS H1 P S (upd (upd (upd (upd H1 l0 (.lst [V.str s])) P (.lst [V.ref l0])) S (.dK [])) S (.dK (mergeK [] [(Sum.inr s, V.bl true)]))) [V.ref l0] [[s]] [(Sum.inr s, V.bl true)] [s] :=
      ⟨same_mut (same_mut ((same_upd nl0).trans (same_upd nP)) nS1) nS1, by rw [upd_ne hPS, upd_ne hPS, upd_same], .cons ⟨l0, rfl, hl0P, nl0, by rw [upd_ne hl0S, upd_ne hl0S, upd_ne hl0P, upd_same]; rfl⟩ .nil, upd_same, rfl⟩
    refine while_by (fun σ Hx => ∃ (k : Nat) (x7 x8 : Option V) (xs : List V) (ps : List (List Str)) (sv : List (Key × V)) (es : List Str), σ = [some (.ref a), some (.str s), some (.ref g), some (.ref d), some (.ref P), some (.ref S), some (.int (k : Int)), x7, x8] ∧ SS H1 P S Hx xs ps sv es ∧ BI arcs s goals ps es k)
      (muS arcs.length) ⟨0, none, none, _, [[s]], _, [s], rfl, hini, bi_start arcs s goals⟩ ?_ ?_
    · rintro σ Hx ⟨k, x7, x8, xs, ps, sv, es, rfl, ss, bi⟩
      have hxl := pd_len ss.ph
      have hbd := bi.bound
      refine ⟨_, rfl, _, rfl, P, _, rfl, .inl (.inl (.inl ss.pt)), _, _, rfl, rfl, _, rfl, iteB (fun hk => ?_) (fun hk => ?_)⟩
      · have hk' : k < ps.length := by have := of_decide_eq_true hk; omega
        obtain ⟨x, hx⟩ : ∃ x, xs[k]? = some x := ⟨xs[k]'(by omega), List.getElem?_eq_getElem (by omega)⟩
        obtain ⟨p0, hp0, q0, rfl, hqP, nq1, eq0⟩ := pd_get ss.ph hx
        obtain ⟨e0, he0, w0, nd0, sub0⟩ := bi.wk k p0 hp0
        have hlast := at_last w0.last
        refine ⟨_, rfl, _, rfl, P, _, (k : Int), _, rfl, rfl, .inl (.inl ss.pt), atI_nat hx, ?_⟩
        refine ⟨_, rfl, _, rfl, q0, _, _, _, rfl, rfl, .inl (.inl eq0), hlast, _, rfl, g, _, rfl, .inl (ss.same.seq (s1.seq hg)), rfl, txt_flat goals, _, rfl, ?_⟩
        rw [if_neg Bool.false_ne_true, inV_txt]
        refine iteB (fun hG => ?_) (fun hG => ?_)
        · exact ⟨_, rfl, qf q0 p0 Hx (s1.trans ss.same) (s1.free nq1) eq0 (bi.found hp0 he0 (of_decide_eq_true hG))⟩
        · have hG' : e0 ∉ goals := of_decide_eq_false hG
          have ow' := ow.more ss.same
          refine ⟨_, rfl, d, rfl, .inl ⟨kvs, .inl ow'.at_⟩, _, rfl, _, rfl, q0, _, _, _, rfl, rfl, .inl (.inl eq0), hlast, by show 0 ≤ sizeLine; decide, fun e ne => ?_⟩
          have se : Same Hx (upd Hx e (.lst [])) := same_upd ne
          obtain ⟨L, hL1, hL2, hLP⟩ : ∃ L : Addr, (valV kvs (.inr e0)).getD (.ref e) = .ref L ∧ (upd Hx e (.lst [])) L = some (.lst ((tgt arcs e0).map V.str)) ∧ L ≠ P := by
            cases ev : valV kvs (.inr e0) with
            | none => exact ⟨e, rfl, by rw [upd_same, ow'.no e0 ev]; rfl, fun h => by rw [h, ss.pt] at ne; cases ne⟩
            | some v =>
              obtain ⟨q, rfl, _, _, g3⟩ := ow'.is e0 v ev
              obtain ⟨q', e1, _, _, g4⟩ := ow.is e0 _ ev
              injection e1 with e1
              subst e1
              exact ⟨q, rfl, se _ _ g3, fun h => by rw [h, nP1] at g4; cases g4⟩
          refine ⟨_, DGet.k (k := .inr e0) (se _ _ ow'.at_), L, hL1, ⟨_, .inl (.inl hL2)⟩, ?_⟩
          refine for_list (xs := (tgt arcs e0).map V.str) (fun j σ Hz => ∃ (x8 : Option V) (xs : List V) (ps : List (List Str)) (sv : List (Key × V)) (es : List Str), σ = [some (.ref a), some (.str s), some (.ref g), some (.ref d), some (.ref P), some (.ref S), some (.int (k : Int)), some (.ref q0), x8] ∧
              SS H1 P S Hz xs ps sv es ∧ BI arcs s goals ps es k ∧ ps[k]? = some p0 ∧ es[k]? = some e0 ∧ (∀ y ∈ (tgt arcs e0).take j, y ∈ es) ∧ Hz q0 = some (.lst (p0.map V.str)) ∧ Hz L = some (.lst ((tgt arcs e0).map V.str)))
            ⟨x8, xs, ps, sv, es, rfl, ss.more se, bi, hp0, he0, fun y hy => by simp at hy, se _ _ eq0, hL2⟩ (fun j σ Hz _ ⟨_, _, _, _, _, _, _, _, _, _, _, _, eL⟩ => .inl (.inl eL)) ?_ ?_
          · rintro j x σ Hz hxj ⟨x8, xs, ps, sv, es, rfl, ss, bi, hp0, he0, hsub, eq0, eL⟩
            obtain ⟨y, hyj, rfl⟩ : ∃ y, (tgt arcs e0)[j]? = some y ∧ x = .str y := by
              rw [List.getElem?_map] at hxj
              cases ey : (tgt arcs e0)[j]? with
              | none => rw [ey] at hxj; cases hxj
              | some n => rw [ey] at hxj; exact ⟨n, rfl, (Option.some.inj hxj).symm⟩
            have hbd := bi.bound
            have hxl := pd_len ss.ph
            have hsl : sv.length = ps.length := by
              have := congrArg List.length ss.ks
              rw [List.length_map, List.length_map] at this
              rw [this, bi.len]
            have htk : (tgt arcs e0).take (j + 1) = (tgt arcs e0).take j ++ [y] := by rw [List.take_add_one, hyj]; rfl
            refine ⟨_, rfl, _, rfl, S, _, rfl, DGet.k (k := .inr y) ss.sn, _, rfl, ?_⟩
            rw [ss.val]
            refine iteB (fun hy => ?_) (fun hy => ?_)
            · have hy' : y ∉ es := by simpa using hy
              have hqS : q0 ≠ S := fun h => by rw [h, ss.sn] at eq0; cases eq0
              have hLS : L ≠ S := fun h => by rw [h, ss.sn] at eL; cases eL
              have hpl := bi.path_le hp0
              refine ⟨_, rfl, _, rfl, S, _, rfl, DPut.k (k := .inr y) ss.sn (sz8 (by omega)), ?_⟩
              have e4 : (upd Hz S (.dK (putK sv (.inr y) (.bl true)))) P = some (.lst xs) := (upd_ne hPS).trans ss.pt
              have e7 : (upd Hz S (.dK (putK sv (.inr y) (.bl true)))) q0 = some (.lst (p0.map V.str)) := (upd_ne hqS).trans eq0
              refine ⟨_, rfl, .inl ⟨rfl, _, .inl (.inl e4)⟩, _, rfl, q0, _, rfl, .inr (.inl (.inl e7)), _, rfl, sz9 (by rw [List.length_append, List.length_map]; show p0.length + 1 ≤ 100000; omega), fun l nl => ?_⟩
              have hlP : P ≠ l := ne_of_none e4 nl
              refine ⟨P, _, _, rfl, rfl, (upd_ne hlP).trans e4, sz8 (by omega), ?_⟩
              have hadd := ss.add (p := p0 ++ [y]) nP1 nS1 hPS hy' nl
              rw [List.map_append] at hadd
              have hk2 : k < ps.length := (List.getElem?_eq_some_iff.mp hp0).1
              refine ⟨_, _, _, _, _, rfl, hadd, bi.add hp0 he0 hy' (tgt_mem.mp (List.mem_of_getElem? hyj)), (List.getElem?_append_left hk2).trans hp0, (List.getElem?_append_left (by rw [bi.len]; exact hk2)).trans he0, fun z hz => ?_, ?_, ?_⟩
              · rw [htk] at hz
                rcases List.mem_append.mp hz with hz | hz
                · exact List.mem_append_left _ (hsub z hz)
                · exact List.mem_append_right _ hz
              · rw [upd_ne hqP, upd_ne (ne_of_none e7 nl)]
                exact e7
              · have e8 : (upd Hz S (.dK (putK sv (.inr y) (.bl true)))) L = some (.lst ((tgt arcs e0).map V.str)) := (upd_ne hLS).trans eL
                rw [upd_ne hLP, upd_ne (ne_of_none e8 nl)]
                exact e8
            · have hy' : y ∈ es := by simpa using hy
              refine ⟨_, xs, ps, sv, es, rfl, ss, bi, hp0, he0, fun z hz => ?_, eq0, eL⟩
              rw [htk] at hz
              rcases List.mem_append.mp hz with hz | hz
              · exact hsub z hz
              · rw [List.mem_singleton.mp hz]
                exact hy'
          · rintro σ Hz ⟨x8, xs, ps, sv, es, rfl, ss, bi, hp0, he0, hsub, eq0, eL⟩
            have bi' := bi.next hp0 he0 hG' (fun y hy => hsub y (by rw [List.length_map, List.take_length]; exact tgt_mem.mpr hy))
            have hk2 : k < ps.length := (List.getElem?_eq_some_iff.mp hp0).1
            have hbd := bi.bound
            refine ⟨_, rfl, _, _, rfl, rfl, ⟨k + 1, _, _, xs, ps, sv, es, rfl, ss, bi'⟩, ?_⟩
            show arcs.length + 2 - ((k : Int) + 1).toNat < arcs.length + 2 - (k : Int).toNat
            omega
      · have hk' : ¬ k < xs.length := by have := of_decide_eq_false hk; omega
        have hke : k = ps.length := by have := bi.le; omega
        subst hke
        exact qn Hx (s1.trans ss.same) bi.none
    · intro σ H Q Q' hQ h
      obtain ⟨v, e1, v2, e2, p, xs, e3, e4, i, j, e5, e6, k, e7, h⟩ := h
      exact ⟨v, e1, v2, e2, p, xs, e3, e4, i, j, e5, e6, k, e7, hQ _ _ h⟩
end
end Kx

/-! raise X(..) from Y(..), both own errors, nothing being handled -/
namespace Kf
open PySem PySem.Spec PyProof.Rows HotX L2
/-- the heap behind «from b» -/
def from_ (h : Heap) (a b : Addr) : Heap := (h.update a (Obj.mapFields (·.setIfInBounds 3 (.ref b)))).update a (Obj.mapFields (·.setIfInBounds 4 (.bool true)))
theorem from_at {h : Heap} {a b : Addr} {oe : Obj} {vs : Array Value} (ha : h.get? a = some oe) (hd : oe.data = .fields vs) :
    (from_ h a b).get? a = some ((oe.mapFields (·.setIfInBounds 3 (.ref b))).mapFields (·.setIfInBounds 4 (.bool true))) ∧ ((oe.mapFields (·.setIfInBounds 3 (.ref b))).mapFields (·.setIfInBounds 4 (.bool true))).data = .fields ((vs.setIfInBounds 3 (.ref b)).setIfInBounds 4 (.bool true)) := by
  have hd3 := Obj.data_mapFields hd (·.setIfInBounds 3 (.ref b))
  have ha3 := Heap.get?_update_self (Obj.mapFields (·.setIfInBounds 3 (.ref b))) ha (Obj.isFreed_of_fields hd3)
  have hd4 := Obj.data_mapFields hd3 (·.setIfInBounds 4 (.bool true))
  exact ⟨Heap.get?_update_self (Obj.mapFields (·.setIfInBounds 4 (.bool true))) ha3 (Obj.isFreed_of_fields hd4), hd4⟩
theorem from_other {h : Heap} {a b c : Addr} (hne : a ≠ c) : (from_ h a b).get? c = h.get? c := by
  unfold from_
  rw [Heap.get?_update_other _ _ hne, Heap.get?_update_other _ _ hne]
theorem raise_from {prog : Program} {w : World} {A : Around} {E : Value → Shared → Prop} {env : Env} {s : Shared} {x c : Sem Value} {Q : Flow → Shared → Prop} (hh : A.handled = none)
    (h : wpAny (model prog w) A x (fun v s₁ => wpAny (model prog w) A c (fun u s₂ => ∃ a oe vs cls b ob vb cb, v = .ref a ∧ u = .ref b ∧ s₂.heap.get? a = some oe ∧ oe.cls = cls ∧ oe.data = .fields vs ∧ vs[1]? = some .none ∧ 4 < vs.size ∧
      s₂.heap.get? b = some ob ∧ ob.cls = cb ∧ ob.data = .fields vb ∧ PySem.W.Looks (model prog w) s₂.heap (isSubtype cls (.type "BaseException")) true ∧ PySem.W.Looks (model prog w) s₂.heap (isSubtype cb (.type "BaseException")) true ∧
      PySem.W.Looks (model prog w) (from_ s₂.heap a b) (typeOf cls) (.type "type") ∧ E (.ref a) { s₂ with heap := from_ s₂.heap a b }) E s₁) E s) :
    wpAny (model prog w) A (raiseStmt env (some x) (some c)) Q E s := by
  unfold raiseStmt
  dsimp only
  refine wpAny_bind (wpAny_mono h (fun v s₁ h₁ => ?_) fun _ _ x => x)
  refine wpAny_bind (wpAny_holding (wpAny_mono h₁ (fun u s₂ h₂ => ?_) fun _ _ x => x))
  obtain ⟨a, oe, vs, cls, b, ob, vb, cb, rfl, rfl, ha, hcls, hd, h1, hi, hb, hcb, hdb, L1, L2', L3, hE⟩ := h₂
  have LT : PySem.W.Looks (model prog w) s₂.heap (typeOf (.ref a)) cls := fun A Q E s k q => wpAny_typeOf_ref (k _ _ ha) (by rw [hcls]; exact q)
  have LI : PySem.W.Looks (model prog w) s₂.heap (isInstance (.ref a) (.type "BaseException")) true := LT.andThen L1
  have LTb : PySem.W.Looks (model prog w) s₂.heap (typeOf (.ref b)) cb := fun A Q E s k q => wpAny_typeOf_ref (k _ _ hb) (by rw [hcb]; exact q)
  have LIb : PySem.W.Looks (model prog w) s₂.heap (isInstance (.ref b) (.type "BaseException")) true := LTb.andThen L2'
  have hnt : ∀ {Q' : Bool → Shared → Prop}, Q' false s₂ → wpAny (model prog w) A (isType (.ref a)) Q' E s₂ := by
    intro Q' hq
    simp only [isType, loadHead]
    refine wpAny_bind (wpAny_loadPart ha ?_)
    rw [hd]; exact wpAny_pure hq
  have hntb : ∀ {Q' : Bool → Shared → Prop}, Q' false s₂ → wpAny (model prog w) A (isType (.ref b)) Q' E s₂ := by
    intro Q' hq
    simp only [isType, loadHead]
    refine wpAny_bind (wpAny_loadPart hb ?_)
    rw [hdb]; exact wpAny_pure hq
  have hd3 := Obj.data_mapFields hd (·.setIfInBounds 3 (.ref b))
  have ha3 := Heap.get?_update_self (Obj.mapFields (·.setIfInBounds 3 (.ref b))) ha (Obj.isFreed_of_fields hd3)
  obtain ⟨ha4, hd4⟩ := from_at (b := b) ha hd
  have s3 : 3 < vs.size := by omega
  have s4 : 4 < (vs.setIfInBounds 3 (Value.ref b)).size := by rw [set_size]; exact hi
  have h14 : ((vs.setIfInBounds 3 (Value.ref b)).setIfInBounds 4 (Value.bool true))[1]? = some Value.none := set_other (by decide) (set_other (by decide) h1)
  have hcls4 : ((oe.mapFields (·.setIfInBounds 3 (.ref b))).mapFields (·.setIfInBounds 4 (.bool true))).cls = cls := by rw [Obj.cls_mapFields, Obj.cls_mapFields]; exact hcls
  have LT4 : PySem.W.Looks (model prog w) (from_ s₂.heap a b) (typeOf (.ref a)) cls := fun A Q E s k q => wpAny_typeOf_ref (k _ _ ha4) (by rw [hcls4]; exact q)
  have hnt4 : ∀ {Q' : Bool → Shared → Prop}, Q' false { s₂ with heap := from_ s₂.heap a b } → wpAny (model prog w) A (isType (.ref a)) Q' E { s₂ with heap := from_ s₂.heap a b } := by
    intro Q' hq
    simp only [isType, loadHead]
    refine wpAny_bind (wpAny_loadPart ha4 ?_)
    rw [hd4]; exact wpAny_pure hq
  have rest : wpAny (model prog w) A (do
      let y ← isType (.ref a)
      if y = true then do
        let e ← holding [.ref a] (raisedFor (.ref a) (.ref a))
        setFlight e none
        raiseNew e
      else do
        let e ← raisedInstance (.ref a)
        setFlight e none
        raiseNew e : Sem Flow) Q E { s₂ with heap := from_ s₂.heap a b } := by
    refine wpAny_bind (hnt4 ?_)
    simp only [Bool.false_eq_true, if_false]
    unfold raisedInstance
    refine wpAny_bind (wpAny_bind (LT4.here (wpAny_bind (L3.here ?_))))
    rw [if_pos (beq_self_eq_true _)]
    refine wpAny_pure ?_
    unfold setFlight raiseNew
    refine wpAny_bind (wpAny_bind (wpAny_field ha4 hd4 h14 ?_))
    rw [if_neg (by decide)]
    refine wpAny_pure (wpAny_bind (wpAny_handled ?_))
    rw [hh]
    first
      | exact wpAny_throw hE
      | exact wpAny_bind (wpAny_pure (wpAny_throw hE))
  refine wpAny_bind (wpAny_pure ?_)
  dsimp only
  refine wpAny_bind (wpAny_holding ?_)
  unfold excFromValue isExcClass
  refine wpAny_bind (wpAny_bind (hnt ?_))
  simp only [Bool.false_eq_true, if_false]
  refine wpAny_pure ?_
  simp only [Bool.false_eq_true, if_false]
  refine wpAny_bind (LI.here ?_)
  simp only [if_true]
  refine wpAny_pure ?_
  have nb : ¬ ((Value.ref b == Value.none) = true) := fun z => Bool.noConfusion (show false = true from z)
  rw [if_neg nb]
  refine wpAny_bind (wpAny_holding ?_)
  refine wpAny_bind (wpAny_bind (hntb ?_))
  simp only [Bool.false_eq_true, if_false]
  refine wpAny_pure ?_
  simp only [Bool.false_eq_true, if_false]
  refine wpAny_bind (LIb.here ?_)
  simp only [if_true]
  refine wpAny_pure ?_
  first
  | exact wpAny_bind (wpAny_setField ha hd s3 (wpAny_bind (wpAny_setField ha3 hd3 s4 rest)))
  | refine wpAny_bind (wpAny_setField ha hd s3 (wpAny_bind (wpAny_setField ha3 hd3 s4 ?_)))
/-! ### an expression that makes an exception: more of what it leaves -/
def MkV (X : Cx) (pins : List (Addr × Obj)) (σ : L2.St) (Q : XK) (u : Value) (s' : Shared) : Prop :=
  ∃ (a : Addr) (oe : Obj) (vs : Array Value) (sI : Shared) (H' : Hp) (cls : Value) (d : Option Addr), u = .ref a ∧ Inv X pins σ H' sI ∧ (∀ b o, sI.heap.get? b = some o → s'.heap.get? b = some o) ∧ sI.heap.get? a = none ∧ s'.heap.get? a = some oe ∧
    Zc cls d oe ∧ oe.data = .fields vs ∧ vs[1]? = some .none ∧ 4 < vs.size ∧ H' a = none ∧ s'.os = sI.os ∧ AllBare s'.gens ∧ Raises X cls ∧ X.s_0.heap.objs.size ≤ a ∧ a ∉ X.fs ∧ Q cls d H'
def PMkV (X : Cx) (e : Expr) (t : L2.St → Hp → XK → Prop) : Prop :=
  ∀ (pins : List (Addr × Obj)) (s : Shared) (σ : L2.St) (H : Hp) (Q : XK), Inv X pins σ H s → t σ H Q → wpAny (model X.prog X.w) X.A (eval e X.env) (MkV X pins σ Q) X.xe s
section
variable {X : Cx} {e : Expr} {es : List Expr} {ta : TA} {p pos : Pos}
theorem pmk_oexV {CX : CXT} {x : Str} {C fI : Addr} {k : Nat} {fd : FuncData} {ps : List Str} {sp : Sp} {ds : List Value} {dvs : List V} (T : OexC X.K C) (iC : PySem.W.findIn X.K (.ref C) "__init__" = some (some (.ref fI))) (tI : PySem.W.typeIn X.K (.ref fI) = some (.type "function"))
    (F1 : FnOk X.prog X.w X.K X.mg X.base CX k fI fd ps sp) (hr : Room (k + 1) X.A) (hb : Binds X.K fd ps ds) (hd : Vals dvs ds) (hx : Passes CX X (fun _ _ _ => False)) (hg : Gl X x) (hm : X.mg x = some (.ref C)) (ha : PA X (e :: es) ta)
    (hdb : (x == ("__debug__" : Str)) = false := by decide) (he : starEach (e :: es) X.env = (false, eval e X.env) :: starEach es X.env := by rfl) (hpl : (backTo pos (starEach es X.env)).any (·.1) = false := by rfl) :
    PMkV X (.Call (.Name x p) (e :: es) [] pos) (tMkO C sp dvs ta) := by
  intro pins s σ H Q I h
  obtain ⟨nm, q, N, bs, bm, sn, sub, ab, col, dd, k0, k1, k2, k3, k5, hC, hbm⟩ := T.cls
  refine wpAny_Call_Name_kw (ld_glob I hg hm ?_ hdb)
  refine PySem.W.callWith_K (h₀ := X.base) I.ok.mod.kin T.kC (thn (ha.run pos pins s σ H _ I h) fun us s1 ⟨vs, H1, I1, r1, hz, q1⟩ => ⟨I1.kIn, ?_⟩) he hpl
  show wpAny _ _ (call (.ref C) us) _ _ _
  have sz := I1.sz
  have nfs : (s1.heap.objs.size + 1) ∉ X.fs := I1.nofs (Nat.le_succ _)
  obtain ⟨hp, g, dr, tk, os⟩ := s1
  have hsz : hp.objs.size ≤ hp.objs.size + 1 := Nat.le_succ _
  have hn : H1 (hp.objs.size + 1) = none := I1.hok.fresh hsz
  have hq := q1 (hp.objs.size + 1) hn
  have kk : ∀ b o, hp.get? b = some o → ((hp.push (PySem.W.kdv_tup us)).push (PySem.HandSPX.excO C hp.objs.size)).get? b = some o := fun b o e => Heap.get?_push_of_some _ (Heap.get?_push_of_some _ e)
  have hget : ((hp.push (PySem.W.kdv_tup us)).push (PySem.HandSPX.excO C hp.objs.size)).get? (hp.objs.size + 1) = some (PySem.HandSPX.excO C hp.objs.size) := by heap_get
  have I2 : Inv X pins σ (upd H1 (hp.objs.size + 1) (exo (hp.objs.size + 1) C none)) ⟨(hp.push (PySem.W.kdv_tup us)).push (PySem.HandSPX.excO C hp.objs.size), g, dr, tk, os⟩ :=
    I1.laid (t' := tk) (a := hp.objs.size + 1) (o := exo (hp.objs.size + 1) C none) (h' := (hp.push (PySem.W.kdv_tup us)).push (PySem.HandSPX.excO C hp.objs.size)) kk hsz (exo_ok hget)
  have r2 : Vals (V.ref (hp.objs.size + 1) :: (vs ++ dvs)) (Value.ref (hp.objs.size + 1) :: (us ++ ds)) := .cons rfl (r1.append hd)
  have hl : (Value.ref (hp.objs.size + 1) :: us ++ ds).length = ps.length := by
    have e := r2.length
    rw [F1.len _ _ _ _ hq] at e
    exact e.symm
  have hus : us.length ≤ sizeLine := by
    rw [← Paired.length r1, sizeLine_eq]
    omega
  refine wpAny_call (PySem.HandSPX.call_own F.excBase_ValueError (fun Y => PySem.HandSPX.refsVE_contains Y bm hbm) (I1.kIn _ _ hC) (PySem.W.looks_findIn I1.kIn iC) (fun self => PySem.W.bind_fn I1.kIn self tI) hus
    (codeAny_mono (F1.run _ X.stack _ _ ⟨Value.ref (hp.objs.size + 1) :: us, []⟩ (Value.ref (hp.objs.size + 1) :: (us ++ ds)) _ _ (fun _ _ _ => False) (hr.make C us []) (I2.env0.make C us []) (hb _ (Value.ref (hp.objs.size + 1) :: us) I2.kIn hl) r2 hq) fun r s' hq' => ?_))
  cases r with
  | error er => exact hx pins σ _ _ er s' I2 hq'
  | ok fl =>
    cases fl with
    | ret u =>
      obtain ⟨v, H2, os2, bare2, un2, hok2, rv, ev, d, fs, ea, ed, hd1, q2⟩ := hq'
      subst ev
      obtain ⟨h2, g2, d2, t2, os'⟩ := s'
      obtain ⟨t0, G, J, kG, ge, hoe, na⟩ := mk_end0 (d2 := d2) (t2 := t2) I1 hsz kk un2 hok2 os2 bare2 ea ed hd1
      exact ⟨rv, _, _, _, ⟨G, g2, d2, t2, os'⟩, _, .ref C, some d, rfl, J, kG, ge, hoe, ⟨rfl, rfl⟩, rfl, rfl, by show 4 < 6; decide, na, rfl, bare2, raises_own T.exC T.tyC, Nat.le_trans sz hsz, nfs, q2⟩
    | next => exact False.elim hq'
    | brk => exact False.elim hq'
    | cont => exact False.elim hq'
/-- raise X(..) from Y(..) -/
theorem ps_raiseFrom {W : WX} {c : Expr} {t : L2.St → Hp → XK → Prop} {tc : TE} (hc : X.calm = true) (tk : Takes X W) (he : PMkV X e t) (hcz : PE X c tc) :
    PS X (.Raise (some e) (some c) pos) (fun _ σ H => t σ H fun cls d H' => tc σ H' fun v H'' => ∃ (b D : Addr) (g : List (Str × V)), v = .ref b ∧ Ke.ErrAt D H'' b g ∧ PySem.W.subIn X.K (.ref D) (.type "BaseException") = some true ∧ W cls d σ H'') := by
  refine ⟨fun pins s σ H D I h => ?_⟩
  show wpAny _ _ (do standAt pos; raiseStmt X.env (some (do let v ← eval e X.env; standAt pos; pure v)) (some (do let v ← eval c X.env; standAt pos; pure v))) _ _ _
  refine wpAny_bind (wpAny_standAt (raise_from (I.ok.hd hc) (wpAny_bind (wpAny_mono (he pins s σ H _ I h) (fun u s1 hu => wpAny_bind (wpAny_standAt (wpAny_pure ?_))) fun _ _ x => x))))
  obtain ⟨a, oe, vs, sI, H', cls, d, rfl, J, k, hne, ha, hz, hd, h1, h5, na, os, ag, r, sz, nfs, q⟩ := hu
  have J1 : Inv X pins σ H' s1 := J.call' (ch := []) os (Un.kept k) (J.hok.kept k) ag (fun b z => absurd z (by simp))
  have aL : a ≠ X.env.locals := fun z => by
    obtain ⟨m, ⟨o, es, ep, e1, _⟩, _⟩ := J.loc
    rw [← z, hne] at e1
    cases e1
  have aC : ∀ x c, X.env.cells.lookup x = some c → c ≠ a := fun x c e z => by
    obtain ⟨v, o, y, _⟩ := J.cell x c e
    rw [z, hne] at y
    cases y
  have aP : ∀ p ∈ X.pn ++ pins, p.1 ≠ a := fun p hp z => by
    have := (J.pin p hp).1
    rw [z, hne] at this
    cases this
  have hcell : ∀ v, oe.data ≠ .cell v := fun v z => by rw [hd] at z; cases z
  have J2 : Inv X (pins ++ pinsAt [a] s1.heap) σ H' s1 := J1.pinned (fp := [a]) (fun b hb => by
    rw [List.mem_singleton.mp hb]
    exact ⟨na, aL, nfs, .inr sz, aC, aP⟩) (fun b hb => by
    rw [List.mem_singleton.mp hb]
    exact ⟨oe, ha, hcell⟩)
  refine wpAny_bind (thn (hcz.run _ s1 σ H' _ J2 q) fun u s2 ⟨v, H2, I2, rv, b, D', g, ev, eb, sb, wq⟩ => wpAny_bind (wpAny_standAt (wpAny_pure ?_)))
  subst ev
  cases (show u = Value.ref b from rv)
  have mp : (a, oe) ∈ X.pn ++ (pins ++ pinsAt [a] s1.heap) := List.mem_append_right _ (List.mem_append_right _ (mem_pinsAt (by simp) ha))
  obtain ⟨ha2, na2, _, _, _⟩ := I2.pin (a, oe) mp
  have ha2 : s2.heap.get? a = some oe := ha2
  have na2 : H2 a = none := na2
  -- the cause
  obtain ⟨ob, vb, hb1, hb2, hb3, nba⟩ : ∃ ob vb, s2.heap.get? b = some ob ∧ ob.cls = .ref D' ∧ ob.data = .fields vb ∧ b ≠ a := by
    have ne : b ≠ a := fun z => by
      rcases eb with ⟨_, x⟩ | ⟨_, _, x, _⟩ <;> (rw [z, na2] at x; cases x)
    rcases eb with ⟨_, x⟩ | ⟨d', _, x, _⟩
    · obtain ⟨t1, z⟩ := exo_at I2.hok x
      exact ⟨_, _, z, rfl, rfl, ne⟩
    · obtain ⟨t1, z⟩ := exo_at I2.hok x
      exact ⟨_, _, z, rfl, rfl, ne⟩
  -- without the exception
  obtain ⟨G, g1', g2'⟩ := restrict s2.heap fun b => decide (b ≠ a)
  have gk : ∀ b, b ≠ a → G.get? b = s2.heap.get? b := fun b hb => g1' b (decide_eq_true hb)
  have ge : G.get? a = none := g2' a (by simp)
  have I3 : Inv X pins σ H2 s2 := I2.unpinned
  have I4 : Inv X pins σ H2 { s2 with heap := G } := I3.turned (t' := s2.toks) (it := a) (fun b o hb e => (gk b hb).trans e) na2 aL (.inr sz) aC aP
  obtain ⟨r1, _⟩ := r (model X.prog X.w) s2.heap I3.kIn
  have k4 : ∀ b' u, G.get? b' = some u → (from_ s2.heap a b).get? b' = some u := fun b' u z => by
    have nab : a ≠ b' := fun y => by rw [← y, ge] at z; cases z
    rw [from_other nab, ← gk b' (Ne.symm nab)]
    exact z
  obtain ⟨_, r2⟩ := r (model X.prog X.w) (from_ s2.heap a b) (I4.kIn.keeps k4)
  obtain ⟨ha4, hd4⟩ := from_at (b := b) ha2 hd
  have h12 : ((vs.setIfInBounds 3 (Value.ref b)).setIfInBounds 4 (Value.bool true))[1]? = some Value.none := set_other (by decide) (set_other (by decide) h1)
  refine ⟨a, oe, vs, cls, b, ob, vb, .ref D', rfl, rfl, ha2, hz.1, hd, h1, h5, hb1, hb2, hb3, r1, PySem.W.looks_subIn I3.kIn sb, r2, tk _ _ (XE.new I4 k4 ge ha4 ⟨by rw [Obj.cls_mapFields, Obj.cls_mapFields]; exact hz.1, by rw [HandSPX.dict_mapFields, HandSPX.dict_mapFields]; exact hz.2⟩ hd4 h12 na2 rfl I3.bare wq)⟩
end
end Kf

namespace Kx
open PySem PySem.Spec PyProof.Rows L2 NdefX Kr Ke Kn Kz Ky
/-! ### small steps -/
def smP : Part → Prop
  | .s z => Sht z 12
  | .t zs => zs.length ≤ 8 ∧ ∀ z ∈ zs, Sht z 12
def smS (ps : List Part) : Prop := ps.length ≤ 5 ∧ ∀ p ∈ ps, smP p
theorem smP.ok : ∀ {p : Part}, smP p → okP p
  | .s z, h => h.le (by decide)
  | .t zs, ⟨a, b⟩ => ⟨by omega, fun z hz => (b z hz).le (by decide)⟩
theorem smAll_strs : ∀ {zs : List Str}, (∀ z ∈ zs, Sht z 12) → okAll (zs.map PyData.str) = true ∧ costAll (zs.map PyData.str) ≤ 124 * zs.length ∧ PyData.depthAll (zs.map PyData.str) = 0
  | [], _ => ⟨by simp [okAll], by simp [costAll], by simp [PyData.depthAll]⟩
  | z :: zs, h => by
    obtain ⟨h1, h2, h3⟩ := smAll_strs fun y hy => h y (List.mem_cons_of_mem _ hy)
    have hz := h z List.mem_cons_self
    have h4 := hz.1
    refine ⟨?_, ?_, ?_⟩
    · rw [List.map_cons]
      simp only [okAll, hz.ok, h1, Bool.and_self]
    · rw [List.map_cons, List.length_cons]
      simp only [costAll, costD]
      omega
    · rw [List.map_cons]
      simp only [PyData.depthAll, PyData.depth, h3]
      decide
theorem smP.d : ∀ {p : Part}, smP p → okD (pd p) = true ∧ costD (pd p) ≤ 1000 ∧ (pd p).depth ≤ 1
  | .s z, h => by
    have h5 : Sht z 12 := h
    have h4 := h5.1
    refine ⟨h5.ok, ?_, by simp [pd, PyData.depth]⟩
    simp only [pd, costD]
    omega
  | .t zs, ⟨h1, h2⟩ => by
    obtain ⟨a, b, c⟩ := smAll_strs h2
    refine ⟨by simpa only [pd, okD] using a, ?_, ?_⟩
    · simp only [pd, costD]
      omega
    · simp only [pd, PyData.depth, c]
      decide
theorem smS_all : ∀ {ps : List Part}, (∀ p ∈ ps, smP p) → okAll (ps.map pd) = true ∧ costAll (ps.map pd) ≤ 1002 * ps.length ∧ PyData.depthAll (ps.map pd) ≤ 1
  | [], _ => ⟨by simp [okAll], by simp [costAll], by simp [PyData.depthAll]⟩
  | p :: ps, h => by
    obtain ⟨h1, h2, h3⟩ := smS_all fun y hy => h y (List.mem_cons_of_mem _ hy)
    obtain ⟨a, b, c⟩ := smP.d (h p List.mem_cons_self)
    refine ⟨?_, ?_, ?_⟩
    · rw [List.map_cons]
      simp only [okAll, a, h1, Bool.and_self]
    · rw [List.map_cons, List.length_cons]
      simp only [costAll]
      omega
    · rw [List.map_cons]
      simp only [PyData.depthAll]
      exact Nat.max_le.mpr ⟨c, h3⟩
/-- data that may be shown -/
def ShD (K : PySem.W.Frag) (H : Hp) (x : V) : Prop := ∃ d, Dp K H x d ∧ okD d = true ∧ costD d ≤ 40000 ∧ d.depth ≤ 10
theorem ShD.same {K : PySem.W.Frag} {H H' : Hp} {x : V} (h : ShD K H x) (s : Same H H') : ShD K H' x := let ⟨d, a, b⟩ := h; ⟨d, dp_same s d _ a, b⟩
theorem dp_parts {K : PySem.W.Frag} {H : Hp} : ∀ {xs : List V} {ps : List Part}, Paired (PtAt K H) xs ps → DpAll K H xs (ps.map pd)
  | _, _, .nil => .nil
  | _, _, .cons h r => .cons h.dp (dp_parts r)
theorem StAt.sh {K : PySem.W.Frag} {H : Hp} {a : Addr} {ps : List Part} (h : StAt K H a ps) (s : smS ps) : ShD K H (.ref a) := by
  obtain ⟨xs, e, p⟩ := h
  obtain ⟨h1, h2, h3⟩ := smS_all s.2
  refine ⟨.tuple (ps.map pd), .tup e (dp_parts p), by simpa only [okD] using h1, ?_, ?_⟩
  · have := s.1
    simp only [costD]
    omega
  · simp only [PyData.depth]
    omega
theorem ShD.strs {K : PySem.W.Frag} {H : Hp} {a : Addr} {zs : List Str} (e : SqL K H a (zs.map V.str)) (l : zs.length ≤ 100) (h : ∀ z ∈ zs, Sht z 12) : ShD K H (.ref a) := by
  obtain ⟨h1, h2, h3⟩ := smAll_strs h
  refine ⟨.list (zs.map PyData.str), .lst e (dps zs), by simpa only [okD] using h1, ?_, ?_⟩
  · simp only [costD]
    omega
  · simp only [PyData.depth, h3]
    decide
/-! ### the errors with what they hold -/
theorem len1e {c : Str} (h : c.length ≤ 100) : (Str.empty ++ c).length ≤ sizeLine := by
  rw [empty_app]
  exact sz9 (by omega)
theorem len2e {c m : Str} (h : c.length ≤ 100) (h' : m.length ≤ 40000) : (Str.empty ++ c ++ m).length ≤ sizeLine := by
  rw [app_len, empty_app]
  exact sz9 (by omega)
theorem len3e {c m c2 : Str} (h : c.length ≤ 100) (h' : m.length ≤ 40000) (h2 : c2.length ≤ 100) : (Str.empty ++ c ++ m ++ c2).length ≤ sizeLine := by
  rw [app_len, app_len, empty_app]
  exact sz9 (by omega)
theorem len4e {c m c2 m2 : Str} (h : c.length ≤ 100) (h' : m.length ≤ 40000) (h2 : c2.length ≤ 100) (h3 : m2.length ≤ 40000) : (Str.empty ++ c ++ m ++ c2 ++ m2).length ≤ sizeLine := by
  rw [app_len, app_len, app_len, empty_app]
  exact sz9 (by omega)
/-- C(x) of an error with the one field fld -/
def spErrD (K : PySem.W.Frag) (C : Addr) (fld : Str) : Sp := fun vs H Q _ => ∃ (a : Addr) (x : V), vs = [.ref a, x] ∧ ShD K H x ∧ H a = some (exo a C none) ∧
  ∀ d, H d = none → d ≠ a → Q .non (upd (upd H d (exd d [(fld, x)])) a (exo a C (some d)))
/-- C(x, y) of an error with the fields f and g -/
def spErrD2 (K : PySem.W.Frag) (C : Addr) (f g : Str) : Sp := fun vs H Q _ => ∃ (a : Addr) (x y : V), vs = [.ref a, x, y] ∧ ShD K H x ∧ ShD K H y ∧ H a = some (exo a C none) ∧
  ∀ d, H d = none → d ≠ a → Q .non (upd (upd H d (exd d [(g, y), (f, x)])) a (exo a C (some d)))
abbrev s_isInit : Stmt := inClass (topS 4) 0
abbrev N_isInit : List Str := ["self", "step", "__class__"]
theorem ns_isInit : NScope N_isInit ["self", "step"] ["__class__"] (defScope s_isInit) := nscope_by (by decide +kernel)
abbrev s_tkInit : Stmt := inClass (topS 10) 0
theorem ns_tkInit : NScope N_nrInit ["self", "program"] ["__class__"] (defScope s_tkInit) := nscope_by (by decide +kernel)
abbrev s_rgInit : Stmt := inClass (topS 13) 0
abbrev N_rgInit : List Str := ["self", "programs", "__class__"]
theorem ns_rgInit : NScope N_rgInit ["self", "programs"] ["__class__"] (defScope s_rgInit) := nscope_by (by decide +kernel)
abbrev s_rfInit : Stmt := inClass (topS 14) 0
abbrev N_rfInit : List Str := ["self", "step", "ring", "__class__"]
theorem ns_rfInit : NScope N_rfInit ["self", "step", "ring"] ["__class__"] (defScope s_rfInit) := nscope_by (by decide +kernel)
theorem upd_again {H : Hp} {a d : Addr} (ne : d ≠ a) (x y z : HO) : upd (upd (upd H d x) a y) d z = upd (upd H d z) a y := by
  rw [upd_comm (Ne.symm ne), upd_upd]
section
variable {P : Program} {w : World} {K : PySem.W.Frag} {mg : Str → Option Value} {base : Heap} {CX : CXT}
theorem ok_isInit {f C cda cc : Addr} {fd : FuncData} {qual : Str} {kV doc pm ct : Value} {an : Option Addr} (S : SupF K P C f fd cda cc "self") (T : SupC K C) (n0 : PySem.W.findIn K (.ref C) "step" = some none) (hm : mg "super" = none)
    (hfd : fd = PySem.W.fnX "__init__" qual (defArgs s_isInit) (defBody s_isInit) (defScope s_isInit) [("__class__", cc)] .none kV doc pm an (.ref cda) ct) (hcd : PySem.W.codeIn K (.ref cda) qual = true) :
    FnOk P w K mg base CX 1 f fd ["self", "step"] (spErrD K C "step") := by
  refine fn_super (k := 0) (N := N_isInit) (ps := ["self", "step"]) (me := "self") S T hfd hcd ns_isInit hm rfl (by decide) (by decide +kernel) (by decide +kernel) (fun vs H Q E h => ?_) (fun A outer s H vs Q E hr h => ?_) (fun env => ⟨_, rfl⟩) (fun env => rfl) (fun env => rfl)
  · obtain ⟨a, x, rfl, _⟩ := h
    rfl
  · obtain ⟨a, x, rfl, ⟨d, hd, od, zd, pd⟩, ea, q⟩ := h
    refine ⟨a, _, _, rfl, ea, pe_joined (.cons pe_str (.cons (pe_fmtD hr (pv 1)) .nil)), pss_one (ps_ost (pv 0) (pv 1)), fun R hR => ?_⟩
    refine ⟨_, rfl, len1e (by decide +kernel), _, rfl, d, hd, od, by omega, by omega, fun m hm => ⟨_, rfl, len2e (by decide +kernel) (by omega), ?_⟩⟩
    exact hR H ea ⟨_, rfl, _, rfl, a, C, rfl, T.oex, n0, .inl ⟨ea, fun dx nd ne => q dx nd ne⟩⟩
theorem ok_tkInit {f C cda cc : Addr} {fd : FuncData} {qual : Str} {kV doc pm ct : Value} {an : Option Addr} (S : SupF K P C f fd cda cc "self") (T : SupC K C) (n0 : PySem.W.findIn K (.ref C) "program" = some none) (hm : mg "super" = none)
    (hfd : fd = PySem.W.fnX "__init__" qual (defArgs s_tkInit) (defBody s_tkInit) (defScope s_tkInit) [("__class__", cc)] .none kV doc pm an (.ref cda) ct) (hcd : PySem.W.codeIn K (.ref cda) qual = true) :
    FnOk P w K mg base CX 1 f fd ["self", "program"] (spErr1 C "program" 100000) := by
  refine fn_super (k := 0) (N := N_nrInit) (ps := ["self", "program"]) (me := "self") S T hfd hcd ns_tkInit hm rfl (by decide) (by decide +kernel) (by decide +kernel) (fun vs H Q E h => ?_) (fun A outer s H vs Q E hr h => ?_) (fun env => ⟨_, rfl⟩) (fun env => rfl) (fun env => rfl)
  · obtain ⟨a, z, rfl, _⟩ := h
    rfl
  · obtain ⟨a, z, rfl, hz, ea, q⟩ := h
    refine ⟨a, _, _, rfl, ea, pe_joined (.cons pe_str (.cons (pe_fmtR (pv 1)) .nil)), pss_one (ps_ost (pv 0) (pv 1)), fun R hR => ?_⟩
    have h1 : (("the name is taken: " : Str)).length ≤ 100 := by decide +kernel
    refine ⟨_, rfl, ?_, _, rfl, .inl ⟨z, rfl, sz9 (by omega), _, rfl, ?_, ?_⟩⟩
    · rw [empty_app]
      exact sz9 (by omega)
    · rw [app_len, empty_app]
      exact Nat.le_trans (Nat.add_le_add h1 hz) (by decide)
    · exact hR H ea ⟨_, rfl, _, rfl, a, C, rfl, T.oex, n0, .inl ⟨ea, fun d nd ne => q d nd ne⟩⟩
def cD (K : PySem.W.Frag) : List V → Hp → Prop := fun xs H => ∃ x, xs = [x] ∧ ShD K H x
abbrev g_Ring : List V → List (Str × V) := fun xs => (["programs"] : List Str).zip xs
theorem ok_rgInit {f C cda cc : Addr} {fd : FuncData} {qual : Str} {kV doc pm ct : Value} {an : Option Addr} (S : SupF K P C f fd cda cc "self") (T : SupC K C) (n0 : PySem.W.findIn K (.ref C) "programs" = some none) (hm : mg "super" = none)
    (hfd : fd = PySem.W.fnX "__init__" qual (defArgs s_rgInit) (defBody s_rgInit) (defScope s_rgInit) [("__class__", cc)] .none kV doc pm an (.ref cda) ct) (hcd : PySem.W.codeIn K (.ref cda) qual = true) :
    FnOk P w K mg base CX0 1 f fd ["self", "programs"] (spErr C (cD K) g_Ring) := by
  refine fn_super (k := 0) (N := N_rgInit) (ps := ["self", "programs"]) (me := "self") S T hfd hcd ns_rgInit hm rfl (by decide) (by decide +kernel) (by decide +kernel) (fun vs H Q E h => ?_) (fun A outer s H vs Q E hr h => ?_) (fun env => ⟨_, rfl⟩) (fun env => rfl) (fun env => rfl)
  · obtain ⟨a, xs, rfl, ⟨x, rfl, _⟩, _⟩ := h
    rfl
  · obtain ⟨a, xs, rfl, ⟨x, rfl, d, hd, od, zd, pd⟩, ea, q⟩ := h
    refine ⟨a, _, _, rfl, ea, pe_joined (.cons pe_str (.cons (pe_fmtD hr (pv 1)) .nil)), pss_one (ps_ost (pv 0) (pv 1)), fun R hR => ?_⟩
    refine ⟨_, rfl, len1e (by decide +kernel), _, rfl, d, hd, od, by omega, by omega, fun m hm => ⟨_, rfl, len2e (by decide +kernel) (by omega), ?_⟩⟩
    refine hR H ea ⟨_, rfl, _, rfl, a, C, rfl, T.oex, n0, .inl ⟨ea, fun dx nd ne => ?_⟩⟩
    exact q _ (fun b o e h => by rw [upd_ne h, upd_ne (ne_of_none e nd)]; exact e) (.inr ⟨dx, _, upd_same, (upd_ne ne).trans upd_same, fun f v l => l⟩)
theorem ok_rfInit {f C cda cc : Addr} {fd : FuncData} {qual : Str} {kV doc pm ct : Value} {an : Option Addr} (S : SupF K P C f fd cda cc "self") (T : SupC K C) (n0 : PySem.W.findIn K (.ref C) "step" = some none) (n1 : PySem.W.findIn K (.ref C) "ring" = some none) (hm : mg "super" = none)
    (hfd : fd = PySem.W.fnX "__init__" qual (defArgs s_rfInit) (defBody s_rfInit) (defScope s_rfInit) [("__class__", cc)] .none kV doc pm an (.ref cda) ct) (hcd : PySem.W.codeIn K (.ref cda) qual = true) :
    FnOk P w K mg base CX 1 f fd ["self", "step", "ring"] (spErrD2 K C "step" "ring") := by
  refine fn_super (k := 0) (N := N_rfInit) (ps := ["self", "step", "ring"]) (me := "self") S T hfd hcd ns_rfInit hm rfl (by decide) (by decide +kernel) (by decide +kernel) (fun vs H Q E h => ?_) (fun A outer s H vs Q E hr h => ?_) (fun env => ⟨_, rfl⟩) (fun env => rfl) (fun env => rfl)
  · obtain ⟨a, x, y, rfl, _⟩ := h
    rfl
  · obtain ⟨a, x, y, rfl, ⟨d, hd, od, zd, pd⟩, ⟨e, he, oe, ze, pe⟩, ea, q⟩ := h
    refine ⟨a, _, _, rfl, ea, pe_joined (.cons pe_str (.cons (pe_fmtD hr (pv 1)) (.cons pe_str (.cons (pe_fmtD hr (pv 2)) .nil)))), pss_cons (ps_ost (pv 0) (pv 1)) (pss_one (ps_ost (pv 0) (pv 2))), fun R hR => ?_⟩
    refine ⟨_, rfl, len1e (by decide +kernel), _, rfl, d, hd, od, by omega, by omega, fun m hm => ⟨_, rfl, len2e (by decide +kernel) (by omega), _, rfl, len3e (by decide +kernel) (by omega) (by decide +kernel), ?_⟩⟩
    refine ⟨_, rfl, e, he, oe, by omega, by omega, fun m2 hm2 => ⟨_, rfl, len4e (by decide +kernel) (by omega) (by decide +kernel) (by omega), ?_⟩⟩
    refine hR H ea ⟨_, rfl, _, rfl, a, C, rfl, T.oex, n0, .inl ⟨ea, fun dx nd ne => ?_⟩⟩
    refine ⟨_, rfl, _, rfl, a, C, rfl, T.oex, n1, .inr ⟨dx, [("step", x)], upd_same, (upd_ne ne).trans upd_same, by show 1 ≤ 900; decide, ?_⟩⟩
    rw [upd_again ne]
    exact q dx nd ne
end
end Kx

namespace Kx
open PySem PySem.Spec PyProof.Rows L2 NdefX Kr Ke Kn Kz Ky Kg
/-! ### steps, arcs, errors -/
inductive Stp
  | bg (p : Str)
  | qt (p : Str)
  | rd (p t : Str)
  | cl (p : Str) (ts : List Str)
def Stp.pr : Stp → Str
  | .bg p => p
  | .qt p => p
  | .rd p _ => p
  | .cl p _ => p
def Stp.ts : Stp → List Str
  | .bg _ => []
  | .qt _ => []
  | .rd _ t => [t]
  | .cl _ ts => ts
def Stp.ps : Stp → List Part
  | .bg p => [.s wBegin, .s p]
  | .qt p => [.s wQuit, .s p]
  | .rd p t => [.s wRead, .s p, .s t]
  | .cl p ts => [.s wClose, .s p, .t ts]
def arcs (L : List (List Str)) : List (Str × Str) := L.map fun q => (at0 q 0, at0 q 1)
theorem Kg_sub {α : Type} [DecidableEq α] {as bs : List (α × α)} (h : ∀ a ∈ as, a ∈ bs) {s x : α} {p : List α} (k : Wk as s p x) : Wk bs s p x := by
  induction k with
  | one => exact .one
  | snoc _ a ih => exact .snoc ih (h _ a)
theorem Sh.sub {α : Type} [DecidableEq α] {as bs : List (α × α)} (h : ∀ a, a ∈ as ↔ a ∈ bs) {s : α} {g g' p : List α} (hg : ∀ x, x ∈ g ↔ x ∈ g') (k : Sh as s g p) : Sh bs s g' p := by
  obtain ⟨⟨y, hy, k1⟩, k2, k3⟩ := k
  exact ⟨⟨y, (hg y).mp hy, Kg_sub (fun a => (h a).mp) k1⟩, k2, fun q x hq hx => k3 q x (Kg_sub (fun a => (h a).mpr) hq) ((hg x).mpr hx)⟩
theorem NoW.sub {α : Type} [DecidableEq α] {as bs : List (α × α)} (h : ∀ a, a ∈ as ↔ a ∈ bs) {s : α} {g g' : List α} (hg : ∀ x, x ∈ g ↔ x ∈ g') (k : NoW as s g) : NoW bs s g' :=
  fun q x hq hx => k q x (Kg_sub (fun a => (h a).mpr) hq) ((hg x).mpr hx)
theorem arcs_mem {A B : List (List Str)} (h : ∀ q, q ∈ A ↔ q ∈ B) (a : Str × Str) : a ∈ arcs A ↔ a ∈ arcs B := by
  unfold arcs
  rw [List.mem_map, List.mem_map]
  exact ⟨fun ⟨q, hq, e⟩ => ⟨q, (h q).mp hq, e⟩, fun ⟨q, hq, e⟩ => ⟨q, (h q).mpr hq, e⟩⟩
/-- an error's class, as raises use it -/
structure ErC (P : Program) (w : World) (K : PySem.W.Frag) (mg : Str → Option Value) (base : Heap) (x : Str) (C : Addr) (ps : List Str) (sp : Sp) : Prop where
  ex : ∃ (f : Addr) (fd : FuncData), PySem.W.findIn K (.ref C) "__init__" = some (some (.ref f)) ∧ PySem.W.typeIn K (.ref f) = some (.type "function") ∧ FnOk P w K mg base CX0 1 f fd ps sp ∧ Binds K fd ps []
  S : SupC K C
  g : mg x = some (.ref C)
theorem prs_at {K : PySem.W.Frag} {H : Hp} {ll : Addr} {kl : List AL} {L : List (List Str)} (el : SqL K H ll (kl.map fun q => V.ref q.1)) (e1 : kl.map (·.2) = L) (e2 : ∀ q ∈ kl, q.2.length = 2 ∧ SqT K H q.1 (q.2.map V.str)) : Prs K H ll (arcs L) := by
  refine ⟨_, el, ?_⟩
  rw [← e1]
  clear el e1
  unfold arcs
  rw [List.map_map]
  induction kl with
  | nil => exact .nil
  | cons q r ih =>
    refine .cons ⟨q.1, rfl, ?_⟩ (ih fun u hu => e2 u (List.mem_cons_of_mem _ hu))
    obtain ⟨h1, h2⟩ := e2 q List.mem_cons_self
    rw [len2 h1] at h2
    exact h2
theorem st_rd {K : PySem.W.Frag} {H : Hp} {a : Addr} {z t : Str} (h : StAt K H a (Stp.rd z t).ps) : SqT K H a [.str wRead, .str z, .str t] := by
  obtain ⟨xs, e, p⟩ := h
  obtain ⟨x, y, u, rfl, h1, h2, h3⟩ := pd_three (show Paired (PtAt K H) xs [.s wRead, .s z, .s t] from p)
  have h1 : x = V.str wRead := h1
  have h2 : y = V.str z := h2
  have h3 : u = V.str t := h3
  rwa [h1, h2, h3] at e
theorem st_cl {K : PySem.W.Frag} {H : Hp} {a : Addr} {z : Str} {ts : List Str} (h : StAt K H a (Stp.cl z ts).ps) : ∃ q, SqT K H a [.str wClose, .str z, .ref q] ∧ SqT K H q (ts.map V.str) := by
  obtain ⟨xs, e, p⟩ := h
  obtain ⟨x, y, u, rfl, h1, h2, h3⟩ := pd_three (show Paired (PtAt K H) xs [.s wClose, .s z, .t ts] from p)
  have h1 : x = V.str wClose := h1
  have h2 : y = V.str z := h2
  obtain ⟨q, h3, hq⟩ := h3
  rw [h1, h2, h3] at e
  exact ⟨q, e, hq⟩
theorem st_bg {K : PySem.W.Frag} {H : Hp} {a : Addr} {z : Str} (h : StAt K H a (Stp.bg z).ps) : SqT K H a [.str wBegin, .str z] := by
  obtain ⟨xs, e, p⟩ := h
  obtain ⟨x, y, rfl, h1, h2⟩ := pd_two (show Paired (PtAt K H) xs [.s wBegin, .s z] from p)
  have h1 : x = V.str wBegin := h1
  have h2 : y = V.str z := h2
  rwa [h1, h2] at e
theorem st_qt {K : PySem.W.Frag} {H : Hp} {a : Addr} {z : Str} (h : StAt K H a (Stp.qt z).ps) : SqT K H a [.str wQuit, .str z] := by
  obtain ⟨xs, e, p⟩ := h
  obtain ⟨x, y, rfl, h1, h2⟩ := pd_two (show Paired (PtAt K H) xs [.s wQuit, .s z] from p)
  have h1 : x = V.str wQuit := h1
  have h2 : y = V.str z := h2
  rwa [h1, h2] at e
theorem sm_ps {s : Stp} (hp : nameB s.pr = true) (ht : ∀ t ∈ s.ts, nameB t = true) (hl : s.ts.length ≤ 8) : smS s.ps := by
  have nm : ∀ {z}, nameB z = true → smP (.s z) := fun h => (nameB_sht8 h).le (by decide)
  have wd : ∀ z ∈ ([wBegin, wQuit, wRead, wClose] : List Str), smP (.s z) := by
    have : ∀ z ∈ ([wBegin, wQuit, wRead, wClose] : List Str), z.length ≤ 12 ∧ ∀ c ∈ z.cps.toList, c < 1114112 := by decide +kernel
    exact this
  have two : ∀ {a b}, smP a → smP b → smS [a, b] := fun ha hb => ⟨by show 2 ≤ 5; decide, fun p hp => by
    rcases List.mem_cons.mp hp with rfl | hp
    · exact ha
    · rw [List.mem_singleton.mp hp]; exact hb⟩
  have three : ∀ {a b c}, smP a → smP b → smP c → smS [a, b, c] := fun ha hb hc => ⟨by show 3 ≤ 5; decide, fun p hp => by
    rcases List.mem_cons.mp hp with rfl | hp
    · exact ha
    · rcases List.mem_cons.mp hp with rfl | hp
      · exact hb
      · rw [List.mem_singleton.mp hp]; exact hc⟩
  cases s with
  | bg z => exact two (wd _ (by simp)) (nm hp)
  | qt z => exact two (wd _ (by simp)) (nm hp)
  | rd z t => exact three (wd _ (by simp)) (nm hp) (nm (ht t List.mem_cons_self))
  | cl z ts => exact three (wd _ (by simp)) (nm hp) ⟨hl, fun y hy => (nameB_sht8 (ht y hy)).le (by decide)⟩
theorem stepB_is {ps : List Part} (h : stepB ps = true) : ∃ s : Stp, ps = s.ps ∧ nameB s.pr = true := by
  match ps, h with
  | [], h => exact Bool.noConfusion h
  | [_], h => exact Bool.noConfusion h
  | w :: p :: rest, h =>
    unfold stepB at h
    obtain ⟨h1, h0⟩ := Bool.and_eq_true_iff.mp h
    clear h
    obtain ⟨z, rfl⟩ : ∃ z, p = .s z := by
      cases p with
      | s z => exact ⟨z, rfl⟩
      | t _ => cases h1
    have hw : ∀ {y}, isW w y = true → w = .s y := fun {y} hy => by
      cases w with
      | s z => rw [show z = y from of_decide_eq_true hy]
      | t _ => cases hy
    by_cases c1 : (isW w wBegin || isW w wQuit) = true
    · rw [if_pos c1] at h0
      have h0 := List.eq_nil_of_length_eq_zero (of_decide_eq_true h0)
      rcases Bool.or_eq_true_iff.mp c1 with c | c
      · exact ⟨.bg z, by rw [h0, hw c]; rfl, h1⟩
      · exact ⟨.qt z, by rw [h0, hw c]; rfl, h1⟩
    · rw [if_neg c1] at h0
      by_cases c2 : isW w wRead = true
      · rw [if_pos c2] at h0
        obtain ⟨h2, h3⟩ := Bool.and_eq_true_iff.mp h0
        match rest, of_decide_eq_true h2, h3 with
        | [q], _, h3 =>
          cases q with
          | s t => exact ⟨.rd z t, by rw [hw c2]; rfl, h1⟩
          | t _ => cases h3
      · rw [if_neg c2] at h0
        by_cases c3 : isW w wClose = true
        · rw [if_pos c3] at h0
          obtain ⟨h2, h3⟩ := Bool.and_eq_true_iff.mp h0
          match rest, of_decide_eq_true h2, h3 with
          | [q], _, h3 =>
            cases q with
            | s t => cases h3
            | t ts => exact ⟨.cl z ts, by rw [hw c3]; rfl, h1⟩
        · rw [if_neg c3] at h0
          cases h0
def Stp.wd : Stp → Str
  | .bg _ => wBegin
  | .qt _ => wQuit
  | .rd _ _ => wRead
  | .cl _ _ => wClose
theorem Stp.ps0 (s : Stp) : s.ps[0]? = some (.s s.wd) := by cases s <;> rfl
theorem Stp.ps1 (s : Stp) : s.ps[1]? = some (.s s.pr) := by cases s <;> rfl
theorem smS.okP {ps : List Part} (h : smS ps) : ∀ p ∈ ps, okP p := fun p hp => (h.2 p hp).ok
theorem Stp.ps_inj {s u : Stp} (h : s.ps = u.ps) : s = u := by
  have w : ∀ {a b : Str} {x y : List Part}, (Part.s a :: x) = (Part.s b :: y) → a = b ∧ x = y := fun h => by
    injection h with h1 h2
    injection h1 with h1
    exact ⟨h1, h2⟩
  have bq : wBegin ≠ wQuit := by decide +kernel
  have rc : wRead ≠ wClose := by decide +kernel
  cases s with
  | bg z =>
    cases u with
    | bg y => rw [(w (w (show [Part.s wBegin, .s z] = [.s wBegin, .s y] from h)).2).1]
    | qt y => exact absurd (w (show [Part.s wBegin, .s z] = [.s wQuit, .s y] from h)).1 bq
    | rd y t => exact absurd (congrArg List.length (show [Part.s wBegin, .s z] = [.s wRead, .s y, .s t] from h)) (by simp)
    | cl y ts => exact absurd (congrArg List.length (show [Part.s wBegin, .s z] = [.s wClose, .s y, .t ts] from h)) (by simp)
  | qt z =>
    cases u with
    | qt y => rw [(w (w (show [Part.s wQuit, .s z] = [.s wQuit, .s y] from h)).2).1]
    | bg y => exact absurd (w (show [Part.s wQuit, .s z] = [.s wBegin, .s y] from h)).1.symm bq
    | rd y t => exact absurd (congrArg List.length (show [Part.s wQuit, .s z] = [.s wRead, .s y, .s t] from h)) (by simp)
    | cl y ts => exact absurd (congrArg List.length (show [Part.s wQuit, .s z] = [.s wClose, .s y, .t ts] from h)) (by simp)
  | rd z t =>
    cases u with
    | rd y v =>
      have h1 := (w (show [Part.s wRead, .s z, .s t] = [.s wRead, .s y, .s v] from h)).2
      have h2 := w h1
      rw [h2.1, (w h2.2).1]
    | cl y ts => exact absurd (w (show [Part.s wRead, .s z, .s t] = [.s wClose, .s y, .t ts] from h)).1 rc
    | bg y => exact absurd (congrArg List.length (show [Part.s wRead, .s z, .s t] = [.s wBegin, .s y] from h)) (by simp)
    | qt y => exact absurd (congrArg List.length (show [Part.s wRead, .s z, .s t] = [.s wQuit, .s y] from h)) (by simp)
  | cl z ts =>
    cases u with
    | cl y us =>
      have h1 := (w (show [Part.s wClose, .s z, .t ts] = [.s wClose, .s y, .t us] from h)).2
      have h2 := w h1
      have h3 := h2.2
      injection h3 with h3
      injection h3 with h3
      rw [h2.1, h3]
    | rd y v => exact absurd (w (show [Part.s wClose, .s z, .t ts] = [.s wRead, .s y, .s v] from h)).1.symm rc
    | bg y => exact absurd (congrArg List.length (show [Part.s wClose, .s z, .t ts] = [.s wBegin, .s y] from h)) (by simp)
    | qt y => exact absurd (congrArg List.length (show [Part.s wClose, .s z, .t ts] = [.s wQuit, .s y] from h)) (by simp)
section
variable {X : Cx} {CX : CXT} {C : Addr} {m : Str} {k : Nat} {sp : Sp} {o : Expr} {ta : TE} {apos pos : Pos}
theorem pe_md0 {pl : Sem Bool} (M : MtC CX X.prog X.w X.K X.mg X.base C m k sp) (he : PE X o ta) (c : Cls X.K C) (hr : Room k X.A) (hx : Passes CX X E0)
    (ht : eval (.Call (.Attribute o m apos) [] [] pos) X.env = (do
      let ov ← eval o X.env
      standAt apos.atName
      let (f, first) ← holding [ov] (getMethod ov m pl)
      callWith pos f first (backTo pos (starEach [] X.env)) (backToKw pos (keywordEach [] X.env))) := by rfl) :
    PE X (.Call (.Attribute o m apos) [] [] pos) (tMeth C m sp [] E0 ta tNil) := by
  obtain ⟨f, fd, ps, h1, F, hb⟩ := M.ex
  exact pe_meth0 he c h1 F hr hb .nil hx ht
end
/-- isinstance(e, c) in the suite, e of the class at D, with fields -/
def rIsG (K : PySem.W.Frag) (D a : Addr) (cls : Value) (d : Option Addr) : List V → Hp → VK → Prop := fun xs H Q => cls = .ref D ∧ ∃ dd, d = some dd ∧ rIsD K D a dd xs H Q
theorem call_isG {X : Cx} {a D : Addr} {d : Option Addr} {cls : Value} {oe : Obj} {pn : List (Addr × Obj)} (C : ExcC X.K D) (hz : Zc cls d oe) (hf : ∃ vs, oe.data = .fields vs) : CallR (X.suite a ((a, oe) :: pn)) (.builtin "isinstance") (rIsG X.K D a cls d) := by
  intro pins s σ H xs us Q I r h
  obtain ⟨rfl, dd, rfl, h⟩ := h
  exact call_isD C hz hf pins s σ H xs us Q I r h
end Kx

/-! {**d, k: v}: a dict with texts as keys, copied, with one entry more -/
namespace Kd
open PySem PySem.Spec PyProof.Rows L2
section
variable {prog : Program} {w : World} {A : Around} {E : Value → Shared → Prop} {s : Shared}
theorem put_one {d : Addr} {kvs : List (Key × Value)} {k : Key} {key v : Value} {Q : Unit → Shared → Prop} (ik : (mixKind prog w).is k key = true) (m : s.heap.DictOf (mixKind prog w) d kvs) (z : kvs.length ≤ sizeLine)
    (q : ∀ h', h'.DictOf (mixKind prog w) d (stored kvs k v) → Heap.SameBut d s.heap h' → Q () { s with heap := h' }) : wpAny (model prog w) A (dictPut d ((mixKind prog w).hash k) key v) Q E s := by
  obtain ⟨o, es, ep, a1, a2, a3, a4, a5, a6⟩ := m
  have ez : es.size ≤ sizeLine := by
    have e1 := a5.length
    rw [Array.length_toList] at e1
    omega
  have same : (es.findIdx? fun e => (mixKind prog w).is k e.key) = kvs.findIdx? fun kv => decide (kv.1 = k) := by
    have := a5.findIdx k
    rw [← this]
    obtain ⟨l⟩ := es
    simp
  unfold dictPut
  refine wpAny_bind (wpAny_dictFind_of ik a1 a3 a4 ?_)
  cases hi : es.findIdx? fun e => (mixKind prog w).is k e.key with
  | some i =>
    dsimp only
    refine wpAny_updateDict a1 a3 (q _ ⟨_, _, ep, Heap.get?_update_self _ a1 (Obj.isFreed_of_dict (Obj.data_mapDict a3 _)), a2.mapDict _, Obj.data_mapDict a3 _, a4.modify _ _, ?_, ?_⟩ (Heap.SameBut.update ..))
    · rw [stored, if_pos (any_of_findIdx_some (same ▸ hi))]
      have hl : (es.toList.findIdx? fun e => (mixKind prog w).is k e.key) = some i := by
        rw [← hi]
        obtain ⟨l⟩ := es
        simp
      have y := a5.modify a6 hl v
      obtain ⟨l⟩ := es
      simpa using y
    · rw [stored, if_pos (any_of_findIdx_some (same ▸ hi)), keys_map_store]
      exact a6
  | none =>
    dsimp only
    have no : k ∉ kvs.map (·.1) := not_mem_of_findIdx_none (same ▸ hi)
    have na : ¬ (kvs.any fun kv => decide (kv.1 = k)) = true := fun y => by
      obtain ⟨kv, h1, h2⟩ := List.any_eq_true.mp y
      exact no (List.mem_map.mpr ⟨kv, h1, of_decide_eq_true h2⟩)
    refine wpAny_updateDictKeys (hz := ez) a1 a3 (q _ ⟨_, _, ep + 1, Heap.get?_update_self _ a1 (Obj.isFreed_of_dict (Obj.data_mapDictKeys a3 _)), a2.mapDictKeys _, Obj.data_mapDictKeys a3 _, a4.push ik _, ?_, ?_⟩ (Heap.SameBut.update ..))
    · rw [stored, if_neg na]
      have y := a5.append ik ((mixKind prog w).hash k) v
      obtain ⟨l⟩ := es
      simpa using y
    · rw [stored, if_neg na, List.map_append, List.nodup_append]
      refine ⟨a6, List.pairwise_singleton _ _, fun a ha b hb e => no ?_⟩
      rw [show b = k from List.mem_singleton.mp hb] at e
      rw [← e]
      exact ha
theorem no_ref {k : Key} {v : Value} (h : (mixKind prog w).is k v = true) (b : Addr) : v ≠ .ref b := fun e => by
  rcases keyIs_shape h with ⟨i, t, _, y⟩ | ⟨x, t, _, y⟩ <;> (rw [e] at y; cases y)
theorem merge_map {d o : Addr} {kvs more : List (Key × Value)} {Q : Unit → Shared → Prop} (ne : d ≠ o) (hoS : (o == sysModules) = false)
    (hd : s.heap.DictOf (mixKind prog w) d kvs) (ho : s.heap.DictOf (mixKind prog w) o more)
    (hQ : ∀ h', h'.DictOf (mixKind prog w) d (merged kvs more) → h'.DictOf (mixKind prog w) o more → Heap.SameBut d s.heap h' → Q () { s with heap := h' })
    (hsz : kvs.length + more.length ≤ sizeLine) :
    wpAny (model prog w) A (mergeMapping d (.ref o) false) Q E s := by
  obtain ⟨od, esd, epd, d1, d2, d3, d4, d5, d6⟩ := id hd
  obtain ⟨oo, eso, epo, o1, o2, o3, o4, o5, o6⟩ := id ho
  have hl : more.length = eso.size := by rw [← o5.length, Array.length_toList]
  have loop : ∀ {Q' : PUnit → Shared → Prop}, (∀ h', h'.DictOf (mixKind prog w) d (merged kvs more) → h'.DictOf (mixKind prog w) o more → Heap.SameBut d s.heap h' → Q' PUnit.unit { s with heap := h' }) →
      wpAny (model prog w) A (forIn (List.range eso.size) PUnit.unit fun i (_ : PUnit) => (do
        let es ← dictEntries o
        match es[i]? with
          | some e => do
            holding [e.key, e.val] (dictPut d e.hash e.key e.val)
            let ep ← dictEpoch o
            if (ep != epo) = true then do
                (unsupported "dict.changed-during-merge" : Sem PUnit)
                pure (ForInStep.yield PUnit.unit)
              else pure (ForInStep.yield PUnit.unit)
          | _ => do
            (unsupported "dict.changed-during-merge" : Sem PUnit)
            pure (ForInStep.yield PUnit.unit) : Sem (ForInStep PUnit))) Q' E s := fun {Q'} hq => by
    rw [List.range_eq_range']
    refine wpAny_forIn_list _ (fun rest _ s' => ∃ h' i, s' = { s with heap := h' } ∧ rest = List.range' i (eso.size - i) ∧ i ≤ eso.size ∧ h'.DictOf (mixKind prog w) d (merged kvs (more.take i)) ∧ h'.get? o = some oo ∧ Heap.SameBut d s.heap h') _ ?_ ?_ _ _
      ⟨s.heap, 0, rfl, by simp, Nat.zero_le _, by simpa [merged] using hd, o1, Heap.SameBut.refl _ _⟩
    · rintro x rest b s' ⟨h', i, rfl, hr, hi, hd', oo', hs'⟩
      have lt : i < eso.size := by
        rcases Nat.lt_or_ge i eso.size with h | h
        · exact h
        · rw [Nat.sub_eq_zero_of_le h] at hr
          exact absurd hr (by simp)
      obtain ⟨rfl, hrest⟩ : x = i ∧ rest = List.range' (i + 1) (eso.size - (i + 1)) := by
        rw [show eso.size - i = (eso.size - (i + 1)) + 1 by omega, List.range'_succ] at hr
        injection hr with h1 h2
        exact ⟨h1, h2⟩
      refine wpAny_bind (wpAny_dictEntries oo' o3 ?_)
      rw [Array.getElem?_eq_getElem lt]
      obtain ⟨⟨k, v⟩, hkv⟩ : ∃ kv, more[x]? = some kv := ⟨more[x]'(by rw [hl]; exact lt), List.getElem?_eq_getElem _⟩
      obtain ⟨hk, hv⟩ := o5.get? (e := eso[x]) (by simp [lt]) hkv
      obtain ⟨k', hk', hh⟩ := o4 eso[x] (Array.getElem_mem lt)
      obtain rfl : k' = k := (mixKind prog w).inj _ _ _ hk' hk
      show wpAny _ _ (holding [eso[x].key, eso[x].val] (dictPut d eso[x].hash eso[x].key eso[x].val) >>= _) _ _ _
      rw [hh, hv]
      have lm : (merged kvs (more.take x)).length ≤ sizeLine := by
        have e1 := merged_length_le kvs (more.take x)
        rw [List.length_take] at e1
        omega
      refine wpAny_bind (wpAny_holding (put_one hk hd' lm fun h2 hd2 hs2 => ?_))
      have oo2 : h2.get? o = some oo := (hs2.2 o (Ne.symm ne)).trans oo'
      refine wpAny_bind (wpAny_dictEpoch oo2 o3 ?_)
      rw [if_neg (by simp)]
      exact wpAny_pure ⟨h2, x + 1, rfl, hrest, lt, by rw [merged_take_succ kvs more x (k', v) hkv]; exact hd2, oo2, hs'.trans hs2⟩
    · rintro b s' ⟨h', i, rfl, hr, hi, hd', oo', hs'⟩
      have hin : i = eso.size := by
        rcases Nat.lt_or_ge i eso.size with h | h
        · rw [show eso.size - i = (eso.size - (i + 1)) + 1 by omega, List.range'_succ] at hr
          cases hr
        · exact Nat.le_antisymm hi h
      rw [hin, ← hl, List.take_length] at hd'
      exact hq h' hd' ⟨oo, eso, epo, oo', o2, o3, o4, o5, o6⟩ hs'
  have tail : wpAny (model prog w) A (do
      let es ← dictEntries o
      let ep0 ← dictEpoch o
      forIn (List.range es.size) PUnit.unit fun i (_ : PUnit) => (do
        let es ← dictEntries o
        match es[i]? with
          | some e => do
            holding [e.key, e.val] (dictPut d e.hash e.key e.val)
            let ep ← dictEpoch o
            if (ep != ep0) = true then do
                (unsupported "dict.changed-during-merge" : Sem PUnit)
                pure (ForInStep.yield PUnit.unit)
              else pure (ForInStep.yield PUnit.unit)
          | _ => do
            (unsupported "dict.changed-during-merge" : Sem PUnit)
            pure (ForInStep.yield PUnit.unit) : Sem (ForInStep PUnit))
      pure ()) Q E s := by
    refine wpAny_bind (wpAny_dictEntries o1 o3 (wpAny_bind (wpAny_dictEpoch o1 o3 (wpAny_bind (loop fun h' a b c => wpAny_pure (hQ h' a b c))))))
  unfold mergeMapping
  dsimp only
  simp only [Bool.false_eq_true, if_false]
  refine wpAny_bind (wpAny_isInstance ho.typeIs isSubtype_dict_dict ?_)
  simp only [if_true]
  refine wpAny_bind (wpAny_specialOf ho.typeIs F.slot_dict_iter.lookup ?_)
  refine wpAny_bind (wpAny_pure ?_)
  simp only [beq_self_eq_true, hoS, Bool.false_eq_true, if_false]
  refine wpAny_bind (wpAny_dictEntries d1 d3 ?_)
  by_cases he : esd.isEmpty = true
  · rw [if_pos he]
    refine wpAny_bind (wpAny_dictEntries o1 o3 ?_)
    refine wpAny_bind ?_
    rw [← Array.forIn_toList]
    refine wpAny_forIn_list _ (fun rest _ s' => s' = s ∧ ∀ e ∈ rest, ∃ k, (mixKind prog w).is k e.key = true) _ ?_ ?_ _ _ ⟨rfl, fun e he => ?_⟩
    · rintro ⟨eh, ek, ev⟩ rest b s' ⟨rfl, al⟩
      obtain ⟨k, hk⟩ := al _ List.mem_cons_self
      have al2 : ∀ e ∈ rest, ∃ k, (mixKind prog w).is k e.key = true := fun e z => al e (List.mem_cons_of_mem _ z)
      have hk : (mixKind prog w).is k ek = true := hk
      rcases keyIs_shape hk with ⟨i, t, _, rfl⟩ | ⟨x, t, _, rfl⟩
      · exact wpAny_pure ⟨rfl, al2⟩
      · exact wpAny_pure ⟨rfl, al2⟩
    · rintro b s' ⟨rfl, _⟩
      exact tail
    · obtain ⟨k, hk, _⟩ := o4 e (Array.mem_toList_iff.mp he)
      exact ⟨k, hk⟩
  · rw [if_neg he]
    exact tail
end
end Kd

/-! {**d, k: v}, the rule; dict(d) of a dict with texts as keys -/
namespace Kd
open PySem PySem.Spec PyProof.Rows L2
/-- D is the new dict, S the one that is thrown away -/
def tStar (td tk tv : TE) : TE := fun σ H Q => ∀ D, H D = none → td σ (upd H D (.dK [])) fun x H1 => ∃ (a : Addr) (kvs : List (Key × V)), x = .ref a ∧ H1 D = some (.dK []) ∧ a ≠ D ∧ Rd H1 a (.dK kvs) ∧ kvs.length < sizeLine ∧
  ∀ S, (upd H1 D (.dK kvs)) S = none → tk σ (upd (upd H1 D (.dK kvs)) S (.dK [])) fun y H2 => tv σ H2 fun z H3 => ∃ key : Key, y = kV key ∧ H3 D = some (.dK kvs) ∧ H3 S = some (.dK []) ∧ Q (.ref D) (upd (upd H3 S (.dK [(key, z)])) D (.dK (putK kvs key z)))
section
variable {X : Cx}
theorem pe_star {de ke ve : Expr} {td tk tv : TE} {pos : Pos} (hd : PE X de td) (hk : PE X ke tk) (hv : PE X ve tv) : PE X (.Dict [none, some ke] [de, ve] pos) (tStar td tk tv) := by
  refine ⟨fun pins s σ H Q I h => ?_⟩
  rw [arm_eval_Dict]
  refine wpAny_bind (wpAny_standAt ?_)
  show wpAny _ _ (dictDisplay [(none, do let x ← eval de X.env; standAt pos; pure x), (some (eval ke X.env), do let x ← eval ve X.env; standAt pos; pure x)]) _ _ _
  unfold dictDisplay
  simp only [List.forIn_cons, List.forIn_nil, List.isEmpty_nil, if_true, pure_bind, bind_assoc, List.nil_append, List.length_singleton, List.isEmpty_cons, Bool.false_eq_true, if_false]
  have hn := I.hok.fresh (Nat.le_refl s.heap.objs.size)
  have I1 := I.laid (a := s.heap.objs.size) (o := .dK []) (h' := s.heap.push { cls := .type "dict", data := .dict #[] }) (t' := s.toks) (fun _ _ q => Heap.get?_push_of_some _ q) (Nat.le_refl _) (dk_empty s.heap I.big)
  have q0 := h _ hn
  refine wpAny_bind (wpAny_alloc ?_)
  generalize s.heap.objs.size = D at hn I1 q0 ⊢
  generalize ({ s with heap := s.heap.push { cls := .type "dict", data := .dict #[] } } : Shared) = s1 at I1 ⊢
  refine wpAny_bind (wpAny_holding (wpAny_bind (thn (hd.run pins s1 σ _ _ I1 q0) fun u s2 ⟨x, H1, I2, rx, a, kvs, ex, e1, ne, ea, zl, q⟩ => wpAny_bind (wpAny_standAt (wpAny_pure ?_)))))
  subst ex
  cases (show u = Value.ref a from rx)
  obtain ⟨_, _, vs0, r0, dd0⟩ := dk_of I2.hok e1
  cases r0
  obtain ⟨z, hsys, vs, rel, dd⟩ := dk_rd I2.hok ea
  have lz : vs.length ≤ sizeLine := by rw [← rel.length]; exact z
  have nd : (vs.map (·.1)).Nodup := let ⟨_, _, _, _, _, _, _, _, n⟩ := dd; n
  refine wpAny_bind (wpAny_onRaise (wpAny_tryCatch (wpAny_onRaise (wpAny_holding (merge_map (Ne.symm ne) hsys dd0 dd (fun h' dd' _ sb => ?_) (by rw [List.length_nil]; omega))))))
  rw [merged_nil_of_nodup vs nd] at dd'
  have hD : (D == sysModules) = false := let ⟨_, y, _⟩ := dk_of I2.hok e1; y
  have I3 : Inv X pins σ (upd H1 D (.dK kvs)) { s2 with heap := h' } := d_write I2 (by rw [e1]; exact True.intro) sb (let ⟨q, _, _, hq, _⟩ := dd'; ⟨q, hq⟩) (dk_new z hD rel dd')
  have hn3 := I3.hok.fresh (Nat.le_refl h'.objs.size)
  have q3 := q _ hn3
  simp only [show ((1 : Nat) == 17) = false from rfl, Bool.false_eq_true, if_false, pure_bind, List.isEmpty_cons]
  simp only [bind_assoc, pure_bind]
  have I4 := I3.laid (a := h'.objs.size) (o := .dK []) (h' := h'.push { cls := .type "dict", data := .dict #[] }) (t' := s2.toks) (fun _ _ q => Heap.get?_push_of_some _ q) (Nat.le_refl _) (dk_empty h' I3.big)
  refine wpAny_bind (wpAny_holding (wpAny_subDict (knd := mixKind X.prog X.w) (by show 1 ≤ 15; decide) (evalPairs_cons (thn (hk.run pins _ σ _ _ I4 q3) fun u5 s5 ⟨y, H2, I5, ry, q5⟩ => wpAny_bind (thn (hv.run pins s5 σ H2 _ I5 q5) fun u6 s6 ⟨z6, H3, I6, rz, key, ey, e3, eS, q6⟩ => wpAny_bind (wpAny_standAt (wpAny_pure (evalPairs_nil ?_))))))))
  subst ey
  obtain ⟨_, _, vsS, rS, ddS⟩ := dk_of I6.hok eS
  cases rS
  refine ⟨[(key, u6)], ⟨kV_is ry, rfl, True.intro⟩, ddS, fun h2 dd2 sb2 => ?_⟩
  have hS : (h'.objs.size == sysModules) = false := let ⟨_, y, _⟩ := dk_of I6.hok eS; y
  have relS : KV [(key, z6)] (merged [] [(key, u6)]) := KV.merge (more := [(key, z6)]) (kvs := []) (.cons ⟨rfl, rz⟩ .nil) .nil
  have I7 := d_write (ob := .dK [(key, z6)]) (t' := s6.toks + [(u5, u6)].length) I6 (by rw [eS]; exact True.intro) sb2 (let ⟨q, _, _, hq, _⟩ := dd2; ⟨q, hq⟩) (dk_new (by show 1 ≤ sizeLine; rw [sizeLine_eq]; decide) hS relS dd2)
  have DS : D ≠ h'.objs.size := fun e => by rw [← e, upd_same] at hn3; cases hn3
  have e7 : (upd H3 h'.objs.size (.dK [(key, z6)])) D = some (.dK kvs) := (upd_ne DS).trans e3
  have eS7 : (upd H3 h'.objs.size (.dK [(key, z6)])) h'.objs.size = some (.dK [(key, z6)]) := upd_same
  obtain ⟨z7, hD7, vs7, rel7, dd7⟩ := dk_of I7.hok e7
  have lz7 : vs7.length < sizeLine := by rw [← rel7.length]; exact zl
  refine wpAny_bind (wpAny_onRaise (wpAny_holding (merge_map DS hS dd7 dd2 (fun h3 dd3 _ sb3 => ?_) (by
    have := merged_length_le ([] : List (Key × Value)) [(key, u6)]
    show _ + (merged [] [(key, u6)]).length ≤ _
    simp only [List.length_nil, List.length_cons] at this
    omega))))
  have rel8 : KV (putK kvs key z6) (merged vs7 (merged [] [(key, u6)])) := KV.merge (more := [(key, z6)]) relS rel7
  have l8 : (putK kvs key z6).length ≤ sizeLine := by have := length_putK kvs key z6; omega
  exact wpAny_pure ⟨.ref D, _, d_write (t' := s6.toks + [(u5, u6)].length) I7 (by rw [e7]; exact True.intro) sb3 (let ⟨q, _, _, hq, _⟩ := dd3; ⟨q, hq⟩) (dk_new l8 hD7 rel8 dd3), rfl, q6⟩
/-- dict(d), d with texts as keys: a copy -/
theorem call_dictK : CallR X (.type "dict") (fun xs H Q => ∃ (a : Addr) (kvs : List (Key × V)), xs = [.ref a] ∧ Rd H a (.dK kvs) ∧ ∀ p, H p = none → Q (.ref p) (upd H p (.dK kvs))) := by
  intro pins s σ H xs us Q I r h
  obtain ⟨a, kvs, rfl, e, q⟩ := h
  obtain ⟨u, rfl, rx⟩ := vals1 r
  cases (show u = Value.ref a from rx)
  exact d_copyOf I e fun p s' hp I' => ⟨.ref p, _, I', rfl, q p hp⟩
end
end Kd

/-! try: several clauses «except X as n», each with a suite of its own -/
namespace Kf
open PySem PySem.Spec PyProof.Rows L2
/-- the clauses, and what they wish of an exception -/
inductive CasOk (X : Cx) (Wo : WX) : List ExceptHandler → (Ends → WX) → Prop
  | nil : CasOk X Wo [] (fun _ => Wo)
  | cons {x n : Str} {c : Value} {i : Nat} {ts : Addr → Value → Option Addr → TS} {b0 : Stmt} {su : List Stmt} {q q' : Pos} {hs : List ExceptHandler} {V : Ends → WX} (hi : X.N[i]? = some n) (hl : X.env.kindOf n = some .local) (hc : Names X x c)
      (hsu : ∀ (a : Addr) (o : Obj) (cls : Value) (d : Option Addr) (pn : List (Addr × Obj)), Zc cls d o → (∃ vs, o.data = .fields vs) → PSs (X.suite a ((a, o) :: pn)) (b0 :: su) (ts a cls d)) (r : CasOk X Wo hs V) :
      CasOk X Wo (.ExceptHandler (some (.Name x q)) (some n) (b0 :: su) q' :: hs) (fun D => wAs X.K c i ts (V D) D)
section
variable {X : Cx} {bd : List Stmt} {h1 : ExceptHandler} {hs : List ExceptHandler} {pos : Pos} {tb : WX → TS} {Wo : WX} {V : Ends → WX}
theorem ps_try_cases (hst : X.stack = X.env :: X.outer) (hfm : X.env.frame = some X.env.locals) (hN : X.N.Nodup) (tk : Takes X Wo)
    (hb : ∀ (W : WX) (pn : List (Addr × Obj)) (xe : Value → Shared → Prop), Takes (X.tr pn xe) W → PassesOwn (model X.prog X.w) X.A X.env xe → PSs (X.tr pn xe) bd (tb W)) (hh : CasOk X Wo (h1 :: hs) V) :
    PS X (.Try bd (h1 :: hs) [] [] pos) (fun D σ H => tb (V D) D σ H) := by
  refine ⟨fun pins s σ H D I h => ?_⟩
  have fine := I.ok
  have fms : X.A.frames = some (X.env :: X.outer) := by rw [fine.frames, hst]
  refine wpAny_Try_except ?_
  refine wpAny_mono ((hb (V D) (X.pn ++ pins) (fun e sa => wpAny (model X.prog X.w) X.A (noteFrame e X.env) (fun _ sb => wpAny (model X.prog X.w) X.A (setFlight e none) (fun _ sc => wpAny (model X.prog X.w) X.A (handleBy e X.env (h1 :: hs)) (SP X pins D) X.xe sc) X.xe sb) X.xe sa)
    (fun u sx xx => ?_) PassesOwn.looking).run [] s σ H D (I.toTry _) h) (fun fl sx hsp => ?_) (fun _ _ z => z)
  · obtain ⟨a, B, sI, pins', σ', H', cls, d, rfl, J0, nb, up, sky0, na, os, ag, wish⟩ := xx
    have J : Inv X pins σ' H' sI := J0.ofTry fine
    have sky : Sky B (X.env :: X.outer) a (Zc cls d) X.env.locals sx.heap := by rw [← hst]; exact sky0
    show wpAny _ X.A (noteFrame (.ref a) X.env) _ _ _
    refine Sky.land Zc.steady fms hfm sky fun g3 l3 u3 => ?_
    have K3 : Inv X pins σ' H' { sx with heap := g3 } := J.landed nb l3.1 (up.trans u3) os ag
    obtain ⟨o3, v3, at3, z3, dat3⟩ := l3.there
    have off : a ∉ frs (X.env :: X.outer) := fun hm => by
      obtain ⟨_, o', e', y⟩ := l3.2.2.1.mem hm
      rw [at3] at e'
      cases e'
      exact y _ dat3
    have aL : a ≠ X.env.locals := fun z => off (List.mem_filterMap.mpr ⟨X.env, List.mem_cons_self, by rw [hfm, z]⟩)
    have aF : a ∉ X.fs := fun hm => by
      obtain ⟨e, he, y⟩ := List.mem_filterMap.mp hm
      exact off (List.mem_filterMap.mpr ⟨e, List.mem_cons_of_mem _ he, y⟩)
    have S3 := K3.suite at3 dat3 na aL aF
    have all : ∀ {ks : List ExceptHandler} {U : Ends → WX}, CasOk X Wo ks U → U D cls d σ' H' → wpAny (model X.prog X.w) X.A (handleBy (.ref a) X.env ks) (SP X pins D) X.xe { sx with heap := g3 } := by
      intro ks U hk
      induction hk with
      | nil =>
        intro wish
        refine wpAny_handleBy_nil ?_
        obtain ⟨y1, y2, y3, o, vs, T, oT, ts', e1, e2, e3, e4, e5⟩ := id l3
        unfold PySem.passOn
        refine wpAny_bind (wpAny_field e1 e3 e4 ?_)
        rw [if_neg (by simp : ¬ ((Value.ref T == Value.none) = true))]
        have out : wpAny (model X.prog X.w) X.A (setFlight (.ref a) X.env.frame) (fun _ sd => wpAny (model X.prog X.w) X.A (throw (.ref a) : Sem Flow) (SP X pins D) X.xe sd) X.xe { sx with heap := g3 } := by
          rw [hfm]
          refine HandSPX.setFlight_upZ l3 fun g4 l4 u4 => wpAny_throw (tk _ _ ?_)
          exact ⟨a, B, sI, pins, σ', H', cls, d, rfl, J, nb, (up.trans u3).trans u4, .inr (.inr (by rw [hst]; exact l4)), na, os, ag, wish⟩
        first
          | exact wpAny_bind (wpAny_pure (wpAny_bind out))
          | exact wpAny_bind out
      | @cons x n c i ts b0 su q q' ks2 U2 hi hl hc hsu r ih =>
        intro wish
        obtain ⟨b, isb, yes, no⟩ := wish
        refine wpAny_handleBy_cons (codeAny_handlers_test ?_) (by intro z; cases z)
        have lk : PySem.W.Looks (model X.prog X.w) g3 (typeOf (.ref a)) cls := fun _ _ _ _ k z => wpAny_typeOf_ref (k _ _ at3) (by rw [z3.1]; exact z)
        have mt := PySem.W.exm_one (M := model X.prog X.w) K3.kIn lk isb
        have named : ∀ {Q : Value → Shared → Prop} {E : Value → Shared → Prop}, Q c { sx with heap := g3 } → wpAny (model X.prog X.w) (X.A.mark (some (.ref a))) (eval (.Name x q) X.env) Q E { sx with heap := g3 } := fun {Q E} z => by
          obtain ⟨hg, dbg, hm | ⟨hm, hv, hnn⟩⟩ := hc
          · exact ld_glob (X := X.suite a ((a, o3) :: (X.pn ++ pins))) S3 hg hm z dbg
          · exact ld_blt (X := X.suite a ((a, o3) :: (X.pn ++ pins))) S3 hg hm hv z hnn dbg
        refine named (mt.here ?_)
        cases b with
        | false => exact ih (no rfl)
        | true =>
          refine codeAny_handlers_suite_as ?_
          refine HandSPX.lands_againZ l3 fun g4 l4 u4 => ?_
          have K4 : Inv X pins σ' H' { sx with heap := g4 } := J.landed nb l4.1 ((up.trans u3).trans u4) os ag
          obtain ⟨o4, v4, at4, z4, dat4⟩ := l4.there
          refine store_ok (X := X.suite a ((a, o4) :: (X.pn ++ pins))) (v := .ref a) (K4.suite at4 dat4 na aL aF) hN hi (.inl hl) rfl (fun s5 S5 => ?_) (.inr hl)
          refine wpAny_mono ((hsu a o4 cls d (X.pn ++ pins) z4 ⟨_, dat4⟩).run [] s5 _ H' _ S5 (yes rfl a na)) (fun fl s6 hsp => ?_) (fun _ _ z => False.elim z)
          have gone : ∀ {σ6 : L2.St} {H6 : Hp} {Q : Shared → Prop}, Inv (X.suite a ((a, o4) :: (X.pn ++ pins))) [] σ6 H6 s6 → (∀ s7, Inv X pins (σ6.set i none) H6 s7 → Q s7) →
              wpAny (model X.prog X.w) X.A (do bindName X.env n .none; unbindBehindTheSuite X.env n q') (fun _ s7 => Q s7) X.xe s6 := fun S6 z => gone_ok (S6.unsuite fine) hN hi hl z
          cases fl with
          | next => exact let ⟨_, _, S6, z⟩ := hsp; gone S6 fun _ J7 => ⟨_, _, J7, z⟩
          | brk => exact let ⟨_, _, S6, z⟩ := hsp; gone S6 fun _ J7 => ⟨_, _, J7, z⟩
          | cont => exact let ⟨_, _, S6, z⟩ := hsp; gone S6 fun _ J7 => ⟨_, _, J7, z⟩
          | ret u => exact let ⟨_, _, _, S6, rv, z⟩ := hsp; gone S6 fun _ J7 => ⟨_, _, _, J7, rv, z⟩
    exact all hh wish
  · cases fl with
    | next => exact let ⟨_, _, J, z⟩ := hsp; wpAny_execs_nil ⟨_, _, J.ofTry fine, z⟩
    | brk => exact let ⟨_, _, J, z⟩ := hsp; ⟨_, _, J.ofTry fine, z⟩
    | cont => exact let ⟨_, _, J, z⟩ := hsp; ⟨_, _, J.ofTry fine, z⟩
    | ret u => exact let ⟨_, _, _, J, rv, z⟩ := hsp; ⟨_, _, _, J.ofTry fine, rv, z⟩
end
end Kf

namespace Kx
open PySem PySem.Spec PyProof.Rows L2 NdefX Kr Ke Kn Kz Ky Kg
/-! ### lists of names with values -/
section
variable {β : Type}
def putA (l : List (Str × β)) (k : Str) (v : β) : List (Str × β) := if (l.any fun e => decide (e.1 = k)) = true then l.map (fun e => if e.1 = k then (e.1, v) else e) else l ++ [(k, v)]
def valA (l : List (Str × β)) (k : Str) : Option β := (l.find? fun e => decide (e.1 = k)).map (·.2)
theorem putA_keys (l : List (Str × β)) (k : Str) (v : β) : (putA l k v).map (·.1) = if k ∈ l.map (·.1) then l.map (·.1) else l.map (·.1) ++ [k] := by
  unfold putA
  by_cases h : k ∈ l.map (·.1)
  · have : (l.any fun e => decide (e.1 = k)) = true := by
      obtain ⟨e, he, ek⟩ := List.mem_map.mp h
      exact List.any_eq_true.mpr ⟨e, he, decide_eq_true ek⟩
    rw [if_pos this, if_pos h, List.map_map]
    refine List.map_congr_left fun e _ => ?_
    show (if e.1 = k then (e.1, v) else e).1 = e.1
    split <;> rfl
  · have : ¬ (l.any fun e => decide (e.1 = k)) = true := fun y => by
      obtain ⟨e, he, ek⟩ := List.any_eq_true.mp y
      exact h (List.mem_map.mpr ⟨e, he, of_decide_eq_true ek⟩)
    rw [if_neg this, if_neg h, List.map_append]
    rfl
theorem putA_mem (l : List (Str × β)) (k : Str) (v : β) (z : Str) : z ∈ (putA l k v).map (·.1) ↔ z ∈ l.map (·.1) ∨ z = k := by
  rw [putA_keys]
  by_cases h : k ∈ l.map (·.1)
  · rw [if_pos h]
    exact ⟨.inl, fun y => y.elim id fun e => e ▸ h⟩
  · rw [if_neg h, List.mem_append, List.mem_singleton]
theorem putA_nd {l : List (Str × β)} (n : (l.map (·.1)).Nodup) (k : Str) (v : β) : ((putA l k v).map (·.1)).Nodup := by
  rw [putA_keys]
  by_cases h : k ∈ l.map (·.1)
  · rw [if_pos h]; exact n
  · rw [if_neg h]
    exact List.nodup_append.mpr ⟨n, List.pairwise_singleton _ _, fun a ha b hb e => h (by rw [← List.mem_singleton.mp hb, ← e]; exact ha)⟩
theorem valA_nil (k : Str) : valA ([] : List (Str × β)) k = none := rfl
theorem valA_cons (p : Str × β) (r : List (Str × β)) (k : Str) : valA (p :: r) k = if p.1 = k then some p.2 else valA r k := by
  unfold valA
  rw [List.find?_cons]
  by_cases h : p.1 = k
  · rw [if_pos h, decide_eq_true h]; rfl
  · rw [if_neg h, decide_eq_false h]
theorem valA_none {l : List (Str × β)} {k : Str} : valA l k = none ↔ k ∉ l.map (·.1) := by
  induction l with
  | nil => exact ⟨fun _ h => (nomatch h), fun _ => rfl⟩
  | cons p r ih =>
    rw [valA_cons, List.map_cons, List.mem_cons]
    by_cases h : p.1 = k
    · rw [if_pos h]
      exact ⟨fun y => (nomatch y), fun y => absurd (.inl h.symm) y⟩
    · rw [if_neg h, ih]
      exact ⟨fun y z => z.elim (fun e => h e.symm) y, fun y z => y (.inr z)⟩
theorem valA_mem {l : List (Str × β)} {k : Str} {v : β} (h : valA l k = some v) : (k, v) ∈ l := by
  induction l with
  | nil => cases h
  | cons p r ih =>
    rw [valA_cons] at h
    by_cases c : p.1 = k
    · rw [if_pos c] at h
      injection h with h
      rw [← h, ← c]
      exact List.mem_cons_self
    · rw [if_neg c] at h
      exact List.mem_cons_of_mem _ (ih h)
theorem valA_at {l : List (Str × β)} (n : (l.map (·.1)).Nodup) {e : Str × β} (he : e ∈ l) : valA l e.1 = some e.2 := by
  induction l with
  | nil => cases he
  | cons p r ih =>
    rw [List.map_cons, List.nodup_cons] at n
    rw [valA_cons]
    rcases List.mem_cons.mp he with rfl | he
    · rw [if_pos rfl]
    · rw [if_neg (fun y : p.1 = e.1 => n.1 (y ▸ List.mem_map.mpr ⟨e, he, rfl⟩))]
      exact ih n.2 he
theorem valA_map_if (l : List (Str × β)) (k j : Str) (v : β) : valA (l.map fun e => if e.1 = k then (e.1, v) else e) j = (valA l j).map fun x => if j = k then v else x := by
  induction l with
  | nil => rfl
  | cons p r ih =>
    rw [List.map_cons, valA_cons, valA_cons, ih]
    by_cases c : p.1 = k
    · rw [if_pos c]
      by_cases h : p.1 = j
      · rw [if_pos h, if_pos h, Option.map_some, if_pos (h ▸ c)]
      · rw [if_neg h, if_neg h]
    · rw [if_neg c]
      by_cases h : p.1 = j
      · rw [if_pos h, if_pos h, Option.map_some, if_neg (fun e => c (h.trans e))]
      · rw [if_neg h, if_neg h]
theorem valA_app (l m : List (Str × β)) (j : Str) : valA (l ++ m) j = (valA l j).or (valA m j) := by
  induction l with
  | nil => rfl
  | cons p r ih =>
    rw [List.cons_append, valA_cons, valA_cons, ih]
    split <;> rfl
theorem valA_put (l : List (Str × β)) (k j : Str) (v : β) : valA (putA l k v) j = if j = k then some v else valA l j := by
  unfold putA
  by_cases h : k ∈ l.map (·.1)
  · have a : (l.any fun e => decide (e.1 = k)) = true := by
      obtain ⟨e, he, ek⟩ := List.mem_map.mp h
      exact List.any_eq_true.mpr ⟨e, he, decide_eq_true ek⟩
    rw [if_pos a, valA_map_if]
    by_cases c : j = k
    · rw [if_pos c]
      cases e : valA l j with
      | none => exact absurd (c ▸ h) (valA_none.mp e)
      | some x => rw [Option.map_some, if_pos c]
    · rw [if_neg c]
      cases e : valA l j with
      | none => rfl
      | some x => rw [Option.map_some, if_neg c]
  · have a : ¬ (l.any fun e => decide (e.1 = k)) = true := fun y => by
      obtain ⟨e, he, ek⟩ := List.any_eq_true.mp y
      exact h (List.mem_map.mpr ⟨e, he, of_decide_eq_true ek⟩)
    rw [if_neg a, valA_app, valA_cons, valA_nil]
    by_cases c : j = k
    · rw [if_pos c, c, valA_none.mpr h, if_pos rfl]
      rfl
    · rw [if_neg c, if_neg (fun e => c e.symm)]
      cases valA l j <;> rfl
/-- as a dict holds them -/
def entA (g : β → V) (e : Str × β) : Key × V := (.inr e.1, g e.2)
theorem putA_map (g : β → V) (l : List (Str × β)) (k : Str) (v : β) : (putA l k v).map (entA g) = putK (l.map (entA g)) (.inr k) (g v) := by
  unfold putA putK
  have e : ((l.map (entA g)).any fun kv => decide (kv.1 = .inr k)) = l.any fun e => decide (e.1 = k) := by
    rw [List.any_map]
    refine congrArg (fun f => l.any f) (funext fun e => ?_)
    show decide ((Sum.inr e.1 : Key) = .inr k) = decide (e.1 = k)
    by_cases h : e.1 = k
    · rw [decide_eq_true h, decide_eq_true (by rw [h])]
    · rw [decide_eq_false h, decide_eq_false (fun y => h (by injection y))]
  rw [e]
  by_cases h : (l.any fun e => decide (e.1 = k)) = true
  · rw [if_pos h, if_pos h, List.map_map, List.map_map]
    refine List.map_congr_left fun e _ => ?_
    show entA g (if e.1 = k then (e.1, v) else e) = if (Sum.inr e.1 : Key) = .inr k then ((Sum.inr e.1 : Key), g v) else entA g e
    by_cases c : e.1 = k
    · rw [if_pos c, if_pos (by rw [c])]; rfl
    · rw [if_neg c, if_neg (fun y => c (by injection y))]
  · rw [if_neg h, if_neg h, List.map_append]
    rfl
theorem valA_map (g : β → V) (l : List (Str × β)) (k : Str) : valV (l.map (entA g)) (.inr k) = (valA l k).map g := by
  induction l with
  | nil => rfl
  | cons p r ih =>
    rw [List.map_cons, valA_cons]
    by_cases c : p.1 = k
    · rw [if_pos c, valV_pos (show (entA g p).1 = .inr k by rw [← c]; rfl)]; rfl
    · rw [if_neg c, valV_neg (fun y => c (by injection y)), ih]
theorem putA_len (l : List (Str × β)) (k : Str) (v : β) : (putA l k v).length ≤ l.length + 1 := by
  unfold putA
  split
  · rw [List.length_map]; omega
  · rw [List.length_append]; exact Nat.le_refl _
end
/-! ### what is held -/
structure Web where
  line : List Str
  ended : List Str
  tch : List (Str × List (Str × Str))
  prs : List (List Str)
def heldF (ll le lt lp : Addr) : List (Str × V) := putF "pairs" (.ref lp) (putF "touches" (.ref lt) (putF "ended" (.ref le) (putF "line" (.ref ll) [])))
theorem hf_ne : ¬ (("line" : Str) = "pairs") ∧ ¬ (("line" : Str) = "touches") ∧ ¬ (("line" : Str) = "ended") ∧ ¬ (("ended" : Str) = "pairs") ∧ ¬ (("ended" : Str) = "touches") ∧ ¬ (("touches" : Str) = "pairs") := by decide +kernel
theorem heldF_l (ll le lt lp : Addr) : (heldF ll le lt lp).lookup ("line" : Str) = some (.ref ll) := by
  unfold heldF
  rw [lookup_putF, if_neg hf_ne.1, lookup_putF, if_neg hf_ne.2.1, lookup_putF, if_neg hf_ne.2.2.1, lookup_putF, if_pos rfl]
theorem heldF_e (ll le lt lp : Addr) : (heldF ll le lt lp).lookup ("ended" : Str) = some (.ref le) := by
  unfold heldF
  rw [lookup_putF, if_neg hf_ne.2.2.2.1, lookup_putF, if_neg hf_ne.2.2.2.2.1, lookup_putF, if_pos rfl]
theorem heldF_t (ll le lt lp : Addr) : (heldF ll le lt lp).lookup ("touches" : Str) = some (.ref lt) := by
  unfold heldF
  rw [lookup_putF, if_neg hf_ne.2.2.2.2.2, lookup_putF, if_pos rfl]
theorem heldF_p (ll le lt lp : Addr) : (heldF ll le lt lp).lookup ("pairs" : Str) = some (.ref lp) := by
  unfold heldF
  rw [lookup_putF, if_pos rfl]
theorem heldF_no {ll le lt lp : Addr} {m : Str} (h1 : ¬ (m = "line")) (h2 : ¬ (m = "ended")) (h3 : ¬ (m = "touches")) (h4 : ¬ (m = "pairs")) : (heldF ll le lt lp).lookup m = none := by
  unfold heldF
  rw [lookup_putF, if_neg h4, lookup_putF, if_neg h3, lookup_putF, if_neg h2, lookup_putF, if_neg h1]
  rfl
abbrev AT := Addr × List (Str × Str)
/-- the dict of dicts -/
structure TchAt (H : Hp) (lt : Addr) (kt : List (Str × AT)) : Prop where
  d : H lt = some (.dK (kt.map (entA fun a : AT => V.ref a.1)))
  u : ∀ e ∈ kt, H e.2.1 = some (.dK (e.2.2.map (entA V.str)))
theorem TchAt.same {H H' : Hp} {lt : Addr} {kt : List (Str × AT)} (x : TchAt H lt kt) (s : Same H H') : TchAt H' lt kt := ⟨s _ _ x.d, fun e he => s _ _ (x.u e he)⟩
/-- the pairs -/
structure PrsAt (K : PySem.W.Frag) (H : Hp) (lp : Addr) (kp : List AL) : Prop where
  l : H lp = some (.lst (kp.map fun q => V.ref q.1))
  t : ∀ q ∈ kp, q.2.length = 2 ∧ SqT K H q.1 (q.2.map V.str)
theorem PrsAt.same {K : PySem.W.Frag} {H H' : Hp} {lp : Addr} {kp : List AL} (x : PrsAt K H lp kp) (s : Same H H') : PrsAt K H' lp kp := ⟨s _ _ x.l, fun q hq => ⟨(x.t q hq).1, Same.tupS s (x.t q hq).2⟩⟩
def ktW (kt : List (Str × AT)) : List (Str × List (Str × Str)) := kt.map fun e => (e.1, e.2.2)
structure HeldIn (K : PySem.W.Frag) (C : Addr) (H : Hp) (p : Addr) (W : Web) (dx ll le lt lp : Addr) (kt : List (Str × AT)) (kp : List AL) : Prop where
  p : H p = some (.ins C dx (heldF ll le lt lp))
  l : H ll = some (.lst (W.line.map V.str))
  e : H le = some (.lst (W.ended.map V.str))
  t : TchAt H lt kt
  tw : ktW kt = W.tch
  r : PrsAt K H lp kp
  rw_ : kp.map (·.2) = W.prs
theorem HeldIn.same {K : PySem.W.Frag} {C p dx ll le lt lp : Addr} {H H' : Hp} {W : Web} {kt : List (Str × AT)} {kp : List AL} (x : HeldIn K C H p W dx ll le lt lp kt kp) (s : Same H H') : HeldIn K C H' p W dx ll le lt lp kt kp :=
  ⟨s _ _ x.p, s _ _ x.l, s _ _ x.e, x.t.same s, x.tw, x.r.same s, x.rw_⟩
def HeldAt (K : PySem.W.Frag) (C : Addr) (H : Hp) (p : Addr) (W : Web) : Prop := ∃ (dx ll le lt lp : Addr) (kt : List (Str × AT)) (kp : List AL), HeldIn K C H p W dx ll le lt lp kt kp
theorem HeldAt.same {K : PySem.W.Frag} {C p : Addr} {H H' : Hp} {W : Web} (x : HeldAt K C H p W) (s : Same H H') : HeldAt K C H' p W := let ⟨dx, ll, le, lt, lp, kt, kp, y⟩ := x; ⟨dx, ll, le, lt, lp, kt, kp, y.same s⟩
theorem putA_ktW (kt : List (Str × AT)) (z : Str) (a : Addr) (U : List (Str × Str)) : ktW (putA kt z (a, U)) = putA (ktW kt) z U := by
  unfold ktW putA
  have e : ((kt.map fun e => (e.1, e.2.2)).any fun e => decide (e.1 = z)) = kt.any fun e => decide (e.1 = z) := by rw [List.any_map]; rfl
  rw [e]
  by_cases h : (kt.any fun e => decide (e.1 = z)) = true
  · rw [if_pos h, if_pos h, List.map_map, List.map_map]
    refine List.map_congr_left fun e _ => ?_
    show ((if e.1 = z then (e.1, (a, U)) else e).1, (if e.1 = z then (e.1, (a, U)) else e).2.2) = if e.1 = z then (e.1, U) else (e.1, e.2.2)
    split <;> rfl
  · rw [if_neg h, if_neg h, List.map_append]
    rfl
theorem valA_ktW (kt : List (Str × AT)) (z : Str) : valA (ktW kt) z = (valA kt z).map (·.2) := by
  induction kt with
  | nil => rfl
  | cons p r ih =>
    show valA ((p.1, p.2.2) :: ktW r) z = _
    rw [valA_cons, valA_cons, ih]
    by_cases c : p.1 = z
    · rw [if_pos c, if_pos c]; rfl
    · rw [if_neg c, if_neg c]
/-- where it lies -/
structure AvH (av : Addr → Prop) (p ll le lt lp : Addr) (kt : List (Str × AT)) (kp : List AL) : Prop where
  p : av p
  l : av ll
  e : av le
  t : av lt
  r : av lp
  kt : ∀ e ∈ kt, av e.2.1
  kp : ∀ q ∈ kp, av q.1
theorem AvH.mono {av av' : Addr → Prop} {p ll le lt lp : Addr} {kt : List (Str × AT)} {kp : List AL} (x : AvH av p ll le lt lp kt kp) (h : ∀ b, av b → av' b) : AvH av' p ll le lt lp kt kp :=
  ⟨h _ x.p, h _ x.l, h _ x.e, h _ x.t, h _ x.r, fun e he => h _ (x.kt e he), fun q hq => h _ (x.kp q hq)⟩
def HeldAv (av : Addr → Prop) (K : PySem.W.Frag) (C : Addr) (H : Hp) (p : Addr) (W : Web) : Prop := ∃ (dx ll le lt lp : Addr) (kt : List (Str × AT)) (kp : List AL), HeldIn K C H p W dx ll le lt lp kt kp ∧ AvH av p ll le lt lp kt kp
theorem HeldAv.at_ {av : Addr → Prop} {K : PySem.W.Frag} {C p : Addr} {H : Hp} {W : Web} (x : HeldAv av K C H p W) : HeldAt K C H p W := let ⟨dx, ll, le, lt, lp, kt, kp, y, _⟩ := x; ⟨dx, ll, le, lt, lp, kt, kp, y⟩
theorem HeldAv.same {av : Addr → Prop} {K : PySem.W.Frag} {C p : Addr} {H H' : Hp} {W : Web} (x : HeldAv av K C H p W) (s : Same H H') : HeldAv av K C H' p W := let ⟨dx, ll, le, lt, lp, kt, kp, y, a⟩ := x; ⟨dx, ll, le, lt, lp, kt, kp, y.same s, a⟩
theorem HeldAv.mono {av av' : Addr → Prop} {K : PySem.W.Frag} {C p : Addr} {H : Hp} {W : Web} (x : HeldAv av K C H p W) (h : ∀ b, av b → av' b) : HeldAv av' K C H p W := let ⟨dx, ll, le, lt, lp, kt, kp, y, a⟩ := x; ⟨dx, ll, le, lt, lp, kt, kp, y, a.mono h⟩
/-- or new -/
def avN (av : Addr → Prop) (H : Hp) (b : Addr) : Prop := av b ∨ H b = none
theorem avN.back {av : Addr → Prop} {H H' : Hp} {b : Addr} (s : Same H H') (h : avN av H' b) : avN av H b := h.imp id (none_of s)
def tof (W : Web) (z : Str) : List (Str × Str) := (valA W.tch z).getD []
/-- the touch of a thing -/
def tw (W : Web) (z t : Str) : Option Str := valA (tof W z) t
structure WebOk (W : Web) : Prop where
  nd : W.line.Nodup
  nm : ∀ z ∈ W.line, nameB z = true
  en : W.ended.Nodup
  el : ∀ z ∈ W.ended, z ∈ W.line
  tk : ∀ z, z ∈ W.tch.map (·.1) ↔ z ∈ W.line
  tn : (W.tch.map (·.1)).Nodup
  uk : ∀ e ∈ W.tch, (e.2.map (·.1)).Nodup
  uw : ∀ e ∈ W.tch, ∀ u ∈ e.2, nameB u.1 = true ∧ (u.2 = wRead ∨ u.2 = wWrite)
  pn : W.prs.Nodup
  pk : ∀ q ∈ W.prs, ∃ a b, q = [a, b] ∧ a ∈ W.line ∧ b ∈ W.line ∧ a ≠ b
theorem WebOk.tl {W : Web} (w : WebOk W) : W.tch.length = W.line.length := by
  have := ((List.perm_ext_iff_of_nodup w.tn w.nd).mpr w.tk).length_eq
  rwa [List.length_map] at this
theorem WebOk.pl {W : Web} (w : WebOk W) : W.prs.length ≤ W.line.length * (W.line.length - 1) := by
  have h := nd_len W.prs (W.line.flatMap fun a => (W.line.erase a).map fun b => [a, b]) w.pn fun q hq => by
    obtain ⟨a, b, rfl, ha, hb, ne⟩ := w.pk q hq
    exact List.mem_flatMap.mpr ⟨a, ha, List.mem_map.mpr ⟨b, (List.mem_erase_of_ne (Ne.symm ne)).mpr hb, rfl⟩⟩
  refine Nat.le_trans h (flat_len fun a ha => ?_)
  rw [List.length_map, List.length_erase_of_mem ha]
  exact Nat.le_refl _
end Kx

namespace Kx
open PySem PySem.Spec PyProof.Rows L2 NdefX Kr Ke Kn Kz Ky Kg
/-! ### Held(..) -/
structure TxH (K : PySem.W.Frag) (mg : Str → Option Value) (C : Addr) : Prop extends TxS mg where
  insH : C8.InsC K C
  nL : PySem.W.findIn K (.ref C) "line" = some none
  nE : PySem.W.findIn K (.ref C) "ended" = some none
  nT : PySem.W.findIn K (.ref C) "touches" = some none
  nP : PySem.W.findIn K (.ref C) "pairs" = some none
abbrev s_hInit : Stmt := inClass (topS 52) 0
abbrev N_hInit : List Str := ["self", "line", "ended", "touches", "pairs"]
theorem sc_hInit : FnScope N_hInit ["self", "line", "ended", "touches", "pairs"] (defScope s_hInit) := ⟨rfl, rfl, rfl, by decide +kernel, rfl, by decide +kernel, by decide +kernel⟩
def spHInit (C : Addr) : Sp := fun vs H Q _ => ∃ (p ll le lt lp dx : Addr), vs = [.ref p, .ref ll, .ref le, .ref lt, .ref lp] ∧ H p = some (.ins C dx []) ∧ Q .non (upd H p (.ins C dx (heldF ll le lt lp)))
structure HdC (P : Program) (w : World) (K : PySem.W.Frag) (mg : Str → Option Value) (base : Heap) (C : Addr) (k : Nat) : Prop where
  ex : ∃ (f : Addr) (fd : FuncData), Mk K C f ∧ FnOk P w K mg base CX0 k f fd ["self", "line", "ended", "touches", "pairs"] (spHInit C) ∧ Binds K fd ["self", "line", "ended", "touches", "pairs"] []
  g : mg "Held" = some (.ref C)
def tHdV (C : Addr) (ta : TA) : TE := fun σ H Q => ta σ H fun vs H1 => ∃ ll le lt lp : Addr, vs = [.ref ll, .ref le, .ref lt, .ref lp] ∧ ∀ (x dx : Addr) H2, H1 x = none → Same H1 H2 → H2 x = some (.ins C dx (heldF ll le lt lp)) → Q (.ref x) H2
section
variable {X : Cx} {C : Addr} {k : Nat} {e : Expr} {es : List Expr} {ta : TA} {p pos : Pos}
theorem pe_hd (M : HdC X.prog X.w X.K X.mg X.base C k) (hr : Room (k + 1) X.A) (hg : Gl X "Held") (ha : PA X (e :: es) ta) (hst : starEach (e :: es) X.env = (false, eval e X.env) :: starEach es X.env := by rfl) (hpl : (backTo pos (starEach es X.env)).any (·.1) = false := by rfl) :
    PE X (.Call (.Name "Held" p) (e :: es) [] pos) (tHdV C ta) := by
  obtain ⟨f, fd, M1, F, hb⟩ := M.ex
  refine ⟨fun pins s σ H Q I h => ?_⟩
  refine wpAny_Call_Name_kw (ld_glob I hg M.g ?_)
  refine PySem.W.callWith_K (h₀ := X.base) I.ok.mod.kin M1.kp (thn (ha.run pos pins s σ H _ I h) fun us s1 hq => ?_) hst hpl
  obtain ⟨vs, H1, I1, rv, ll, le, lt, lp, rfl, q⟩ := hq
  refine ⟨I1.kIn, run_make (dvs := []) (ds := []) M1 F hr hb .nil pass0 I1 rv fun x dx nx nd ne => ?_⟩
  refine ⟨x, ll, le, lt, lp, dx, rfl, upd_same, rfl, ?_⟩
  refine q x dx _ nx (fun b o e => ?_) upd_same
  rw [upd_ne (ne_of_none e nx)]
  exact same_made nx nd b o e
end
section
variable {P : Program} {w : World} {K : PySem.W.Frag} {mg : Str → Option Value} {base : Heap} {C : Addr}
theorem ok_hInit {f : Addr} {fd : FuncData} (F : Fun K "__init__" "Held.__init__" s_hInit f fd) (T : TxH K mg C) : FnOk P w K mg base CX0 1 f fd ["self", "line", "ended", "touches", "pairs"] (spHInit C) := by
  refine F.ok sc_hInit (fun vs H Q E h => ?_) (fun cdv A outer s H vs Q E hr h => ?_)
  · obtain ⟨p, ll, le, lt, lp, dx, rfl, _⟩ := h
    rfl
  · obtain ⟨p, ll, le, lt, lp, dx, rfl, hp, q⟩ := h
    refine ⟨_, (pss_cons (ps_fld (pv 0) (pv 1) rfl)
      (pss_cons (ps_fld (pv 0) (pv 2) rfl)
      (pss_cons (ps_fld (pv 0) (pv 3) rfl)
      (pss_one (ps_fld (pv 0) (pv 4) rfl))))), ?_⟩
    refine ⟨_, rfl, _, rfl, p, C, dx, _, rfl, hp, T.insH.cl, T.nL, by show 0 < 1000; decide, ?_⟩
    refine ⟨_, rfl, _, rfl, p, C, dx, _, rfl, upd_same, T.insH.cl, T.nE, by show 1 < 1000; decide, ?_⟩
    refine ⟨_, rfl, _, rfl, p, C, dx, _, rfl, upd_same, T.insH.cl, T.nT, by show 2 < 1000; decide, ?_⟩
    refine ⟨_, rfl, _, rfl, p, C, dx, _, rfl, upd_same, T.insH.cl, T.nP, by show 3 < 1000; decide, ?_⟩
    rw [upd_upd, upd_upd, upd_upd]
    exact q
end
/-! ### running -/
theorem Gl_of {X : Cx} {x : Str} (h : Gl X x) : Gl X x := h
abbrev s_hRun : Stmt := inClass (topS 52) 1
abbrev N_hRun : List Str := ["self", "program"]
theorem sc_hRun : FnScope N_hRun ["self"] (defScope s_hRun) := ⟨rfl, rfl, rfl, by decide +kernel, rfl, by decide +kernel, by decide +kernel⟩
/-- the running programs, ascending -/
structure RunOf (W : Web) (zs : List Str) : Prop where
  nd : zs.Nodup
  so : sortedS zs = true
  m : ∀ z, z ∈ zs ↔ z ∈ W.line ∧ z ∉ W.ended
def spHRun (K : PySem.W.Frag) (C : Addr) : Sp := fun vs H Q _ => ∃ (p : Addr) (W : Web), vs = [.ref p] ∧ HeldAt K C H p W ∧ W.line.length < 64 ∧ ∀ (zs : List Str) (l : Addr) H', RunOf W zs → H l = none → Same H H' → H' l = some (.lst (zs.map V.str)) → Q (.ref l) H'
section
variable {P : Program} {w : World} {K : PySem.W.Frag} {mg : Str → Option Value} {base : Heap} {C : Addr}
theorem ok_hRun {f : Addr} {fd : FuncData} (F : Fun K "running" "Held.running" s_hRun f fd) (T : TxH K mg C) : FnOk P w K mg base CX0 1 f fd ["self"] (spHRun K C) := by
  refine F.ok sc_hRun (fun vs H Q E h => ?_) (fun cdv A outer s H vs Q E hr h => ?_)
  · obtain ⟨p, W, rfl, _⟩ := h
    rfl
  · obtain ⟨p, W, rfl, ⟨dx, ll, le, lt, lp, kt, kp, x⟩, h64, q⟩ := h
    refine ⟨_, (pss_one (ps_ret (pe_sorS rfl (by rfl) T.m_sorted (by rfl) T.m_set (pe_lc (own := [("program", 1)]) (g := gName 1) (tt := _) rfl sc_hRun.nd (pi_list (pe_fld (pv 0) rfl)) (blkOk_by (own := [("program", 1)]) (N := N_hRun) (sc := defScope s_hRun) (by decide +kernel)) (fun _ _ _ _ _ => pg_name (i := 1) sc_hRun.nd rfl (Or.inl rfl)) (fun _ _ _ _ _ => (pts_one (pt_cmpR (show OpR _ _ (rIn K true) from op_notIn_seq) (pv 1) (show PE _ _ (tFld K (tVar 0) "ended") from pe_fld (pv 0) rfl) rfl))) (fun _ _ _ _ _ => (pv 1)))))), ?_⟩
    refine ⟨_, rfl, p, C, dx, _, _, rfl, x.p, T.insH.cl, T.nL, heldF_l ll le lt lp, ll, rfl, ⟨_, .inl (.inl x.l)⟩, fun D nD => ?_⟩
    refine lc_list (K := K) (a := ll) (xs := W.line.map V.str) (fun i H1 => Same H H1 ∧ H1 D = some (.lst (((W.line.take i).filter fun z => !decide (z ∈ W.ended)).map V.str))) ⟨same_upd nD, upd_same⟩ (fun i H1 _ ⟨s1, _⟩ => .inl (.inl (s1 _ _ x.l))) ?_ ?_
    · rintro i v H1 hv ⟨s1, d1⟩
      obtain ⟨y, hy, rfl⟩ := strs_at hv
      have x1 := x.same s1
      refine ⟨rfl, _, rfl, _, rfl, p, C, dx, _, _, rfl, x1.p, T.insH.cl, T.nE, heldF_e ll le lt lp, le, _, rfl, .inl (.inl (.inl x1.e)), rfl, txt_flat W.ended, _, rfl, ?_⟩
      rw [if_pos rfl, inV_txt]
      refine iteB (fun h => ?_) (fun h => ?_)
      · refine ⟨_, rfl, _, d1, by rw [List.length_map]; exact sz8 (by have := filt_len (l := W.line) (c := fun z => !decide (z ∈ W.ended)) i; omega), same_mut s1 nD, ?_⟩
        rw [upd_same, filt_yes hy h, List.map_append]
        rfl
      · rw [filt_no hy h]
        exact ⟨s1, d1⟩
    rintro H1 ⟨s1, d1⟩
    rw [List.length_map, List.take_length] at d1
    refine ⟨D, _, rfl, .inl (.inl d1), by have := List.length_filter_le (fun z => !decide (z ∈ W.ended)) W.line; omega, fun zs l nd so mm nl => ?_⟩
    refine q zs l _ ⟨nd, so, fun z => ?_⟩ (none_of s1 nl) (s1.trans (same_upd nl)) upd_same
    rw [mm, List.mem_filter]
    simp
end
end Kx

namespace Kx
open PySem PySem.Spec PyProof.Rows L2 NdefX Kr Ke Kn Kz Ky Kg
/-! ### clashes -/
def clB (W : Web) : Stp → Str → Bool
  | .rd p t, z => !decide (z = p) && decide (tw W z t = some wWrite)
  | .cl p ts, z => !decide (z = p) && ts.any fun t => (tw W z t).isSome
  | _, _ => false
structure ClashOf (W : Web) (s : Stp) (c : List Str) : Prop where
  nd : c.Nodup
  so : sortedS c = true
  m : ∀ z, z ∈ c ↔ z ∈ W.line ∧ clB W s z = true
/-- the dict of a program's touches -/
theorem HeldIn.tch {K : PySem.W.Frag} {C p dx ll le lt lp : Addr} {H : Hp} {W : Web} {kt : List (Str × AT)} {kp : List AL} (x : HeldIn K C H p W dx ll le lt lp kt kp) (w : WebOk W) {z : Str} (hz : z ∈ W.line) :
    ∃ a : Addr, valV (kt.map (entA fun a : AT => V.ref a.1)) (.inr z) = some (.ref a) ∧ H a = some (.dK ((tof W z).map (entA V.str))) ∧ ∃ U, (z, U) ∈ W.tch ∧ tof W z = U := by
  have h1 := (w.tk z).mpr hz
  cases e : valA W.tch z with
  | none => exact absurd h1 (valA_none.mp e)
  | some U =>
    have e2 := e
    rw [← x.tw, valA_ktW] at e2
    obtain ⟨⟨a, U'⟩, e3, e4⟩ := Option.map_eq_some_iff.mp e2
    have e4 : U' = U := e4
    subst e4
    have tf : tof W z = U' := by unfold tof; rw [e]; rfl
    refine ⟨a, by rw [valA_map, e3]; rfl, ?_, U', valA_mem e, tf⟩
    rw [tf]
    exact x.t.u _ (valA_mem e3)
abbrev s_tany : Stmt := inClass (topS 52) 12
abbrev N_tany : List Str := ["self", "program", "things", "thing"]
theorem sc_tany : FnScope N_tany ["self", "program", "things"] (defScope s_tany) := ⟨rfl, rfl, rfl, by decide +kernel, rfl, by decide +kernel, by decide +kernel⟩
def spTAny (K : PySem.W.Frag) (C : Addr) : Sp := fun vs H Q _ => ∃ (p t : Addr) (z : Str) (ts : List Str) (W : Web), vs = [.ref p, .str z, .ref t] ∧ HeldAt K C H p W ∧ WebOk W ∧ z ∈ W.line ∧ SqT K H t (ts.map V.str) ∧ ts.length ≤ 100 ∧ ∀ H', Same H H' → Q (.bl (ts.any fun t => (tw W z t).isSome)) H'
abbrev s_clashes : Stmt := inClass (topS 52) 2
abbrev N_clashes : List Str := ["self", "step", "others", "program"]
theorem sc_clashes : FnScope N_clashes ["self", "step"] (defScope s_clashes) := ⟨rfl, rfl, rfl, by decide +kernel, rfl, by decide +kernel, by decide +kernel⟩
def spClash (K : PySem.W.Frag) (C : Addr) : Sp := fun vs H Q _ => ∃ (p a : Addr) (W : Web) (s : Stp), vs = [.ref p, .ref a] ∧ HeldAt K C H p W ∧ WebOk W ∧ W.line.length < 64 ∧ StAt K H a s.ps ∧ s.ts.length ≤ 100 ∧ ∀ (c : List Str) (l : Addr) H', ClashOf W s c → H l = none → Same H H' → H' l = some (.lst (c.map V.str)) → Q (.ref l) H'
section
variable {P : Program} {w : World} {K : PySem.W.Frag} {mg : Str → Option Value} {base : Heap} {C : Addr}
theorem ok_tany {f : Addr} {fd : FuncData} (F : Fun K "_touched_any" "Held._touched_any" s_tany f fd) (T : TxH K mg C) (m_any : mg "any" = none) : FnOk P w K mg base CX0 1 f fd ["self", "program", "things"] (spTAny K C) := by
  refine F.ok sc_tany (fun vs H Q E h => ?_) (fun cdv A outer s H vs Q E hr h => ?_)
  · obtain ⟨p, t, z, ts, W, rfl, _⟩ := h
    rfl
  · obtain ⟨p, t, z, ts, W, rfl, ⟨dx, ll, le, lt, lp, kt, kp, x⟩, wf, hz, ht, hl, q⟩ := h
    refine ⟨_, (pss_one (ps_ret (pe_callB (cr_any rfl) (by rfl) m_any (by decide +kernel) (pa_cons (pe_lc (own := [("thing", 3)]) (g := gName 3) (tt := tYes) rfl sc_tany.nd (pi_tup (pv 2)) (blkOk_by (own := [("thing", 3)]) (N := N_tany) (sc := defScope s_tany) (by decide +kernel)) (fun _ _ _ _ _ => pg_name (i := 3) sc_tany.nd rfl (Or.inl rfl)) (fun _ _ _ _ _ => pts_nil) (fun _ _ _ _ _ => (pe_cmp (pc_din (by exact hu_of hr) (pv 3) (pe_dget (by exact hu_of hr) (show PE _ _ (tFld K (tVar 0) "touches") from pe_fld (pv 0) rfl) (pv 1) (fun _ _ => rfl))) rfl))) pa_nil)))), ?_⟩
    refine ⟨_, rfl, t, rfl, ⟨_, ht⟩, fun D nD => ?_⟩
    obtain ⟨ad, va, ea, U, hU, eU⟩ := x.tch wf hz
    refine lc_tup (xs := ts.map V.str) (fun i H2 => Same H H2 ∧ H2 D = some (.lst (((ts.take i).map fun t => (tw W z t).isSome).map V.bl))) ⟨same_upd nD, upd_same⟩ (fun i H2 _ ⟨s2, _⟩ => Same.tupS s2 ht) ?_ ?_
    · rintro i y H2 hy ⟨s2, d2⟩
      obtain ⟨u, hu, rfl⟩ := strs_at hy
      have x2 := x.same s2
      refine ⟨rfl, _, rfl, _, rfl, p, C, dx, _, _, rfl, x2.p, T.insH.cl, T.nT, heldF_t ll le lt lp, _, rfl, lt, _, rfl, (by have := DGet.k (k := .inr z) x2.t.d; rwa [va] at this), ad, _, rfl, DGet.k (k := .inr u) (s2 _ _ ea), ?_⟩
      rw [valA_map, Option.isSome_map]
      refine ⟨_, d2, by rw [List.length_map, List.length_map, List.length_take]; exact sz8 (by omega), same_mut s2 nD, ?_⟩
      rw [upd_same, take_snoc hu, List.map_append, List.map_append]
      rfl
    · rintro H2 ⟨s2, d2⟩
      rw [List.length_map, List.take_length] at d2
      refine ⟨D, _, rfl, .inl (.inl d2), ?_⟩
      rw [List.any_map]
      exact q H2 s2
end
end Kx

namespace Kx
open PySem PySem.Spec PyProof.Rows L2 NdefX Kr Ke Kn Kz Ky Kg
theorem sAt {K : PySem.W.Frag} {H : Hp} {a : Addr} {s : Stp} (st : StAt K H a s.ps) : ∃ xs, SqT K H a xs ∧ xs[0]? = some (.str s.wd) ∧ xs[1]? = some (.str s.pr) := by
  obtain ⟨xs, hxs, pd⟩ := st
  obtain ⟨x0, hx0, e0⟩ := pd_at pd (Stp.ps0 s)
  cases (show x0 = V.str s.wd from e0)
  obtain ⟨x1, hx1, e1⟩ := pd_at pd (Stp.ps1 s)
  cases (show x1 = V.str s.pr from e1)
  exact ⟨xs, hxs, hx0, hx1⟩
theorem wd_ne : ¬ (wBegin = ("read" : Str)) ∧ ¬ (wBegin = ("close" : Str)) ∧ ¬ (wQuit = ("read" : Str)) ∧ ¬ (wQuit = ("close" : Str)) ∧ ¬ (wClose = ("read" : Str)) ∧ ¬ (wRead = ("begin" : Str)) ∧ ¬ (wClose = ("begin" : Str)) ∧ ¬ (wQuit = ("begin" : Str)) ∧ ¬ (wRead = ("close" : Str)) := by decide +kernel
theorem wd_eq : wBegin = ("begin" : Str) ∧ wQuit = ("quit" : Str) ∧ wRead = ("read" : Str) ∧ wClose = ("close" : Str) ∧ wWrite = ("write" : Str) := by decide +kernel
section
variable {P : Program} {w : World} {K : PySem.W.Frag} {mg : Str → Option Value} {base : Heap} {C : Addr}
theorem ok_clashes {f : Addr} {fd : FuncData} (F : Fun K "clashes" "Held.clashes" s_clashes f fd) (T : TxH K mg C) (Mt : MtC CX0 P w K mg base C "_touched_any" 1 (spTAny K C)) : FnOk P w K mg base CX0 2 f fd ["self", "step"] (spClash K C) := by
  refine F.ok sc_clashes (fun vs H Q E h => ?_) (fun cdv A outer s H vs Q E hr h => ?_)
  · obtain ⟨p, a, W, s, rfl, _⟩ := h
    rfl
  · obtain ⟨p, a, W, u, rfl, hh, wf, l64, st, ht, q⟩ := h
    obtain ⟨dx, ll, le, lt, lp, kt, kp, x⟩ := id hh
    obtain ⟨xs, hxs, hx0, hx1⟩ := sAt st
    refine ⟨_, (pss_cons (ps_set (i := 2) sc_clashes.nd rfl (Or.inl rfl) (pe_sorS rfl (by rfl) T.m_sorted (by rfl) T.m_set (pe_lc (own := [("program", 3)]) (g := gName 3) (tt := _) rfl sc_clashes.nd (pi_list (pe_fld (pv 0) rfl)) (blkOk_by (own := [("program", 3)]) (N := N_clashes) (sc := defScope s_clashes) (by decide +kernel)) (fun _ _ _ _ _ => pg_name (i := 3) sc_clashes.nd rfl (Or.inl rfl)) (fun _ _ _ _ _ => (pts_one (pt_cmpR op_ne (pv 3) (pe_ix (show IxR _ (rIxT K) from ix_tup) (pv 1) pe_int (fun _ _ => rfl)) (nomark _)))) (fun _ _ _ _ _ => (pv 3)))))
      (pss_cons (ps_if (pt_cmpR op_eq (pe_ix (show IxR _ (rIxT K) from ix_tup) (pv 1) pe_int (fun _ _ => rfl)) pe_str (nomark _))
        (pss_one (ps_ret (pe_lc (own := [("program", 3)]) (g := gName 3) (tt := _) rfl sc_clashes.nd (pi_list (pv 2)) (blkOk_by (own := [("program", 3)]) (N := N_clashes) (sc := defScope s_clashes) (by decide +kernel)) (fun _ _ _ _ _ => pg_name (i := 3) sc_clashes.nd rfl (Or.inl rfl)) (fun _ _ _ _ _ => (pts_one (pt_cmpR op_eq (pe_dget1 (by exact hu_of hr) (pe_dget (by exact hu_of hr) (show PE _ _ (tFld K (tVar 0) "touches") from pe_fld (pv 0) rfl) (pv 3) (fun _ _ => rfl)) (pe_ix (show IxR _ (rIxT K) from ix_tup) (pv 1) pe_int (fun _ _ => rfl)) ⟨by rfl, by rfl, by rfl, by rfl⟩) pe_str (nomark _)))) (fun _ _ _ _ _ => (pv 3)))))
        pss_nil)
      (pss_cons (ps_if (pt_cmpR op_eq (pe_ix (show IxR _ (rIxT K) from ix_tup) (pv 1) pe_int (fun _ _ => rfl)) pe_str (nomark _))
        (pss_one (ps_ret (pe_lc (own := [("program", 3)]) (g := gName 3) (tt := _) rfl sc_clashes.nd (pi_list (pv 2)) (blkOk_by (own := [("program", 3)]) (N := N_clashes) (sc := defScope s_clashes) (by decide +kernel)) (fun _ _ _ _ _ => pg_name (i := 3) sc_clashes.nd rfl (Or.inl rfl)) (fun _ _ _ _ _ => (pts_one (pt_val (pe_md Mt (pv 0) T.insH.cl (hr.mono (by decide)) pass0 (pa_cons (pv 3) (pa_cons (pe_ix (show IxR _ (rIxT K) from ix_tup) (pv 1) pe_int (fun _ _ => rfl)) pa_nil)))))) (fun _ _ _ _ _ => (pv 3)))))
        pss_nil)
      (pss_one (ps_ret (pe_lst pa_nil)))))), ?_⟩
    refine ⟨_, rfl, p, C, dx, _, _, rfl, x.p, T.insH.cl, T.nL, heldF_l ll le lt lp, ll, rfl, ⟨_, .inl (.inl x.l)⟩, fun D nD => ?_⟩
    refine lc_list (K := K) (a := ll) (xs := W.line.map V.str) (fun i H1 => Same H H1 ∧ H1 D = some (.lst (((W.line.take i).filter fun z => !decide (z = u.pr)).map V.str))) ⟨same_upd nD, upd_same⟩ (fun i H1 _ ⟨s1, _⟩ => .inl (.inl (s1 _ _ x.l))) ?_ ?_
    · rintro i v H1 hv ⟨s1, d1⟩
      obtain ⟨y, hy, rfl⟩ := strs_at hv
      refine ⟨rfl, _, rfl, _, rfl, a, xs, ((1 : Nat) : Int), _, rfl, rfl, Same.tupS s1 hxs, atI_nat hx1, rfl, _, rfl, ?_⟩
      rw [strV]
      refine iteB (fun h => ?_) (fun h => ?_)
      · refine ⟨_, rfl, _, d1, by rw [List.length_map]; exact sz8 (by have := filt_len (l := W.line) (c := fun z => !decide (z = u.pr)) i; omega), same_mut s1 nD, ?_⟩
        rw [upd_same, filt_yes hy h, List.map_append]
        rfl
      · rw [filt_no hy h]
        exact ⟨s1, d1⟩
    rintro H1 ⟨s1, d1⟩
    rw [List.length_map, List.take_length] at d1
    refine ⟨D, _, rfl, .inl (.inl d1), by have := List.length_filter_le (fun z => !decide (z = u.pr)) W.line; omega, fun zs l nd so mm nl => ?_⟩
    have s2 : Same H1 (upd H1 l (.lst (zs.map V.str))) := same_upd nl
    have e2 : (upd H1 l (.lst (zs.map V.str))) l = some (.lst (zs.map V.str)) := upd_same
    generalize upd H1 l (.lst (zs.map V.str)) = H2 at s2 e2 ⊢
    have s02 := s1.trans s2
    have hz : ∀ z, z ∈ zs ↔ z ∈ W.line ∧ z ≠ u.pr := fun z => by
      rw [mm, List.mem_filter]
      simp
    have zl : zs.length ≤ W.line.length := nd_len zs W.line nd fun z h => ((hz z).mp h).1
    have x2 := x.same s02
    refine ⟨_, rfl, a, xs, ((0 : Nat) : Int), _, rfl, rfl, Same.tupS s02 hxs, atI_nat hx0, rfl, _, rfl, ?_⟩
    rw [strV]
    have run : ∀ (c : Str → Bool) (D3 : Addr), H2 D3 = none → (∀ z ∈ W.line, z ≠ u.pr → c z = clB W u z) → ∀ H3, Same H2 H3 → H3 D3 = some (.lst ((zs.filter c).map V.str)) → Q (.ref D3) H3 := fun c D3 n3 hc H3 s3 d3 => by
      refine q (zs.filter c) D3 H3 ⟨nd.filter _, ?_, fun z => ?_⟩ (none_of s02 n3) (s02.trans s3) d3
      · exact sortedS_of_pairwise _ ((sorted_pw so).filter _)
      · rw [List.mem_filter, hz]
        have no : clB W u u.pr = false := by
          cases u <;> simp [clB, Stp.pr]
        constructor
        · rintro ⟨⟨h1, h2⟩, h3⟩
          exact ⟨h1, by rw [← hc z h1 h2]; exact h3⟩
        · rintro ⟨h1, h2⟩
          have ne : z ≠ u.pr := fun e => by rw [e, no] at h2; cases h2
          exact ⟨⟨h1, ne⟩, by rw [hc z h1 ne]; exact h2⟩
    cases u with
    | bg z0 =>
      refine iteB (fun h => absurd (of_decide_eq_true h) wd_ne.1) (fun h => ?_)
      refine ⟨_, rfl, a, xs, ((0 : Nat) : Int), _, rfl, rfl, Same.tupS s02 hxs, atI_nat hx0, rfl, _, rfl, ?_⟩
      rw [strV]
      refine iteB (fun h => absurd (of_decide_eq_true h) wd_ne.2.1) (fun h => ?_)
      refine ⟨by show 0 ≤ sizeLine; decide, fun D3 n3 => ?_⟩
      refine run (fun _ => false) D3 n3 (fun z _ _ => rfl) _ (same_upd n3) ?_
      rw [upd_same, List.filter_eq_nil_iff.mpr (fun _ _ => Bool.false_ne_true)]
      rfl
    | qt z0 =>
      refine iteB (fun h => absurd (of_decide_eq_true h) wd_ne.2.2.1) (fun h => ?_)
      refine ⟨_, rfl, a, xs, ((0 : Nat) : Int), _, rfl, rfl, Same.tupS s02 hxs, atI_nat hx0, rfl, _, rfl, ?_⟩
      rw [strV]
      refine iteB (fun h => absurd (of_decide_eq_true h) wd_ne.2.2.2.1) (fun h => ?_)
      refine ⟨by show 0 ≤ sizeLine; decide, fun D3 n3 => ?_⟩
      refine run (fun _ => false) D3 n3 (fun z _ _ => rfl) _ (same_upd n3) ?_
      rw [upd_same, List.filter_eq_nil_iff.mpr (fun _ _ => Bool.false_ne_true)]
      rfl
    | rd z0 t =>
      refine iteB (fun h => ?_) (fun h => absurd wd_eq.2.2.1 (of_decide_eq_false h))
      refine ⟨_, rfl, l, rfl, ⟨_, .inl (.inl e2)⟩, fun D3 n3 => ?_⟩
      refine lc_list (K := K) (a := l) (xs := zs.map V.str) (fun i H3 => Same H2 H3 ∧ H3 D3 = some (.lst (((zs.take i).filter fun z => decide (tw W z t = some wWrite)).map V.str))) ⟨same_upd n3, upd_same⟩ (fun i H3 _ ⟨s3, _⟩ => .inl (.inl (s3 _ _ e2))) ?_ ?_
      · rintro i v H3 hv ⟨s3, d3⟩
        obtain ⟨y, hy, rfl⟩ := strs_at hv
        have x3 := x2.same s3
        have yl := (hz y).mp (List.mem_of_getElem? hy)
        obtain ⟨ad, va, ea, U, hU, eU⟩ := x3.tch wf yl.1
        refine ⟨rfl, _, rfl, p, C, dx, _, _, rfl, x3.p, T.insH.cl, T.nT, heldF_t ll le lt lp, _, rfl, lt, _, rfl, (by have := DGet.k (k := .inr y) x3.t.d; rwa [va] at this), ad, rfl, .inl ⟨_, .inl ea⟩, _, rfl, a, _, ((2 : Nat) : Int), _, rfl, rfl, Same.tupS (s02.trans s3) (st_rd st), atI_nat rfl, _, DGet.k (k := .inr t) ea, (by rw [valA_map]; cases valA (tof W y) t <;> rfl), _, rfl, ?_⟩
        have hc : decide ((valV ((tof W y).map (entA V.str)) (.inr t)).getD V.non = V.str ("write" : Str)) = decide (tw W y t = some wWrite) := by
          rw [valA_map]
          show _ = decide (valA (tof W y) t = some wWrite)
          cases e : valA (tof W y) t with
          | none => rfl
          | some v =>
            show decide (V.str v = V.str ("write" : Str)) = decide (some v = some wWrite)
            rw [strV, ← wd_eq.2.2.2.2]
            by_cases c : v = wWrite
            · rw [decide_eq_true c, decide_eq_true (by rw [c])]
            · rw [decide_eq_false c, decide_eq_false (fun z => c (by injection z))]
        rw [hc]
        refine iteB (fun h => ?_) (fun h => ?_)
        · refine ⟨_, rfl, _, d3, by rw [List.length_map]; exact sz8 (by have := filt_len (l := zs) (c := fun z => decide (tw W z t = some wWrite)) i; omega), same_mut s3 n3, ?_⟩
          rw [upd_same, filt_yes hy h, List.map_append]
          rfl
        · rw [filt_no hy h]
          exact ⟨s3, d3⟩
      rintro H3 ⟨s3, d3⟩
      rw [List.length_map, List.take_length] at d3
      exact run _ D3 n3 (fun z _ ne => by rw [show clB W (.rd z0 t) z = (!decide (z = z0) && decide (tw W z t = some wWrite)) from rfl, decide_eq_false (show ¬ z = z0 from ne)]; rfl) H3 s3 d3
    | cl z0 ts =>
      refine iteB (fun h => absurd (of_decide_eq_true h) wd_ne.2.2.2.2.1) (fun h => ?_)
      refine ⟨_, rfl, a, xs, ((0 : Nat) : Int), _, rfl, rfl, Same.tupS s02 hxs, atI_nat hx0, rfl, _, rfl, ?_⟩
      rw [strV]
      refine iteB (fun h => ?_) (fun h => absurd wd_eq.2.2.2.1 (of_decide_eq_false h))
      obtain ⟨qa, hsq, hqa⟩ := st_cl st
      refine ⟨_, rfl, l, rfl, ⟨_, .inl (.inl e2)⟩, fun D3 n3 => ?_⟩
      refine lc_list (K := K) (a := l) (xs := zs.map V.str) (fun i H3 => Same H2 H3 ∧ H3 D3 = some (.lst (((zs.take i).filter fun z => ts.any fun t => (tw W z t).isSome).map V.str))) ⟨same_upd n3, upd_same⟩ (fun i H3 _ ⟨s3, _⟩ => .inl (.inl (s3 _ _ e2))) ?_ ?_
      · rintro i v H3 hv ⟨s3, d3⟩
        obtain ⟨y, hy, rfl⟩ := strs_at hv
        have yl := (hz y).mp (List.mem_of_getElem? hy)
        have s03 := s02.trans s3
        refine ⟨rfl, _, rfl, p, dx, _, rfl, s03 _ _ x.p, heldF_no (by decide +kernel) (by decide +kernel) (by decide +kernel) (by decide +kernel), _, rfl, _, rfl, a, _, ((2 : Nat) : Int), _, rfl, rfl, Same.tupS s03 hsq, atI_nat rfl, p, qa, y, ts, W, rfl, hh.same s03, wf, yl.1, Same.tupS s03 hqa, ht, fun H4 s4 => ?_⟩
        refine ⟨_, rfl, ?_⟩
        refine iteB (fun h => ?_) (fun h => ?_)
        · refine ⟨_, rfl, _, s4 _ _ d3, by rw [List.length_map]; exact sz8 (by have := filt_len (l := zs) (c := fun z => ts.any fun t => (tw W z t).isSome) i; omega), same_mut (s3.trans s4) n3, ?_⟩
          rw [upd_same, filt_yes hy h, List.map_append]
          rfl
        · rw [filt_no hy h]
          exact ⟨s3.trans s4, s4 _ _ d3⟩
      rintro H3 ⟨s3, d3⟩
      rw [List.length_map, List.take_length] at d3
      exact run _ D3 n3 (fun z _ ne => by rw [show clB W (.cl z0 ts) z = (!decide (z = z0) && ts.any fun t => (tw W z t).isSome) from rfl, decide_eq_false (show ¬ z = z0 from ne)]; rfl) H3 s3 d3
end
end Kx

namespace Kx
open PySem PySem.Spec PyProof.Rows L2 NdefX Kr Ke Kn Kz Ky Kg
/-! ### _drawn -/
theorem hu65k {k : Nat} {A : Around} (r : Room k A) : A.units + 65 < cLine := by have := r.un; omega
/-- the arcs with those that a step draws -/
def drP (W : Web) (s : Stp) (c : List Str) : List (List Str) := W.prs ++ (c.map fun o => [o, s.pr]).filter fun q => !decide (q ∈ W.prs)
def hurtW (W : Web) (s : Stp) : List Str := W.line.filter (clB W s)
theorem path_web {W : Web} (w : WebOk W) (l12 : W.line.length ≤ 20) {z : Str} (hz : nameB z = true) {goals path : List Str} (h : Sh (arcs W.prs) z goals path) : path.length ≤ 21 ∧ ∀ y ∈ path, nameB y = true := by
  obtain ⟨⟨g, _, k⟩, nd, _⟩ := h
  have hm := k.mem
  have inN : ∀ y ∈ path, y = z ∨ y ∈ W.line := fun y hy => by
    rcases hm y hy with h | ⟨u, hu⟩
    · exact .inl h
    · obtain ⟨q, hq, e⟩ := List.mem_map.mp hu
      obtain ⟨a, b, eq, ha, hb, _⟩ := w.pk q hq
      rw [eq] at e
      injection e with _ e
      exact .inr (by rw [← e]; exact hb)
  refine ⟨?_, fun y hy => (inN y hy).elim (fun e => e ▸ hz) (w.nm y)⟩
  have := nd_le nd (m := z :: W.line) fun y hy => (inN y hy).elim (fun e => e ▸ List.mem_cons_self) fun h => List.mem_cons_of_mem _ h
  rw [List.length_cons] at this
  omega
theorem WebOk.p400 {W : Web} (w : WebOk W) (l : W.line.length ≤ 20) : W.prs.length ≤ 380 := by
  have h1 := w.pl
  have h2 : W.line.length * (W.line.length - 1) ≤ 20 * 19 := Nat.mul_le_mul l (by omega)
  omega
theorem cl_len {W : Web} {s : Stp} {c : List Str} (h : ClashOf W s c) : c.length ≤ W.line.length := nd_len c W.line h.nd fun z hz => ((h.m z).mp hz).1
theorem WebOk.pq {W : Web} (w : WebOk W) {q : List Str} (hq : q ∈ W.prs) {y : Str} (hy : y ∈ q) : Sht y 8 := by
  obtain ⟨a, b, rfl, ha, hb, _⟩ := w.pk q hq
  rcases List.mem_cons.mp hy with rfl | hy
  · exact nameB_sht8 (w.nm _ ha)
  · rw [List.mem_singleton.mp hy]
    exact nameB_sht8 (w.nm _ hb)
abbrev s_drawn : Stmt := inClass (topS 52) 16
abbrev N_drawn : List Str := ["self", "step", "program", "clashes", "ring", "drawn", "other", "pair"]
theorem sc_drawn : FnScope N_drawn ["self", "step"] (defScope s_drawn) := ⟨rfl, rfl, rfl, by decide +kernel, rfl, by decide +kernel, by decide +kernel⟩
def refW (W : Web) (CF : Addr) (s : Stp) (a : Addr) (H : Hp) (E : XK) : Prop := ∀ (path : List Str) (d q : Addr) H', Sh (arcs W.prs) s.pr (hurtW W s) path → H d = none → H q = none → Same H H' → H' d = some (.xd [("ring", .ref q), ("step", .ref a)]) → H' q = some (.lst (path.map V.str)) → E (.ref CF) (some d) H'
def spDrawn (K : PySem.W.Frag) (C CF : Addr) : Sp := fun vs H Q E => ∃ (av : Addr → Prop) (p a : Addr) (W : Web) (s : Stp), vs = [.ref p, .ref a] ∧ HeldAv av K C H p W ∧ WebOk W ∧ W.line.length ≤ 20 ∧ StAt K H a s.ps ∧ smS s.ps ∧ s.ts.length ≤ 100 ∧ nameB s.pr = true ∧
  (NoW (arcs W.prs) s.pr (hurtW W s) → ∀ (c : List Str) (l : Addr) (kp : List AL) H', ClashOf W s c → H l = none → Same H H' → PrsAt K H' l kp → kp.map (·.2) = drP W s c → (∀ q ∈ kp, avN av H q.1) → Q (.ref l) H') ∧ refW W CF s a H E
section
variable {P : Program} {w : World} {K : PySem.W.Frag} {mg : Str → Option Value} {base : Heap} {C CF CR : Addr}
theorem ok_drawn {f : Addr} {fd : FuncData} (F : Fun K "_drawn" "Held._drawn" s_drawn f fd) (T : TxH K mg C) (Mc : MtC CX0 P w K mg base C "clashes" 2 (spClash K C)) (C_sp : Cal P w K mg base "shortest_path" 2 (spSP K)) (eF : ErC P w K mg base "Refused" CF ["self", "step", "ring"] (spErrD2 K CF "step" "ring"))
    (eR : MkE P w K mg base "Ring" CR 1 ["self", "programs"] (cD K) g_Ring) (bR : PySem.W.subIn K (.ref CR) (.type "BaseException") = some true) (m_list : mg "list" = none) : FnOk P w K mg base (L2.CX P w) 4 f fd ["self", "step"] (spDrawn K C CF) := by
  refine F.okX sc_drawn (fun vs H Q E h => ?_) (fun cdv A outer s H vs Q E hr h => ?_)
  · obtain ⟨av, p, a, W, s, rfl, _⟩ := h
    rfl
  · obtain ⟨av, p, a, W, u, rfl, hv, wf, l20, st, sm, ht, nz, qn, qe⟩ := h
    have hh := hv.at_
    obtain ⟨dx, ll, le, lt, lp, kt, kp, x, ax⟩ := id hv
    obtain ⟨fF, fdF, iF, tF, FF, bF⟩ := eF.ex
    obtain ⟨xs, hxs, hx0, hx1⟩ := sAt st
    refine ⟨_, (pss_cons (ps_set (i := 2) sc_drawn.nd rfl (Or.inr rfl) (pe_ix (show IxR _ (rIxT K) from ix_tup) (pv 1) pe_int (fun _ _ => rfl)))
      (pss_cons (ps_set (i := 3) sc_drawn.nd rfl (Or.inl rfl) (pe_md Mc (pv 0) T.insH.cl (hr.mono (by decide)) pass0 (pa_cons (pv 1) pa_nil)))
      (pss_cons (ps_set (i := 4) sc_drawn.nd rfl (Or.inl rfl) (pe_cal C_sp (hr.mono (by decide)) (by rfl) (pa_cons (pe_fld (pv 0) rfl) (pa_cons (pv 2) (pa_cons (pv 3) pa_nil)))))
      (pss_cons (ps_if (pt_cmpR op_notN (pv 4) pe_non (nomark _))
        (pss_one (Kf.ps_raiseFrom rfl (takes_of rfl rfl rfl rfl) (Kf.pmk_oexV (sp := spErrD2 K CF "step" "ring") eF.S.oex iF tF FF (hr.mono (by decide)) bF .nil pass0 (by rfl) eF.g (pa_cons (pv 1) (pa_cons (pv 4) pa_nil))) (pe_err eR (hr.mono (by decide)) (by rfl) (pa_cons (pe_callTy call_list_of (by rfl) m_list (by decide +kernel) (pa_cons (pv 4) pa_nil)) pa_nil))))
        pss_nil)
      (pss_cons (ps_setLc (i := 5) (own := [("other", 6)]) (g := gName 6) (tt := tYes) rfl sc_drawn.nd rfl rfl (sw_true rfl rfl rfl (by decide +kernel)) (pi_list (pv 3)) (blkOk_by (own := [("other", 6)]) (N := N_drawn) (sc := defScope s_drawn) (by decide +kernel)) (fun _ _ _ _ _ => pg_name (i := 6) sc_drawn.nd rfl (Or.inl rfl)) (fun _ _ _ _ _ => pts_nil) (fun _ _ _ _ _ => (pe_tup (pa_cons (pv 6) (pa_cons (pv 2) pa_nil)))))
      (pss_one (ps_ret (pe_op op_cat (pe_fld (pv 0) rfl) (pe_lc (own := [("pair", 7)]) (g := gName 7) (tt := _) rfl sc_drawn.nd (pi_list (pv 5)) (blkOk_by (own := [("pair", 7)]) (N := N_drawn) (sc := defScope s_drawn) (by decide +kernel)) (fun _ _ _ _ _ => pg_name (i := 7) sc_drawn.nd rfl (Or.inl rfl)) (fun _ _ _ _ _ => (pts_one (pt_cmpR (show OpR _ _ (rNotInD K) from op_notInD (by exact hu65k hr)) (pv 7) (show PE _ _ (tFld K (tVar 0) "pairs") from pe_fld (pv 0) rfl) rfl))) (fun _ _ _ _ _ => (pv 7))))))))))), ?_⟩
    refine ⟨_, rfl, a, xs, ((1 : Nat) : Int), _, rfl, rfl, hxs, atI_nat hx1, ?_⟩
    refine ⟨_, rfl, p, dx, _, rfl, x.p, heldF_no (by decide +kernel) (by decide +kernel) (by decide +kernel) (by decide +kernel), _, rfl, p, a, W, u, rfl, hh, wf, by omega, st, ht, fun c l H1 cl nl s1 e1 => ?_⟩
    have hgc : ∀ y, y ∈ c ↔ y ∈ hurtW W u := fun y => by rw [cl.m, hurtW, List.mem_filter]
    have x1 := x.same s1
    refine ⟨_, rfl, p, C, dx, _, _, rfl, x1.p, T.insH.cl, T.nP, heldF_p ll le lt lp, _, rfl, _, rfl, lp, l, u.pr, arcs W.prs, c, rfl, prs_at (.inl (.inl x1.r.l)) x1.rw_ x1.r.t, (by unfold arcs; rw [List.length_map]; have := wf.p400 l20; omega), .inl (.inl e1), fun pth path H2 s2 np ep sh => ?_, fun H2 s2 nw => ?_⟩
    · have sh' : Sh (arcs W.prs) u.pr (hurtW W u) path := Sh.sub (fun _ => Iff.rfl) hgc sh
      obtain ⟨pl, pn⟩ := path_web wf l20 nz sh'
      have s02 := s1.trans s2
      refine ⟨_, rfl, rfl, _, rfl, ?_⟩
      refine iteB (fun h => ?_) (fun h => ?_)
      · have dp : ∀ {H' : Hp} {l : Addr}, H' l = some (.lst (path.map V.str)) → ShD K H' (.ref l) := fun e => ShD.strs (.inl (.inl e)) (by omega) fun y hy => (nameB_sht8 (pn y hy)).le (by decide)
        refine ⟨_, rfl, _, rfl, by show 2 ≤ 1000; decide, fun xe nxe => ⟨xe, .ref a, .ref pth, rfl, (st.same (s02.trans (same_upd nxe))).sh sm, dp (same_upd nxe _ _ ep), upd_same, fun d nd ne => ⟨rfl, d, _, upd_same, (upd_ne ne).trans upd_same, ?_, ?_⟩⟩⟩
        · rw [upd_ne ne] at nd
          exact nd
        · rw [made_heap nxe ne]
          rw [upd_ne ne] at nd
          have s3 : Same H2 (upd H2 d (.xd [("ring", V.ref pth), ("step", V.ref a)])) := same_upd nd
          have e2' : (upd H2 d (.xd [("ring", V.ref pth), ("step", V.ref a)])) d = some (.xd [("ring", V.ref pth), ("step", V.ref a)]) := upd_same
          generalize upd H2 d (.xd [("ring", V.ref pth), ("step", V.ref a)]) = H3 at s3 e2' ⊢
          have ep2 := s3 _ _ ep
          refine ⟨_, rfl, pth, _, rfl, .inl (.inl (.inl ep2)), fun l' nl' => ?_⟩
          have s4 : Same H3 (upd H3 l' (.lst (path.map V.str))) := same_upd nl'
          have e3 : (upd H3 l' (.lst (path.map V.str))) l' = some (.lst (path.map V.str)) := upd_same
          generalize upd H3 l' (.lst (path.map V.str)) = H4 at s4 e3 ⊢
          refine ⟨by show 1 ≤ 1000; decide, fun H5 s5 => ⟨_, rfl, dp (s5 _ _ e3)⟩, fun b H5 s5 eb => ⟨b, CR, _, rfl, eb, bR, ?_⟩⟩
          have s45 := s4.trans s5
          exact qe path d pth H5 sh' (none_of s02 nd) (none_of s1 np) (s02.trans (s3.trans s45)) (s45 _ _ e2') (s45 _ _ ep2)
      · exact absurd (show V.ref pth = V.non from by simpa using h) (fun z => nomatch z)
    · have nw' : NoW (arcs W.prs) u.pr (hurtW W u) := NoW.sub (fun _ => Iff.rfl) hgc nw
      have qn := qn nw' c
      refine ⟨_, rfl, rfl, _, rfl, ?_⟩
      refine iteB (fun h => absurd h (by decide)) (fun h => ?_)
      have e2 := s2 _ _ e1
      have s02 := s1.trans s2
      refine ⟨_, rfl, l, rfl, ⟨_, .inl (.inl e2)⟩, fun D nD => ?_⟩
      refine lc_list (K := K) (a := l) (xs := c.map V.str) (fun i H6 => ∃ as, Same H2 H6 ∧ Nw H6 D as ∧ (∀ q ∈ as, H2 q.1 = none) ∧ as.map (·.2) = (c.take i).map fun n => [n, u.pr]) ⟨[], same_upd nD, Nw.nil, (fun _ h => nomatch h), rfl⟩ (fun i H6 _ ⟨_, s6, _⟩ => .inl (.inl (s6 _ _ e2))) ?_ ?_
      · rintro i v H6 hv ⟨as, s6, n6, nw6, m6⟩
        obtain ⟨y, hy, rfl⟩ := strs_at hv
        refine ⟨rfl, _, rfl, _, rfl, by show 2 ≤ sizeLine; decide, fun b nb => ?_⟩
        have n7 := n6.push (k := [y, u.pr]) nb
        have la : as.length ≤ 20 := by
          have h1 := congrArg List.length m6
          rw [List.length_map, List.length_map, List.length_take] at h1
          have h2 := cl_len cl
          omega
        refine ⟨_, (upd_ne (ne_of_none n6.l nb)).trans n6.l, by rw [List.length_map]; exact sz8 (by omega), as ++ [(b, [y, u.pr])], same_push (k := [y, u.pr]) s6 nD nb, n7, fun q hq => (List.mem_append.mp hq).elim (nw6 q) (fun h => by rw [List.mem_singleton.mp h]; exact none_of s6 nb), ?_⟩
        rw [List.map_append, m6, take_snoc hy, List.map_append]
        rfl
      rintro H6 ⟨as, s6, n6, nw6, m6⟩
      rw [List.length_map, List.take_length] at m6
      have s06 := s02.trans s6
      have x6 := x.same s06
      have la : as.length ≤ 20 := by
        have h1 := congrArg List.length m6
        rw [List.length_map, List.length_map] at h1
        have h2 := cl_len cl
        omega
      refine ⟨_, rfl, p, C, dx, _, _, rfl, x6.p, T.insH.cl, T.nP, heldF_p ll le lt lp, _, rfl, D, rfl, ⟨_, .inl (.inl n6.l)⟩, fun D2 nD2 => ?_⟩
      refine lc_list (K := K) (a := D) (xs := as.map fun q => V.ref q.1) (fun i H7 => Same H6 H7 ∧ H7 D2 = some (.lst (((as.take i).filter fun q => !decide (q.2 ∈ W.prs)).map fun q => V.ref q.1))) ⟨same_upd nD2, upd_same⟩ (fun i H7 _ ⟨s7, _⟩ => .inl (.inl (s7 _ _ n6.l))) ?_ ?_
      · rintro i v H7 hv ⟨s7, d7⟩
        rw [List.getElem?_map] at hv
        obtain ⟨q, hq, rfl⟩ := Option.map_eq_some_iff.mp hv
        have x7 := x6.same s7
        have qm : q ∈ as := List.mem_of_getElem? hq
        have n7 := n6.same s7
        have qs : ∀ y ∈ q.2, Sht y 8 := fun y hy => by
          have : q.2 ∈ c.map fun n => [n, u.pr] := m6 ▸ List.mem_map.mpr ⟨q, qm, rfl⟩
          obtain ⟨n, hn, e⟩ := List.mem_map.mp this
          rw [← e] at hy
          rcases List.mem_cons.mp hy with rfl | hy
          · exact nameB_sht8 (wf.nm _ ((cl.m _).mp hn).1)
          · rw [List.mem_singleton.mp hy]
            exact nameB_sht8 nz
        refine ⟨rfl, _, rfl, _, rfl, p, C, dx, _, _, rfl, x7.p, T.insH.cl, T.nP, heldF_p ll le lt lp, .tuple (tD q.2), tT W.prs, .tup (.inl (.inl (n7.t q qm))) (dp_txts q.2), ?_, shp_tup (n := 1000) (fun y hy => (qs y hy).le (by decide)), shp_tT (n := 1000) (fun g hg y hy => (wf.pq hg hy).le (by decide)), _, rfl, ?_⟩
        · rw [← x7.rw_]
          exact .lst (.inl (.inl x7.r.l)) (dp_tups fun q hq => (x7.r.t q hq).2)
        rw [any_tT]
        refine iteB (fun h => ?_) (fun h => ?_)
        · refine ⟨_, rfl, _, d7, by rw [List.length_map]; exact sz8 (by have := filt_len (l := as) (c := fun q => !decide (q.2 ∈ W.prs)) i; omega), same_mut s7 nD2, ?_⟩
          rw [upd_same, filt_yes (c := fun q => !decide (q.2 ∈ W.prs)) hq h, List.map_append]
          rfl
        · rw [filt_no (c := fun q => !decide (q.2 ∈ W.prs)) hq h]
          exact ⟨s7, d7⟩
      rintro H7 ⟨s7, d7⟩
      rw [List.length_map, List.take_length] at d7
      have x7 := x6.same s7
      have fl := List.length_filter_le (fun q : AL => !decide (q.2 ∈ W.prs)) as
      have kl : kp.length ≤ 380 := by
        have h1 := wf.p400 l20
        rw [← x.rw_, List.length_map] at h1
        exact h1
      refine ⟨lp, D2, _, _, rfl, rfl, x7.r.l, d7, sz9 (by rw [List.length_map, List.length_map]; exact Nat.le_trans (Nat.add_le_add kl (Nat.le_trans (List.length_filter_le _ _) la)) (by decide)), fun b nb => ?_⟩
      have s8 : Same H7 (upd H7 b (.lst ((kp.map fun u => V.ref u.1) ++ (as.filter fun q => !decide (q.2 ∈ W.prs)).map fun u => V.ref u.1))) := same_upd nb
      have e8 : (upd H7 b (.lst ((kp.map fun u => V.ref u.1) ++ (as.filter fun q => !decide (q.2 ∈ W.prs)).map fun u => V.ref u.1))) b = some (.lst ((kp ++ as.filter fun q => !decide (q.2 ∈ W.prs)).map fun u => V.ref u.1)) := by rw [upd_same, List.map_append]
      generalize upd H7 b (.lst ((kp.map fun u => V.ref u.1) ++ (as.filter fun q => !decide (q.2 ∈ W.prs)).map fun u => V.ref u.1)) = H8 at s8 e8 ⊢
      have s78 := s7.trans s8
      have n8 := n6.same s78
      refine qn b (kp ++ as.filter fun q => !decide (q.2 ∈ W.prs)) H8 cl (none_of (s06.trans s7) nb) (s06.trans s78) ⟨e8, fun q hq => ?_⟩ ?_ (fun q hq => (List.mem_append.mp hq).elim (fun h => .inl (ax.kp q h)) (fun h => .inr (none_of s02 (nw6 q (List.mem_filter.mp h).1))))
      · rcases List.mem_append.mp hq with h | h
        · exact (x7.same s8).r.t q h
        · have qm := (List.mem_filter.mp h).1
          refine ⟨?_, .inl (.inl (n8.t q qm))⟩
          have : q.2 ∈ c.map fun n => [n, u.pr] := m6 ▸ List.mem_map.mpr ⟨q, qm, rfl⟩
          obtain ⟨n, _, e⟩ := List.mem_map.mp this
          rw [← e]
          rfl
      · unfold drP
        rw [List.map_append, x.rw_, ← m6, List.filter_map]
        rfl
end
end Kx

namespace Kx
open PySem PySem.Spec PyProof.Rows L2 NdefX Kr Ke Kn Kz Ky Kg
/-! ### _after_begin, _after_read -/
def begW (W : Web) (z : Str) : Web := ⟨W.line ++ [z], W.ended, putA W.tch z [], W.prs⟩
def rdW (W : Web) (z t : Str) (P : List (List Str)) : Web := ⟨W.line, W.ended, putA W.tch z (putA (tof W z) t wRead), P⟩
def tcl (U : List (Str × Str)) (ts : List Str) : List (Str × Str) := ts.foldl (fun u t => putA u t wWrite) U
def clW (W : Web) (z : Str) (ts : List Str) (P : List (List Str)) : Web := ⟨(W.line.filter fun n => !decide (n = z)) ++ [z], W.ended ++ [z], putA W.tch z (tcl (tof W z) ts), P⟩
def lfW (W : Web) (gone : List Str) (P : List (List Str)) : Web := ⟨W.line.filter fun n => !decide (n ∈ gone), W.ended.filter fun n => !decide (n ∈ gone), (W.line.filter fun n => !decide (n ∈ gone)).map fun z => (z, tof W z), P⟩
theorem putA_in {β : Type} {l : List (Str × β)} {k : Str} {v : β} {e : Str × β} (h : e ∈ putA l k v) : e = (k, v) ∨ e ∈ l := by
  unfold putA at h
  split at h
  · obtain ⟨u, hu, rfl⟩ := List.mem_map.mp h
    by_cases c : u.1 = k
    · rw [if_pos c, c]
      exact .inl rfl
    · rw [if_neg c]
      exact .inr hu
  · rcases List.mem_append.mp h with h | h
    · exact .inr h
    · exact .inl (List.mem_singleton.mp h)
theorem TchAt.put {H H' : Hp} {lt D ad : Addr} {kt : List (Str × AT)} {z : Str} {U : List (Str × Str)} (x : TchAt H lt kt) (s : Same H H') (hD : H' D = some (.dK (putK (kt.map (entA fun a : AT => V.ref a.1)) (.inr z) (.ref ad)))) (ha : H' ad = some (.dK (U.map (entA V.str)))) : TchAt H' D (putA kt z (ad, U)) := by
  refine ⟨by rw [hD, putA_map], fun e he => ?_⟩
  rcases putA_in he with rfl | he
  · exact ha
  · exact s _ _ (x.u e he)
theorem ktlen {W : Web} (wf : WebOk W) {kt : List (Str × AT)} (h : ktW kt = W.tch) : kt.length = W.line.length := by
  have := congrArg List.length h
  unfold ktW at this
  rw [List.length_map] at this
  rw [this, wf.tl]
/-- {**self.touches, program: v} -/
theorem star_tch {K : PySem.W.Frag} {mg : Str → Option Value} {C p dx ll le lt lp : Addr} {H : Hp} {W : Web} {kt : List (Str × AT)} {kp : List AL} (x : HeldIn K C H p W dx ll le lt lp kt kp) (T : TxH K mg C) (wl : kt.length ≤ 100) {σ : L2.St} {i : Nat} {z : Str} {tv : TE} {Q : VK} {G : Addr → List (Str × Str) → Prop} (h0 : σ[0]? = some (some (.ref p))) (hi : σ[i]? = some (some (.str z)))
    (hv : ∀ H' Q', Same H H' → (∀ (ad : Addr) (U : List (Str × Str)) H3, Same H' H3 → H3 ad = some (.dK (U.map (entA V.str))) → (∀ b, H' b ≠ none → H b = none → ad ≠ b) → G ad U → Q' (.ref ad) H3) → tv σ H' Q')
    (q : ∀ D H4 ad U, G ad U → H D = none → Same H H4 → TchAt H4 D (putA kt z (ad, U)) → Q (.ref D) H4) : Kd.tStar (tFld K (tVar 0) "touches") (tVar i) tv σ H Q := by
  intro D nD
  have s1 : Same H (upd H D (.dK [])) := same_upd nD
  have x1 := x.same s1
  refine ⟨_, h0, p, C, dx, _, _, rfl, x1.p, T.insH.cl, T.nT, heldF_t ll le lt lp, lt, _, rfl, upd_same, ne_of_none x.t.d nD, .inl x1.t.d, by rw [List.length_map]; exact sz8 (by omega), fun S nS => ⟨_, hi, ?_⟩⟩
  have hDS : D ≠ S := fun e => by rw [← e, upd_same] at nS; cases nS
  have s2 : Same H (upd (upd H D (.dK [])) D (.dK (kt.map (entA fun a : AT => V.ref a.1)))) := same_mut s1 nD
  have s3 : Same H (upd (upd (upd H D (.dK [])) D (.dK (kt.map (entA fun a : AT => V.ref a.1)))) S (.dK [])) := s2.trans (same_upd nS)
  have eD : (upd (upd (upd H D (.dK [])) D (.dK (kt.map (entA fun a : AT => V.ref a.1)))) S (.dK [])) D = some (.dK (kt.map (entA fun a : AT => V.ref a.1))) := by rw [upd_ne hDS, upd_same]
  have eS : (upd (upd (upd H D (.dK [])) D (.dK (kt.map (entA fun a : AT => V.ref a.1)))) S (.dK [])) S = some (.dK []) := upd_same
  have nS0 : H S = none := none_of s2 nS
  generalize (upd (upd (upd H D (.dK [])) D (.dK (kt.map (entA fun a : AT => V.ref a.1)))) S (.dK [])) = H' at s3 eD eS ⊢
  refine hv H' _ s3 fun ad U H3 s4 ea nb g => ?_
  refine ⟨.inr z, rfl, s4 _ _ eD, s4 _ _ eS, ?_⟩
  have aD : ad ≠ D := nb D (by rw [eD]; exact fun z => nomatch z) nD
  have aS : ad ≠ S := nb S (by rw [eS]; exact fun z => nomatch z) nS0
  have s5 := s3.trans s4
  have s6 : Same H (upd (upd H3 S (.dK [(.inr z, .ref ad)])) D (.dK (putK (kt.map (entA fun a : AT => V.ref a.1)) (.inr z) (.ref ad)))) := same_mut (same_mut s5 nS0) nD
  exact q D _ ad U g nD s6 (x.t.put s6 upd_same (by rw [upd_ne aD, upd_ne aS]; exact ea))
abbrev s_hbeg : Stmt := inClass (topS 52) 13
abbrev N_hbeg : List Str := ["self", "program"]
theorem sc_hbeg : FnScope N_hbeg ["self", "program"] (defScope s_hbeg) := ⟨rfl, rfl, rfl, by decide +kernel, rfl, by decide +kernel, by decide +kernel⟩
def spHBeg (K : PySem.W.Frag) (C CT : Addr) : Sp := fun vs H Q E => ∃ (av : Addr → Prop) (p : Addr) (z : Str) (W : Web), vs = [.ref p, .str z] ∧ HeldAv av K C H p W ∧ WebOk W ∧ W.line.length ≤ 20 ∧ nameB z = true ∧
  (z ∈ W.line → ∀ d H', H d = none → Same H H' → H' d = some (.xd [("program", .str z)]) → E (.ref CT) (some d) H') ∧
  (z ∉ W.line → ∀ x H', H x = none → Same H H' → HeldAv (avN av H) K C H' x (begW W z) → Q (.ref x) H')
abbrev s_hread : Stmt := inClass (topS 52) 14
abbrev N_hread : List Str := ["self", "step", "_", "program", "thing", "pairs", "touches"]
theorem sc_hread : FnScope N_hread ["self", "step"] (defScope s_hread) := ⟨rfl, rfl, rfl, by decide +kernel, rfl, by decide +kernel, by decide +kernel⟩
/-- the next web if no ring refuses, else refused -/
def outW (av : Addr → Prop) (K : PySem.W.Frag) (C CF : Addr) (W : Web) (s : Stp) (nx : List (List Str) → Web) (a : Addr) (H : Hp) (Q : VK) (E : XK) : Prop :=
  (NoW (arcs W.prs) s.pr (hurtW W s) → ∀ c x H', ClashOf W s c → H x = none → Same H H' → HeldAv (avN av H) K C H' x (nx (drP W s c)) → Q (.ref x) H') ∧ refW W CF s a H E
def spHRead (K : PySem.W.Frag) (C CF : Addr) : Sp := fun vs H Q E => ∃ (av : Addr → Prop) (p a : Addr) (z t : Str) (W : Web), vs = [.ref p, .ref a] ∧ HeldAv av K C H p W ∧ WebOk W ∧ W.line.length ≤ 20 ∧ StAt K H a (Stp.rd z t).ps ∧ smS (Stp.rd z t).ps ∧ z ∈ W.line ∧ (tof W z).length ≤ 1000 ∧ outW av K C CF W (.rd z t) (rdW W z t) a H Q E
section
variable {P : Program} {w : World} {K : PySem.W.Frag} {mg : Str → Option Value} {base : Heap} {C CF CT : Addr}
theorem ok_hbeg {f : Addr} {fd : FuncData} (F : Fun K "_after_begin" "Held._after_begin" s_hbeg f fd) (T : TxH K mg C) (hd : HdC P w K mg base C 1) (eT : ErC P w K mg base "Taken" CT ["self", "program"] (spErr1 CT "program" 100000)) : FnOk P w K mg base (L2.CX P w) 3 f fd ["self", "program"] (spHBeg K C CT) := by
  refine F.okX sc_hbeg (fun vs H Q E h => ?_) (fun cdv A outer s H vs Q E hr h => ?_)
  · obtain ⟨av, p, z, W, rfl, _⟩ := h
    rfl
  · obtain ⟨av, p, z, W, rfl, ⟨dx, ll, le, lt, lp, kt, kp, x, ax⟩, wf, l20, nz, qe, q⟩ := h
    obtain ⟨fT, fdT, iT, tT, FT, bT⟩ := eT.ex
    refine ⟨_, (pss_cons (ps_if (pt_cmpR (show OpR _ _ (rIn K false) from op_in_seq) (pv 1) (pe_fld (pv 0) rfl) rfl)
        (pss_one (ps_raise rfl (takes_of rfl rfl rfl rfl) (pmk_oex (sp := spErr1 CT "program" 100000) eT.S.oex iT tT FT (hr.mono (by decide)) bT .nil pass0 (by rfl) eT.g (pa_cons (pv 1) pa_nil))))
        pss_nil)
      (pss_one (ps_ret (pe_hd hd (hr.mono (by decide)) (by rfl) (pa_cons (pe_op op_cat (pe_fld (pv 0) rfl) (pe_lst (pa_cons (pv 1) pa_nil))) (pa_cons (pe_fld (pv 0) rfl) (pa_cons (Kd.pe_star (pe_fld (pv 0) rfl) (pv 1) pe_dnewK) (pa_cons (pe_fld (pv 0) rfl) pa_nil)))))))), ?_⟩
    refine ⟨_, rfl, _, rfl, p, C, dx, _, _, rfl, x.p, T.insH.cl, T.nL, heldF_l ll le lt lp, ll, _, rfl, .inl (.inl (.inl x.l)), rfl, txt_flat W.line, _, rfl, ?_⟩
    rw [if_neg Bool.false_ne_true, inV_txt]
    refine iteB (fun h1 => ?_) (fun h1 => ?_)
    · have hm : z ∈ W.line := of_decide_eq_true h1
      refine ⟨_, rfl, by show 1 ≤ 1000; decide, fun y ny => ⟨y, z, rfl, repr8 nz, upd_same, fun d nd ne => ⟨rfl, d, [("program", .str z)], upd_same, (upd_ne ne).trans upd_same, ?_, ?_⟩⟩⟩
      · rw [upd_ne ne] at nd
        exact nd
      · rw [made_heap ny ne]
        rw [upd_ne ne] at nd
        exact qe hm d _ nd (same_upd nd) upd_same
    · have hn : z ∉ W.line := of_decide_eq_false h1
      refine ⟨_, rfl, p, C, dx, _, _, rfl, x.p, T.insH.cl, T.nL, heldF_l ll le lt lp, _, rfl, by show 1 ≤ sizeLine; decide, fun b1 nb1 => ?_⟩
      have s1 : Same H (upd H b1 (.lst [V.str z])) := same_upd nb1
      have ee1 : (upd H b1 (.lst [V.str z])) b1 = some (.lst [V.str z]) := upd_same
      generalize upd H b1 (.lst [V.str z]) = H1 at s1 ee1 ⊢
      refine ⟨ll, b1, _, _, rfl, rfl, s1 _ _ x.l, ee1, sz9 (by rw [List.length_map]; show W.line.length + 1 ≤ 100000; omega), fun b2 nb2 => ?_⟩
      have s2 : Same H1 (upd H1 b2 (.lst (W.line.map V.str ++ [V.str z]))) := same_upd nb2
      have ee2 : (upd H1 b2 (.lst (W.line.map V.str ++ [V.str z]))) b2 = some (.lst ((W.line ++ [z]).map V.str)) := by rw [upd_same, List.map_append]; rfl
      generalize upd H1 b2 (.lst (W.line.map V.str ++ [V.str z])) = H2 at s2 ee2 ⊢
      have s02 := s1.trans s2
      have x2 := x.same s02
      refine ⟨_, rfl, p, C, dx, _, _, rfl, x2.p, T.insH.cl, T.nE, heldF_e ll le lt lp, ?_⟩
      refine star_tch (G := fun ad U => U = [] ∧ H ad = none) x2 T (by rw [ktlen wf x.tw]; omega) rfl rfl (fun H' Q' s3 k => ?_) (fun D H4 ad U g nD s4 tc => ?_)
      · intro ad nad
        exact k ad [] _ (same_upd nad) upd_same (fun b hb _ e => hb (e ▸ nad)) ⟨rfl, none_of (s02.trans s3) nad⟩
      · obtain ⟨rfl, na⟩ := g
        have s04 := s02.trans s4
        have x4 := x2.same s4
        refine ⟨_, rfl, p, C, dx, _, _, rfl, x4.p, T.insH.cl, T.nP, heldF_p ll le lt lp, b2, le, D, lp, rfl, fun y dy H5 ny s5 ey => ?_⟩
        exact q hn y H5 (none_of s04 ny) (s04.trans s5) ⟨dy, b2, le, D, lp, putA kt z (ad, []), kp, ⟨ey, (s4.trans s5) _ _ ee2, s5 _ _ x4.e, tc.same s5, by rw [putA_ktW, x.tw]; rfl, x4.r.same s5, x.rw_⟩, ⟨.inr (none_of s04 ny), .inr (none_of s1 nb2), .inl ax.e, .inr (none_of s02 nD), .inl ax.r, fun e he => (putA_in he).elim (fun h => by rw [h]; exact .inr na) (fun h => .inl (ax.kt e h)), fun q hq => .inl (ax.kp q hq)⟩⟩
theorem ok_hread {f : Addr} {fd : FuncData} (F : Fun K "_after_read" "Held._after_read" s_hread f fd) (T : TxH K mg C) (hd : HdC P w K mg base C 1) (Md : MtC (L2.CX P w) P w K mg base C "_drawn" 4 (spDrawn K C CF)) : FnOk P w K mg base (L2.CX P w) 5 f fd ["self", "step"] (spHRead K C CF) := by
  refine F.okX sc_hread (fun vs H Q E h => ?_) (fun cdv A outer s H vs Q E hr h => ?_)
  · obtain ⟨av, p, a, z, t, W, rfl, _⟩ := h
    rfl
  · obtain ⟨av, p, a, z, t, W, rfl, hv, wf, l20, st, sm, hz, hU, qn, qe⟩ := h
    obtain ⟨dx, ll, le, lt, lp, kt, kp, x, ax⟩ := id hv
    refine ⟨_, (pss_cons (ps_asg (pv 1) (pg_tup rfl (pgs_cons (pg_name (i := 2) sc_hread.nd rfl (Or.inl rfl)) (pgs_cons (pg_name (i := 3) sc_hread.nd rfl (Or.inl rfl)) (pgs_cons (pg_name (i := 4) sc_hread.nd rfl (Or.inl rfl)) pgs_nil)))))
      (pss_cons (ps_set (i := 5) sc_hread.nd rfl (Or.inl rfl) (pe_mdS Md (pv 0) T.insH.cl (hr.mono (by decide)) (fun σ => passAt (takes_of rfl rfl rfl rfl) σ) (pa_cons (pv 1) pa_nil)))
      (pss_cons (ps_set (i := 6) sc_hread.nd rfl (Or.inl rfl) (Kd.pe_star (pe_fld (pv 0) rfl) (pv 3) (Kd.pe_star (pe_dget (by exact hu_of hr) (show PE _ _ (tFld K (tVar 0) "touches") from pe_fld (pv 0) rfl) (pv 3) (fun _ _ => rfl)) (pv 4) pe_str)))
      (pss_one (ps_ret (pe_hd hd (hr.mono (by decide)) (by rfl) (pa_cons (pe_fld (pv 0) rfl) (pa_cons (pe_fld (pv 0) rfl) (pa_cons (pv 6) (pa_cons (pv 5) pa_nil)))))))))), ?_⟩
    have hxs := st_rd st
    refine ⟨_, rfl, a, _, rfl, hxs, rfl, _, _, rfl, _, _, rfl, _, _, rfl, rfl, ?_⟩
    refine ⟨_, rfl, p, dx, _, rfl, x.p, heldF_no (by decide +kernel) (by decide +kernel) (by decide +kernel) (by decide +kernel), _, rfl, av, p, a, W, .rd z t, rfl, hv, wf, l20, st, sm, by show 1 ≤ 100; decide, wf.nm z hz, fun nw c l kp' H1 cl nl s1 pa pe an => ?_, fun path d q H2 sh nd nq s2 ed eq => qe path d q H2 sh nd nq s2 ed eq⟩
    have x1 := x.same s1
    show tSeq _ _ _ [some (V.ref p), some (V.ref a), some (V.str wRead), some (V.str z), some (V.str t), some (V.ref l), none] H1
    unfold tSeq tAsg
    dsimp only
    refine star_tch (G := fun ad U => U = putA (tof W z) t wRead ∧ H ad = none) x1 T (by rw [ktlen wf x.tw]; omega) rfl rfl (fun H' Q' s3 k => ?_) (fun D H4 ad U g nD s4 tc => ?_)
    · intro D2 nD2
      have s5 : Same H' (upd H' D2 (.dK [])) := same_upd nD2
      obtain ⟨a0, va, ea, U, hU', eU⟩ := (x1.same s3).tch wf hz
      have x5 := x1.same (s3.trans s5)
      refine ⟨_, rfl, p, C, dx, _, _, rfl, x5.p, T.insH.cl, T.nT, heldF_t ll le lt lp, _, rfl, lt, _, rfl, (by have := DGet.k (k := .inr z) x5.t.d; rwa [va] at this), a0, _, rfl, upd_same, ne_of_none ea nD2, .inl (s5 _ _ ea), by rw [List.length_map]; exact sz8 (by omega), fun S nS => ?_⟩
      have hDS : D2 ≠ S := fun e => by rw [← e, upd_same] at nS; cases nS
      refine ⟨_, rfl, .inr t, rfl, by rw [upd_ne hDS, upd_same], upd_same, ?_⟩
      have s6 : Same H' (upd (upd H' D2 (.dK [])) D2 (.dK ((tof W z).map (entA V.str)))) := same_mut s5 nD2
      have nS0 := none_of s6 nS
      refine k D2 (putA (tof W z) t wRead) _ (same_mut (same_mut (s6.trans (same_upd nS)) nS0) nD2) ?_ (fun b hb _ e => hb (e ▸ nD2)) ⟨rfl, none_of (s1.trans s3) nD2⟩
      rw [upd_same, putA_map]
      rfl
    · obtain ⟨rfl, na⟩ := g
      have s04 := s1.trans s4
      have x4 := x1.same s4
      refine ⟨_, rfl, p, C, dx, _, _, rfl, x4.p, T.insH.cl, T.nL, heldF_l ll le lt lp, _, rfl, p, C, dx, _, _, rfl, x4.p, T.insH.cl, T.nE, heldF_e ll le lt lp, _, rfl, _, rfl, ll, le, D, l, rfl, fun y dy H5 ny s5 ey => ?_⟩
      have pa5 := pa.same (s4.trans s5)
      exact qn nw c y H5 cl (none_of s04 ny) (s04.trans s5) ⟨dy, ll, le, D, l, putA kt z (ad, _), kp', ⟨ey, s5 _ _ x4.l, s5 _ _ x4.e, tc.same s5, by rw [putA_ktW, x.tw]; rfl, pa5, pe⟩, ⟨.inr (none_of s04 ny), .inl ax.l, .inl ax.e, .inr (none_of s1 nD), .inr nl, fun e he => (putA_in he).elim (fun h => by rw [h]; exact .inr na) (fun h => .inl (ax.kt e h)), an⟩⟩
end
end Kx

namespace Kx
open PySem PySem.Spec PyProof.Rows L2 NdefX Kr Ke Kn Kz Ky Kg
/-! ### _left -/
theorem dc_listK {K : PySem.W.Frag} {a : Addr} {xs : List V} {g : TG} {tt : TT} {tk tv : TE} {vs : List Nat} {σ : L2.St} {H1 : Hp} {D : Addr} {Qd : Hp → Prop} (Pv : Nat → Hp → Prop) (h0 : Pv 0 (upd H1 D (.dK []))) (hl : ∀ i H, i ≤ xs.length → Pv i H → SqL K H a xs)
    (hs : ∀ i x H, xs[i]? = some x → Pv i H → g x (wipe σ vs) H fun σ2 H2 => wipe σ2 vs = wipe σ vs ∧ tt σ2 H2 fun b H3 =>
      if b = true then tk σ2 H3 fun y H4 => tv σ2 H4 fun z H5 => ∃ kvs k, y = kV k ∧ H5 D = some (.dK kvs) ∧ kvs.length < sizeLine ∧ Pv (i + 1) (upd H5 D (.dK (putK kvs k z))) else Pv (i + 1) H3) (hd : ∀ H, Pv xs.length H → Qd H) :
    ∃ W : Nat → Nat → Hp → Prop, (∃ m, W 0 m (upd H1 D (.dK []))) ∧ ∀ i m H, W i m H →
      ((Itl K a).stop i H ∧ Qd H) ∨ ((Itl K a).go i H ∧ ∃ Nx : Hp → Prop, (∀ H', Nx H' → ∃ m', m' < m ∧ W (i + 1) m' H') ∧ ∀ x H', (Itl K a).yld i H x H' → g x (wipe σ vs) H' fun σ2 H2 => wipe σ2 vs = wipe σ vs ∧ tt σ2 H2 fun b H3 =>
        if b = true then tk σ2 H3 fun y H4 => tv σ2 H4 fun z H5 => ∃ kvs k, y = kV k ∧ H5 D = some (.dK kvs) ∧ kvs.length < sizeLine ∧ Nx (upd H5 D (.dK (putK kvs k z))) else Nx H3) := by
  refine ⟨fun i m H => m = xs.length - i ∧ i ≤ xs.length ∧ Pv i H, ⟨xs.length, by simp, Nat.zero_le _, h0⟩, ?_⟩
  rintro i m H ⟨rfl, hi, p⟩
  have q := hl i H hi p
  by_cases hlt : i < xs.length
  · refine .inr ⟨⟨xs, xs[i], q, by simp [hlt]⟩, Pv (i + 1), fun H' p' => ⟨xs.length - (i + 1), by omega, rfl, hlt, p'⟩, fun x H' y => ?_⟩
    obtain ⟨e, y⟩ := y
    subst e
    exact hs i x _ (y xs q) p
  · have e : i = xs.length := by omega
    subst e
    exact .inl ⟨⟨xs, q, Nat.le_refl _⟩, hd H p⟩
theorem putA_new {β : Type} {l : List (Str × β)} {k : Str} (h : k ∉ l.map (·.1)) (v : β) : putA l k v = l ++ [(k, v)] := by
  unfold putA
  rw [if_neg]
  intro y
  obtain ⟨e, he, ek⟩ := List.any_eq_true.mp y
  exact h (List.mem_map.mpr ⟨e, he, of_decide_eq_true ek⟩)
abbrev s_hleft : Stmt := inClass (topS 52) 17
abbrev N_hleft : List Str := ["self", "gone", "pairs", "line", "ended", "program"]
theorem sc_hleft : FnScope N_hleft ["self", "gone", "pairs"] (defScope s_hleft) := ⟨rfl, rfl, rfl, by decide +kernel, rfl, by decide +kernel, by decide +kernel⟩
def spHLeft (K : PySem.W.Frag) (C : Addr) : Sp := fun vs H Q _ => ∃ (av : Addr → Prop) (p g l : Addr) (W : Web) (gone : List Str) (kl : List AL), vs = [.ref p, .ref g, .ref l] ∧ HeldAt K C H p W ∧ av l ∧ (∀ q ∈ kl, av q.1) ∧ WebOk W ∧ W.line.length ≤ 20 ∧ (∀ z ∈ W.line, (tof W z).length ≤ 1000) ∧ SqL K H g (gone.map V.str) ∧ PrsAt K H l kl ∧
  ∀ x H', H x = none → Same H H' → HeldAv (avN av H) K C H' x (lfW W gone (kl.map (·.2))) → Q (.ref x) H'
section
variable {P : Program} {w : World} {K : PySem.W.Frag} {mg : Str → Option Value} {base : Heap} {C CF CT : Addr}
theorem ok_hleft {f : Addr} {fd : FuncData} (F : Fun K "_left" "Held._left" s_hleft f fd) (T : TxH K mg C) (hd : HdC P w K mg base C 1) (m_dict : mg "dict" = none) : FnOk P w K mg base CX0 3 f fd ["self", "gone", "pairs"] (spHLeft K C) := by
  refine F.ok sc_hleft (fun vs H Q E h => ?_) (fun cdv A outer s H vs Q E hr h => ?_)
  · obtain ⟨av, p, g, l, W, gone, kl, rfl, _⟩ := h
    rfl
  · obtain ⟨av, p, g, l, W, gone, kl, rfl, ⟨dx, ll, le, lt, lp, kt, kp, x⟩, avl, avk, wf, l20, hu, hg, hk, q⟩ := h
    refine ⟨_, (pss_cons (ps_setLc (i := 3) (own := [("program", 5)]) (g := gName 5) (tt := _) rfl sc_hleft.nd rfl rfl (sw_true rfl rfl rfl (by decide +kernel)) (pi_list (pe_fld (pv 0) rfl)) (blkOk_by (own := [("program", 5)]) (N := N_hleft) (sc := defScope s_hleft) (by decide +kernel)) (fun _ _ _ _ _ => pg_name (i := 5) sc_hleft.nd rfl (Or.inl rfl)) (fun _ _ _ _ _ => (pts_one (pt_cmpR (show OpR _ _ (rIn K true) from op_notIn_seq) (pv 5) (pv 1) (by rfl)))) (fun _ _ _ _ _ => (pv 5)))
      (pss_cons (ps_setLc (i := 4) (own := [("program", 5)]) (g := gName 5) (tt := _) rfl sc_hleft.nd rfl rfl (sw_true rfl rfl rfl (by decide +kernel)) (pi_list (pe_fld (pv 0) rfl)) (blkOk_by (own := [("program", 5)]) (N := N_hleft) (sc := defScope s_hleft) (by decide +kernel)) (fun _ _ _ _ _ => pg_name (i := 5) sc_hleft.nd rfl (Or.inl rfl)) (fun _ _ _ _ _ => (pts_one (pt_cmpR (show OpR _ _ (rIn K true) from op_notIn_seq) (pv 5) (pv 1) (by rfl)))) (fun _ _ _ _ _ => (pv 5)))
      (pss_one (ps_ret (pe_hd hd (hr.mono (by decide)) (by rfl) (pa_cons (pv 3) (pa_cons (pv 4) (pa_cons (pe_dc (own := [("program", 5)]) (g := gName 5) (tt := tYes) rfl sc_hleft.nd (pi_list (pv 3)) (blkOk_by (own := [("program", 5)]) (N := N_hleft) (sc := defScope s_hleft) (by decide +kernel)) (fun _ _ _ _ _ => pg_name (i := 5) sc_hleft.nd rfl (Or.inl rfl)) (fun _ _ _ _ _ => pts_nil) (fun _ _ _ _ _ => (pv 5)) (fun _ _ _ _ _ => (pe_callTy Kd.call_dictK (by rfl) m_dict (by decide +kernel) (pa_cons (pe_dget (by exact hu_of hr) (show PE _ _ (tFld K (tVar 0) "touches") from pe_fld (pv 0) rfl) (pv 5) (fun _ _ => rfl)) pa_nil)))) (pa_cons (pv 2) pa_nil))))))))), ?_⟩
    refine ⟨_, rfl, p, C, dx, _, _, rfl, x.p, T.insH.cl, T.nL, heldF_l ll le lt lp, ll, rfl, ⟨_, .inl (.inl x.l)⟩, fun D nD => ?_⟩
    refine lc_list (K := K) (a := ll) (xs := W.line.map V.str) (fun i H1 => Same H H1 ∧ H1 D = some (.lst (((W.line.take i).filter fun z => !decide (z ∈ gone)).map V.str))) ⟨same_upd nD, upd_same⟩ (fun i H1 _ ⟨s1, _⟩ => .inl (.inl (s1 _ _ x.l))) ?_ ?_
    · rintro i v H1 hv ⟨s1, d1⟩
      obtain ⟨y, hy, rfl⟩ := strs_at hv
      refine ⟨rfl, _, rfl, _, rfl, g, _, rfl, .inl (s1.seq hg), rfl, txt_flat gone, _, rfl, ?_⟩
      rw [if_pos rfl, inV_txt]
      refine iteB (fun h => ?_) (fun h => ?_)
      · refine ⟨_, rfl, _, d1, by rw [List.length_map]; exact sz8 (by have := filt_len (l := W.line) (c := fun z => !decide (z ∈ gone)) i; omega), same_mut s1 nD, ?_⟩
        rw [upd_same, filt_yes hy h, List.map_append]
        rfl
      · rw [filt_no hy h]
        exact ⟨s1, d1⟩
    rintro H1 ⟨s1, d1⟩
    rw [List.length_map, List.take_length] at d1
    have x1 := x.same s1
    refine ⟨_, rfl, p, C, dx, _, _, rfl, x1.p, T.insH.cl, T.nE, heldF_e ll le lt lp, le, rfl, ⟨_, .inl (.inl x1.e)⟩, fun D2 nD2 => ?_⟩
    refine lc_list (K := K) (a := le) (xs := W.ended.map V.str) (fun i H2 => Same H1 H2 ∧ H2 D2 = some (.lst (((W.ended.take i).filter fun z => !decide (z ∈ gone)).map V.str))) ⟨same_upd nD2, upd_same⟩ (fun i H2 _ ⟨s2, _⟩ => .inl (.inl (s2 _ _ x1.e))) ?_ ?_
    · rintro i v H2 hv ⟨s2, d2⟩
      obtain ⟨y, hy, rfl⟩ := strs_at hv
      refine ⟨rfl, _, rfl, _, rfl, g, _, rfl, .inl ((s1.trans s2).seq hg), rfl, txt_flat gone, _, rfl, ?_⟩
      rw [if_pos rfl, inV_txt]
      have e20 : W.ended.length ≤ 20 := Nat.le_trans (nd_len W.ended W.line wf.en wf.el) l20
      refine iteB (fun h => ?_) (fun h => ?_)
      · refine ⟨_, rfl, _, d2, by rw [List.length_map]; exact sz8 (by have := filt_len (l := W.ended) (c := fun z => !decide (z ∈ gone)) i; omega), same_mut s2 nD2, ?_⟩
        rw [upd_same, filt_yes hy h, List.map_append]
        rfl
      · rw [filt_no hy h]
        exact ⟨s2, d2⟩
    rintro H2 ⟨s2, d2⟩
    rw [List.length_map, List.take_length] at d2
    have s02 := s1.trans s2
    have x2 := x.same s02
    have d12 := s2 _ _ d1
    have lsub : ∀ z ∈ W.line.filter fun z => !decide (z ∈ gone), z ∈ W.line := fun z hz => (List.mem_filter.mp hz).1
    have lnd : (W.line.filter fun z => !decide (z ∈ gone)).Nodup := wf.nd.filter _
    have ll20 : (W.line.filter fun z => !decide (z ∈ gone)).length ≤ 20 := Nat.le_trans (List.length_filter_le _ _) l20
    have fin : ∀ (kt' : List (Str × AT)) (D3 : Addr) H3 (x' dy : Addr) H4, Same H2 H3 → TchAt H3 D3 kt' → ktW kt' = (W.line.filter fun z => !decide (z ∈ gone)).map (fun z => (z, tof W z)) → H2 D3 = none → (∀ e ∈ kt', H2 e.2.1 = none) → H3 x' = none → Same H3 H4 → H4 x' = some (.ins C dy (heldF D D2 D3 l)) → Q (.ref x') H4 := fun kt' D3 H3 x' dy H4 s3 tc kw n3 nk nx s4 ex => by
      have s24 := s3.trans s4
      exact q x' H4 (none_of (s02.trans s3) nx) (s02.trans s24) ⟨dy, D, D2, D3, l, kt', kl, ⟨ex, s24 _ _ d12, s24 _ _ d2, tc.same s4, kw, hk.same (s02.trans s24), rfl⟩, ⟨.inr (none_of (s02.trans s3) nx), .inr nD, .inr (none_of s1 nD2), .inr (none_of s02 n3), .inl avl, fun e he => .inr (none_of s02 (nk e he)), fun q hq => .inl (avk q hq)⟩⟩
    generalize (W.line.filter fun z => !decide (z ∈ gone)) = L at d12 lsub lnd ll20 fin ⊢
    refine ⟨_, rfl, _, rfl, _, rfl, D, rfl, ⟨_, .inl (.inl d12)⟩, fun D3 nD3 => ?_⟩
    refine dc_listK (K := K) (a := D) (xs := L.map V.str) (fun i H3 => ∃ kt' : List (Str × AT), Same H2 H3 ∧ TchAt H3 D3 kt' ∧ (∀ e ∈ kt', e.2.1 ≠ D3 ∧ H2 e.2.1 = none) ∧ ktW kt' = (L.take i).map fun z => (z, tof W z)) ⟨[], same_upd nD3, ⟨upd_same, fun _ h => nomatch h⟩, (fun _ h => nomatch h), rfl⟩ (fun i H3 _ ⟨_, s3, _⟩ => .inl (.inl (s3 _ _ d12))) ?_ ?_
    · rintro i v H3 hv ⟨kt', s3, tc, ne, kw⟩
      obtain ⟨y, hy, rfl⟩ := strs_at hv
      have x3 := x2.same s3
      have yl := lsub y (List.mem_of_getElem? hy)
      obtain ⟨a0, va, ea, U, hU, eU⟩ := x3.tch wf yl
      refine ⟨rfl, _, rfl, _, rfl, p, C, dx, _, _, rfl, x3.p, T.insH.cl, T.nT, heldF_t ll le lt lp, _, rfl, lt, _, rfl, (by have := DGet.k (k := .inr y) x3.t.d; rwa [va] at this), a0, _, rfl, .inl ea, fun b nb => ?_⟩
      have bD : D3 ≠ b := ne_of_none tc.d nb
      have kn : y ∉ kt'.map (·.1) := fun hm => by
        have e1 : kt'.map (·.1) = L.take i := by
          have := congrArg (List.map (·.1)) kw
          unfold ktW at this
          rw [List.map_map, List.map_map] at this
          rw [show (fun e : Str × AT => e.1) = ((fun x : Str × List (Str × Str) => x.1) ∘ fun e : Str × AT => (e.1, e.2.2)) from rfl, this]
          exact List.map_id' _
        rw [e1] at hm
        obtain ⟨j, hj, ej⟩ := List.mem_iff_getElem.mp hm
        rw [List.length_take] at hj
        rw [List.getElem_take] at ej
        have hi := (List.getElem?_eq_some_iff.mp hy)
        obtain ⟨hi, ei⟩ := hi
        exact (List.pairwise_iff_getElem.mp lnd) j i (by omega) hi (by omega) (by rw [ej, ei])
      have kl20 : kt'.length ≤ 20 := by
        have := congrArg List.length kw
        unfold ktW at this
        rw [List.length_map, List.length_map, List.length_take] at this
        omega
      have nD0 : H2 D3 = none := nD3
      refine ⟨_, .inr y, rfl, (upd_ne bD).trans tc.d, by rw [List.length_map]; exact sz8 (by omega), putA kt' y (b, tof W y), same_mut (s3.trans (same_upd nb)) nD0, ⟨by rw [upd_same, putA_map], fun e he => ?_⟩, fun e he => ?_, ?_⟩
      · rcases putA_in he with rfl | he
        · show (upd _ D3 _) b = _
          rw [upd_ne (Ne.symm bD), upd_same]
        · rw [upd_ne (ne e he).1, upd_ne (ne_of_none (tc.u e he) nb)]
          exact tc.u e he
      · rcases putA_in he with rfl | he
        · exact ⟨Ne.symm bD, none_of s3 nb⟩
        · exact ne e he
      · rw [putA_new kn, take_snoc hy, List.map_append, ← kw]
        unfold ktW
        rw [List.map_append]
        rfl
    rintro H3 ⟨kt', s3, tc, ne, kw⟩
    rw [List.length_map, List.take_length] at kw
    refine ⟨_, rfl, D, D2, D3, l, rfl, fun x' dy H4 nx s4 ex => fin kt' D3 H3 x' dy H4 s3 tc kw nD3 (fun e he => (ne e he).2) nx s4 ex⟩
end
end Kx

namespace Kx
open PySem PySem.Spec PyProof.Rows L2 NdefX Kr Ke Kn Kz Ky Kg
/-! ### _after_close -/
theorem tcl_snoc (U : List (Str × Str)) (ts : List Str) (t : Str) : tcl U (ts ++ [t]) = putA (tcl U ts) t wWrite := by
  unfold tcl
  rw [List.foldl_append]
  rfl
theorem tcl_len (ts : List Str) : ∀ U : List (Str × Str), (tcl U ts).length ≤ U.length + ts.length := by
  induction ts with
  | nil => exact fun U => Nat.le_refl _
  | cons t r ih =>
    intro U
    have h1 := ih (putA U t wWrite)
    have h2 := putA_len U t wWrite
    show (tcl (putA U t wWrite) r).length ≤ U.length + (r.length + 1)
    omega
abbrev s_hclose : Stmt := inClass (topS 52) 15
abbrev N_hclose : List Str := ["self", "step", "_", "program", "things", "pairs", "touched", "thing", "line", "name"]
theorem sc_hclose : FnScope N_hclose ["self", "step"] (defScope s_hclose) := ⟨rfl, rfl, rfl, by decide +kernel, rfl, by decide +kernel, by decide +kernel⟩
def spHClose (K : PySem.W.Frag) (C CF : Addr) : Sp := fun vs H Q E => ∃ (av : Addr → Prop) (p a : Addr) (z : Str) (ts : List Str) (W : Web), vs = [.ref p, .ref a] ∧ HeldAv av K C H p W ∧ WebOk W ∧ W.line.length ≤ 20 ∧ StAt K H a (Stp.cl z ts).ps ∧ smS (Stp.cl z ts).ps ∧ ts.length ≤ 100 ∧ z ∈ W.line ∧ (tof W z).length ≤ 1000 ∧ outW av K C CF W (.cl z ts) (clW W z ts) a H Q E
section
variable {P : Program} {w : World} {K : PySem.W.Frag} {mg : Str → Option Value} {base : Heap} {C CF CT : Addr}
theorem ok_hclose {f : Addr} {fd : FuncData} (F : Fun K "_after_close" "Held._after_close" s_hclose f fd) (T : TxH K mg C) (hd : HdC P w K mg base C 1) (m_dict : mg "dict" = none) (Md : MtC (L2.CX P w) P w K mg base C "_drawn" 4 (spDrawn K C CF)) : FnOk P w K mg base (L2.CX P w) 5 f fd ["self", "step"] (spHClose K C CF) := by
  refine F.okX sc_hclose (fun vs H Q E h => ?_) (fun cdv A outer s H vs Q E hr h => ?_)
  · obtain ⟨av, p, a, z, ts, W, rfl, _⟩ := h
    rfl
  · obtain ⟨av, p, a, z, ts, W, rfl, hv, wf, l20, st, sm, l100, hz, hU, qn, qe⟩ := h
    obtain ⟨dx, ll, le, lt, lp, kt, kp, x, ax⟩ := id hv
    refine ⟨_, (pss_cons (ps_asg (pv 1) (pg_tup rfl (pgs_cons (pg_name (i := 2) sc_hclose.nd rfl (Or.inl rfl)) (pgs_cons (pg_name (i := 3) sc_hclose.nd rfl (Or.inr rfl)) (pgs_cons (pg_name (i := 4) sc_hclose.nd rfl (Or.inl rfl)) pgs_nil)))))
      (pss_cons (ps_set (i := 5) sc_hclose.nd rfl (Or.inl rfl) (pe_mdS Md (pv 0) T.insH.cl (hr.mono (by decide)) (fun σ => passAt (takes_of rfl rfl rfl rfl) σ) (pa_cons (pv 1) pa_nil)))
      (pss_cons (ps_set (i := 6) sc_hclose.nd rfl (Or.inl rfl) (pe_callTy Kd.call_dictK (by rfl) m_dict (by decide +kernel) (pa_cons (pe_dget (by exact hu_of hr) (show PE _ _ (tFld K (tVar 0) "touches") from pe_fld (pv 0) rfl) (pv 3) (fun _ _ => rfl)) pa_nil)))
      (pss_cons (ps_for (passes_of rfl) rfl (pi_tup (pv 4)) (pg_name (i := 7) sc_hclose.nd rfl (Or.inl rfl))
        (pss_one (ps_dput (hu_of hr) (pv 6) (pv 7) pe_str rfl)))
      (pss_cons (ps_set (i := 8) sc_hclose.nd rfl (Or.inl rfl) (pe_op op_cat (pe_lc (own := [("name", 9)]) (g := gName 9) (tt := _) rfl sc_hclose.nd (pi_list (pe_fld (pv 0) rfl)) (blkOk_by (own := [("name", 9)]) (N := N_hclose) (sc := defScope s_hclose) (by decide +kernel)) (fun _ _ _ _ _ => pg_name (i := 9) sc_hclose.nd rfl (Or.inl rfl)) (fun _ _ _ _ _ => (pts_one (pt_cmpR op_ne (pv 9) (pv 3) (nomark _)))) (fun _ _ _ _ _ => (pv 9))) (pe_lst (pa_cons (pv 3) pa_nil))))
      (pss_one (ps_ret (pe_hd hd (hr.mono (by decide)) (by rfl) (pa_cons (pv 8) (pa_cons (pe_op op_cat (pe_fld (pv 0) rfl) (pe_lst (pa_cons (pv 3) pa_nil))) (pa_cons (Kd.pe_star (pe_fld (pv 0) rfl) (pv 3) (pv 6)) (pa_cons (pv 5) pa_nil)))))))))))), ?_⟩
    obtain ⟨qa, hxs, hqa⟩ := st_cl st
    refine ⟨_, rfl, a, _, rfl, hxs, rfl, _, _, rfl, _, _, rfl, _, _, rfl, rfl, ?_⟩
    refine ⟨_, rfl, p, dx, _, rfl, x.p, heldF_no (by decide +kernel) (by decide +kernel) (by decide +kernel) (by decide +kernel), _, rfl, av, p, a, W, .cl z ts, rfl, hv, wf, l20, st, sm, l100, wf.nm z hz, fun nw c l kp' H1 cl nl s1 pa pe an => ?_, fun path d q H2 sh nd nq s2 ed eq => qe path d q H2 sh nd nq s2 ed eq⟩
    have x1 := x.same s1
    obtain ⟨a0, va, ea, U, hU', eU⟩ := x1.tch wf hz
    refine ⟨_, rfl, p, C, dx, _, _, rfl, x1.p, T.insH.cl, T.nT, heldF_t ll le lt lp, _, rfl, lt, _, rfl, (by have := DGet.k (k := .inr z) x1.t.d; rwa [va] at this), a0, _, rfl, .inl ea, fun D nD => ?_⟩
    refine ⟨_, rfl, qa, rfl, ⟨_, Same.tupS (s1.trans (same_upd nD)) hqa⟩, ?_⟩
    refine for_tup (xs := ts.map V.str) (fun i σ H2 => ∃ x7 : Option V, σ = [some (V.ref p), some (V.ref a), some (V.str wClose), some (V.str z), some (V.ref qa), some (V.ref l), some (V.ref D), x7, none, none] ∧ Same H1 H2 ∧ H2 D = some (.dK ((tcl (tof W z) (ts.take i)).map (entA V.str))))
      ⟨none, rfl, same_upd nD, upd_same⟩ (fun i σ H2 _ ⟨_, _, s2, _⟩ => Same.tupS (s1.trans s2) hqa) ?_ ?_
    · rintro i v σ H2 hv ⟨x7, rfl, s2, d2⟩
      obtain ⟨y, hy, rfl⟩ := strs_at hv
      refine ⟨_, rfl, _, rfl, D, _, rfl, DPut.k (k := .inr y) d2 ?_, _, rfl, same_mut s2 nD, ?_⟩
      · rw [List.length_map]
        have h1 := tcl_len (ts.take i) (tof W z)
        have h2 : (ts.take i).length ≤ ts.length := by rw [List.length_take]; omega
        exact sz8 (by omega)
      · rw [upd_same, take_snoc hy, tcl_snoc, putA_map]
        rfl
    rintro σ H2 ⟨x7, rfl, s2, d2⟩
    rw [List.length_map, List.take_length] at d2
    have x2 := x1.same s2
    have s02 := s1.trans s2
    refine ⟨_, rfl, p, C, dx, _, _, rfl, x2.p, T.insH.cl, T.nL, heldF_l ll le lt lp, ll, rfl, ⟨_, .inl (.inl x2.l)⟩, fun D2 nD2 => ?_⟩
    refine lc_list (K := K) (a := ll) (xs := W.line.map V.str) (fun i H3 => Same H2 H3 ∧ H3 D2 = some (.lst (((W.line.take i).filter fun n => !decide (n = z)).map V.str))) ⟨same_upd nD2, upd_same⟩ (fun i H3 _ ⟨s3, _⟩ => .inl (.inl (s3 _ _ x2.l))) ?_ ?_
    · rintro i v H3 hv ⟨s3, d3⟩
      obtain ⟨y, hy, rfl⟩ := strs_at hv
      refine ⟨rfl, _, rfl, _, rfl, rfl, _, rfl, ?_⟩
      rw [strV]
      refine iteB (fun h => ?_) (fun h => ?_)
      · refine ⟨_, rfl, _, d3, by rw [List.length_map]; exact sz8 (by have := filt_len (l := W.line) (c := fun n => !decide (n = z)) i; omega), same_mut s3 nD2, ?_⟩
        rw [upd_same, filt_yes hy h, List.map_append]
        rfl
      · rw [filt_no hy h]
        exact ⟨s3, d3⟩
    rintro H3 ⟨s3, d3⟩
    rw [List.length_map, List.take_length] at d3
    refine ⟨_, rfl, by show 1 ≤ sizeLine; decide, fun b1 nb1 => ?_⟩
    have s4 : Same H3 (upd H3 b1 (.lst [V.str z])) := same_upd nb1
    have e4 : (upd H3 b1 (.lst [V.str z])) b1 = some (.lst [V.str z]) := upd_same
    generalize upd H3 b1 (.lst [V.str z]) = H4 at s4 e4 ⊢
    refine ⟨D2, b1, _, _, rfl, rfl, s4 _ _ d3, e4, sz9 (by rw [List.length_map]; show (W.line.filter _).length + 1 ≤ 100000; exact Nat.le_trans (Nat.succ_le_succ (Nat.le_trans (List.length_filter_le _ _) l20)) (by decide)), fun b2 nb2 => ?_⟩
    have s5 : Same H4 (upd H4 b2 (.lst ((W.line.filter fun n => !decide (n = z)).map V.str ++ [V.str z]))) := same_upd nb2
    have e5 : (upd H4 b2 (.lst ((W.line.filter fun n => !decide (n = z)).map V.str ++ [V.str z]))) b2 = some (.lst (((W.line.filter fun n => !decide (n = z)) ++ [z]).map V.str)) := by rw [upd_same, List.map_append]; rfl
    generalize upd H4 b2 (.lst ((W.line.filter fun n => !decide (n = z)).map V.str ++ [V.str z])) = H5 at s5 e5 ⊢
    have s25 := s3.trans (s4.trans s5)
    have x5 := x2.same s25
    refine ⟨_, rfl, _, rfl, p, C, dx, _, _, rfl, x5.p, T.insH.cl, T.nE, heldF_e ll le lt lp, _, rfl, by show 1 ≤ sizeLine; decide, fun b3 nb3 => ?_⟩
    have s6 : Same H5 (upd H5 b3 (.lst [V.str z])) := same_upd nb3
    have e6 : (upd H5 b3 (.lst [V.str z])) b3 = some (.lst [V.str z]) := upd_same
    generalize upd H5 b3 (.lst [V.str z]) = H6 at s6 e6 ⊢
    have e20 : W.ended.length ≤ 20 := Nat.le_trans (nd_len W.ended W.line wf.en wf.el) l20
    refine ⟨le, b3, _, _, rfl, rfl, s6 _ _ x5.e, e6, sz9 (by rw [List.length_map]; show W.ended.length + 1 ≤ 100000; omega), fun b4 nb4 => ?_⟩
    have s7 : Same H6 (upd H6 b4 (.lst (W.ended.map V.str ++ [V.str z]))) := same_upd nb4
    have e7 : (upd H6 b4 (.lst (W.ended.map V.str ++ [V.str z]))) b4 = some (.lst ((W.ended ++ [z]).map V.str)) := by rw [upd_same, List.map_append]; rfl
    generalize upd H6 b4 (.lst (W.ended.map V.str ++ [V.str z])) = H7 at s7 e7 ⊢
    have s27 := s25.trans (s6.trans s7)
    have s57 := s6.trans s7
    have x7 := x2.same s27
    have d7 := s27 _ _ d2
    refine star_tch (G := fun ad U => U = tcl (tof W z) ts ∧ ad = D) x7 T (by rw [ktlen wf x.tw]; omega) rfl rfl (fun H' Q' s8 k => ?_) (fun D4 H9 ad U g nD4 s9 tc => ?_)
    · refine ⟨_, rfl, ?_⟩
      exact k D (tcl (tof W z) ts) H' (Same.refl H') (s8 _ _ d7) (fun b hb h0 e => by rw [← e, d7] at h0; cases h0) ⟨rfl, rfl⟩
    · obtain ⟨rfl, rfl⟩ := g
      have s79 := s57.trans s9
      have x9 := x7.same s9
      have s09 := s02.trans (s27.trans s9)
      refine ⟨_, rfl, b2, b4, D4, l, rfl, fun y dy H10 ny s10 ey => ?_⟩
      exact qn nw c y H10 cl (none_of s09 ny) (s09.trans s10) ⟨dy, b2, b4, D4, l, putA kt z (ad, _), kp', ⟨ey, (s79.trans s10) _ _ e5, (s9.trans s10) _ _ e7, tc.same s10, by rw [putA_ktW, x.tw]; rfl, pa.same (s2.trans (s27.trans (s9.trans s10))), pe⟩, ⟨.inr (none_of s09 ny), .inr (none_of (s02.trans (s3.trans s4)) nb2), .inr (none_of (s02.trans (s25.trans s6)) nb4), .inr (none_of (s02.trans s27) nD4), .inr nl, fun e he => (putA_in he).elim (fun h => by rw [h]; exact .inr (none_of s1 nD)) (fun h => .inl (ax.kt e h)), an⟩⟩
end
end Kx

namespace Kx
open PySem PySem.Spec PyProof.Rows L2 NdefX Kr Ke Kn Kz Ky Kg
/-! ### after -/
def aftW (W : Web) (s : Stp) (c : List Str) : Web :=
  match s with
  | .bg z => begW W z
  | .rd z t => rdW W z t (drP W (.rd z t) c)
  | .cl z ts => clW W z ts (drP W (.cl z ts) c)
  | .qt z => lfW W [z] (W.prs.filter fun q => !decide (z ∈ q))
abbrev s_hafter : Stmt := inClass (topS 52) 3
abbrev N_hafter : List Str := ["self", "step", "form", "program", "pair"]
theorem sc_hafter : FnScope N_hafter ["self", "step"] (defScope s_hafter) := ⟨rfl, rfl, rfl, by decide +kernel, rfl, by decide +kernel, by decide +kernel⟩
/-- the next web if no ring refuses, else refused -/
def outS (av : Addr → Prop) (K : PySem.W.Frag) (C CF : Addr) (W : Web) (s : Stp) (a : Addr) (H : Hp) (Q : VK) (E : XK) : Prop :=
  (NoW (arcs W.prs) s.pr (hurtW W s) → ∀ c x H', ClashOf W s c → H x = none → Same H H' → HeldAv (avN av H) K C H' x (aftW W s c) → Q (.ref x) H') ∧ refW W CF s a H E
def spHAfter (K : PySem.W.Frag) (C CS CT CN CF : Addr) : Sp := fun vs H Q E => ∃ (av : Addr → Prop) (p a : Addr) (ps : List Part) (W : Web), vs = [.ref p, .ref a] ∧ HeldAv av K C H p W ∧ WebOk W ∧ W.line.length ≤ 20 ∧ (∀ z ∈ W.line, (tof W z).length ≤ 1000) ∧ StAt K H a ps ∧ smS ps ∧
  (stepB ps = false → ∀ d H', H d = none → Same H H' → H' d = some (.xd [("step", .ref a)]) → E (.ref CS) (some d) H') ∧
  ∀ s : Stp, ps = s.ps → stepB ps = true →
    ((∃ z, s = .bg z ∧ z ∈ W.line) → ∀ d H', H d = none → Same H H' → H' d = some (.xd [("program", .str s.pr)]) → E (.ref CT) (some d) H') ∧
    (((∀ z, s ≠ .bg z) ∧ ¬ (s.pr ∈ W.line ∧ s.pr ∉ W.ended)) → ∀ d H', H d = none → Same H H' → H' d = some (.xd [("program", .str s.pr)]) → E (.ref CN) (some d) H') ∧
    (((∀ z, s ≠ .bg z) → s.pr ∈ W.line ∧ s.pr ∉ W.ended) → (∀ z, s = .bg z → z ∉ W.line) → s.ts.length ≤ 100 ∧ outS av K C CF W s a H Q E)
theorem clash_nil {W : Web} {s : Stp} (h : ∀ z, clB W s z = false) : ClashOf W s [] := ⟨List.nodup_nil, rfl, fun z => ⟨(fun y => nomatch y), (fun y => absurd y.2 (by rw [h z]; exact Bool.false_ne_true))⟩⟩
section
variable {P : Program} {w : World} {K : PySem.W.Frag} {mg : Str → Option Value} {base : Heap} {C CS CT CN CF : Addr}
theorem ok_hafter {f : Addr} {fd : FuncData} (F : Fun K "after" "Held.after" s_hafter f fd) (T : TxH K mg C) (C_vs : Cal P w K mg base "valid_step" 4 (spStp K stepB)) (eS : ErC P w K mg base "InvalidStep" CS ["self", "step"] (spErrD K CS "step")) (eN : ErC P w K mg base "NotRunning" CN ["self", "program"] (spErr1 CN "program" 100000))
    (Mb : MtC (L2.CX P w) P w K mg base C "_after_begin" 3 (spHBeg K C CT)) (Mr : MtC (L2.CX P w) P w K mg base C "_after_read" 5 (spHRead K C CF)) (Mc : MtC (L2.CX P w) P w K mg base C "_after_close" 5 (spHClose K C CF)) (Mq : MtC CX0 P w K mg base C "_left" 3 (spHLeft K C)) :
    FnOk P w K mg base (L2.CX P w) 6 f fd ["self", "step"] (spHAfter K C CS CT CN CF) := by
  refine F.okX sc_hafter (fun vs H Q E h => ?_) (fun cdv A outer s H vs Q E hr h => ?_)
  · obtain ⟨av, p, a, ps, W, rfl, _⟩ := h
    rfl
  · obtain ⟨av, p, a, ps, W, rfl, hv, wf, l20, hu, st, sm, qS, q⟩ := h
    have hh := hv.at_
    obtain ⟨dx, ll, le, lt, lp, kt, kp, x, ax⟩ := id hv
    obtain ⟨fS, fdS, iS, tS, FS, bS⟩ := eS.ex
    obtain ⟨fN, fdN, iN, tN, FN, bN⟩ := eN.ex
    refine ⟨_, (pss_cons (ps_if (pt_not (pt_val (pe_cal C_vs (hr.mono (by decide)) (by rfl) (pa_cons (pv 1) pa_nil))))
        (pss_one (ps_raise rfl (takes_of rfl rfl rfl rfl) (pmk_oex (sp := spErrD K CS "step") eS.S.oex iS tS FS (hr.mono (by decide)) bS .nil pass0 (by rfl) eS.g (pa_cons (pv 1) pa_nil))))
        pss_nil)
      (pss_cons (ps_asg (pe_tup (pa_cons (pe_ix (show IxR _ (rIxT K) from ix_tup) (pv 1) pe_int (fun _ _ => rfl)) (pa_cons (pe_ix (show IxR _ (rIxT K) from ix_tup) (pv 1) pe_int (fun _ _ => rfl)) pa_nil))) (pg_tup rfl (pgs_cons (pg_name (i := 2) sc_hafter.nd rfl (Or.inl rfl)) (pgs_cons (pg_name (i := 3) sc_hafter.nd rfl (Or.inr rfl)) pgs_nil))))
      (pss_cons (ps_if (pt_cmpR op_eq (pv 2) pe_str (nomark _))
        (pss_one (ps_ret (pe_mdS Mb (pv 0) T.insH.cl (hr.mono (by decide)) (fun σ => passAt (takes_of rfl rfl rfl rfl) σ) (pa_cons (pv 3) pa_nil))))
        pss_nil)
      (pss_cons (ps_if (PW.pt (pw_or (pt_cmpR (show OpR _ _ (rIn K true) from op_notIn_seq) (pv 3) (pe_fld (pv 0) rfl) rfl) (pw_or1 (pt_cmpR (show OpR _ _ (rIn K false) from op_in_seq) (pv 3) (pe_fld (pv 0) rfl) rfl))))
        (pss_one (ps_raise rfl (takes_of rfl rfl rfl rfl) (pmk_oex (sp := spErr1 CN "program" 100000) eN.S.oex iN tN FN (hr.mono (by decide)) bN .nil pass0 (by rfl) eN.g (pa_cons (pv 3) pa_nil))))
        pss_nil)
      (pss_cons (ps_if (pt_cmpR op_eq (pv 2) pe_str (nomark _))
        (pss_one (ps_ret (pe_mdS Mr (pv 0) T.insH.cl (hr.mono (by decide)) (fun σ => passAt (takes_of rfl rfl rfl rfl) σ) (pa_cons (pv 1) pa_nil))))
        pss_nil)
      (pss_cons (ps_if (pt_cmpR op_eq (pv 2) pe_str (nomark _))
        (pss_one (ps_ret (pe_mdS Mc (pv 0) T.insH.cl (hr.mono (by decide)) (fun σ => passAt (takes_of rfl rfl rfl rfl) σ) (pa_cons (pv 1) pa_nil))))
        pss_nil)
      (pss_one (ps_ret (pe_md Mq (pv 0) T.insH.cl (hr.mono (by decide)) pass0 (pa_cons (pe_lst (pa_cons (pv 3) pa_nil)) (pa_cons (pe_lc (own := [("pair", 4)]) (g := gName 4) (tt := _) rfl sc_hafter.nd (pi_list (pe_fld (pv 0) rfl)) (blkOk_by (own := [("pair", 4)]) (N := N_hafter) (sc := defScope s_hafter) (by decide +kernel)) (fun _ _ _ _ _ => pg_name (i := 4) sc_hafter.nd rfl (Or.inl rfl)) (fun _ _ _ _ _ => (pts_one (pt_cmpR (show OpR _ _ (rIn K true) from op_notIn_seq) (pv 3) (pv 4) (by rfl)))) (fun _ _ _ _ _ => (pv 4))) pa_nil))))))))))), ?_⟩
    refine ⟨_, rfl, a, ps, rfl, st, sm.okP, by have := sm.1; omega, fun H1 s1 => ⟨_, rfl, ?_⟩⟩
    refine iteB (fun h => ?_) (fun h => ?_)
    · have h' : stepB ps = false := by simpa using h
      refine ⟨_, rfl, by show 1 ≤ 1000; decide, fun y ny => ⟨y, .ref a, rfl, (st.same (s1.trans (same_upd ny))).sh sm, upd_same, fun d nd ne => ⟨rfl, d, _, upd_same, (upd_ne ne).trans upd_same, ?_, ?_⟩⟩⟩
      · rw [upd_ne ne] at nd
        exact nd
      · rw [made_heap ny ne]
        rw [upd_ne ne] at nd
        exact qS h' d _ (none_of s1 nd) (s1.trans (same_upd nd)) upd_same
    have h' : stepB ps = true := by simpa using h
    obtain ⟨s0, rfl, nz⟩ := stepB_is h'
    obtain ⟨qT, qN, qO⟩ := q s0 rfl h'
    obtain ⟨xs, hxs, hx0, hx1⟩ := sAt st
    have hxs1 := Same.tupS s1 hxs
    have x1 := x.same s1
    refine ⟨_, rfl, a, xs, ((0 : Nat) : Int), _, rfl, rfl, hxs1, atI_nat hx0, _, rfl, a, xs, ((1 : Nat) : Int), _, rfl, rfl, hxs1, atI_nat hx1, by show 2 ≤ sizeLine; decide, fun b nb => ?_⟩
    refine ⟨b, _, rfl, .inl (.inl upd_same), rfl, _, _, rfl, _, _, rfl, rfl, ?_⟩
    have s1 := s1.trans (same_upd (o := .tup [V.str s0.wd, V.str s0.pr]) nb)
    clear hxs1 x1
    generalize upd H1 b (.tup [V.str s0.wd, V.str s0.pr]) = H1 at s1 ⊢
    have x1 := x.same s1
    show tSeq _ _ _ [some (V.ref p), some (V.ref a), some (V.str s0.wd), some (V.str s0.pr), none] H1
    refine ⟨_, rfl, rfl, _, rfl, ?_⟩
    rw [strV]
    refine iteB (fun h => ?_) (fun h => ?_)
    · have hw : s0.wd = wBegin := of_decide_eq_true h
      obtain ⟨z, rfl⟩ : ∃ z, s0 = .bg z := by
        cases s0 with
        | bg z => exact ⟨z, rfl⟩
        | qt z => exact absurd (show wQuit = wBegin from hw) (by decide +kernel)
        | rd z t => exact absurd (show wRead = wBegin from hw) (by decide +kernel)
        | cl z ts => exact absurd (show wClose = wBegin from hw) (by decide +kernel)
      refine ⟨_, rfl, p, dx, _, rfl, x1.p, heldF_no (by decide +kernel) (by decide +kernel) (by decide +kernel) (by decide +kernel), _, rfl, av, p, z, W, rfl, hv.same s1, wf, l20, nz, fun hm d H' nd s' ed => qT ⟨z, rfl, hm⟩ d H' (none_of s1 nd) (s1.trans s') ed, fun hn y H' ny s' ma => ?_⟩
      obtain ⟨_, qo, _⟩ := qO (fun y => absurd rfl (y z)) (fun y hy => by injection hy with hy; subst hy; exact hn)
      refine qo (fun q' u _ hu => ?_) [] y H' (clash_nil fun _ => rfl) (none_of s1 ny) (s1.trans s') (ma.mono fun _ => avN.back s1)
      obtain ⟨_, hu⟩ := List.mem_filter.mp hu
      cases hu
    have nb : ∀ z, s0 ≠ .bg z := fun z e => by
      rw [e] at h
      exact of_decide_eq_false h rfl
    refine ⟨_, rfl, _, rfl, p, C, dx, _, _, rfl, x1.p, T.insH.cl, T.nL, heldF_l ll le lt lp, ll, _, rfl, .inl (.inl (.inl x1.l)), rfl, txt_flat W.line, _, rfl, ?_⟩
    rw [if_pos rfl, inV_txt]
    refine iteB (fun h1 => ?_) (fun h1 => ?_)
    · have hn : ¬ (s0.pr ∈ W.line ∧ s0.pr ∉ W.ended) := fun y => by
        have : s0.pr ∉ W.line := by simpa using h1
        exact this y.1
      refine iteB (fun _ => ?_) (fun h => absurd h (by decide))
      refine ⟨_, rfl, by show 1 ≤ 1000; decide, fun y ny => ⟨y, s0.pr, rfl, repr8 nz, upd_same, fun d nd ne => ⟨rfl, d, [("program", .str s0.pr)], upd_same, (upd_ne ne).trans upd_same, ?_, ?_⟩⟩⟩
      · rw [upd_ne ne] at nd
        exact nd
      · rw [made_heap ny ne]
        rw [upd_ne ne] at nd
        exact qN ⟨nb, hn⟩ d _ (none_of s1 nd) (s1.trans (same_upd nd)) upd_same
    have hl : s0.pr ∈ W.line := by simpa using h1
    refine ⟨_, rfl, _, rfl, p, C, dx, _, _, rfl, x1.p, T.insH.cl, T.nE, heldF_e ll le lt lp, le, _, rfl, .inl (.inl (.inl x1.e)), rfl, txt_flat W.ended, _, rfl, ?_⟩
    rw [if_neg Bool.false_ne_true, inV_txt]
    refine iteB (fun h2 => ?_) (fun h2 => ?_)
    · have hn : ¬ (s0.pr ∈ W.line ∧ s0.pr ∉ W.ended) := fun y => y.2 (of_decide_eq_true h2)
      refine ⟨_, rfl, by show 1 ≤ 1000; decide, fun y ny => ⟨y, s0.pr, rfl, repr8 nz, upd_same, fun d nd ne => ⟨rfl, d, [("program", .str s0.pr)], upd_same, (upd_ne ne).trans upd_same, ?_, ?_⟩⟩⟩
      · rw [upd_ne ne] at nd
        exact nd
      · rw [made_heap ny ne]
        rw [upd_ne ne] at nd
        exact qN ⟨nb, hn⟩ d _ (none_of s1 nd) (s1.trans (same_upd nd)) upd_same
    have he : s0.pr ∉ W.ended := of_decide_eq_false h2
    obtain ⟨h8, qo, qr⟩ := qO (fun _ => ⟨hl, he⟩) fun z e => absurd e (nb z)
    have qr1 : refW W CF s0 a H1 E := fun path d q H' sh nd nq s' ed eq => qr path d q H' sh (none_of s1 nd) (none_of s1 nq) (s1.trans s') ed eq
    have qo1 : NoW (arcs W.prs) s0.pr (hurtW W s0) → ∀ c y H', ClashOf W s0 c → H1 y = none → Same H1 H' → HeldAv (avN av H1) K C H' y (aftW W s0 c) → Q (.ref y) H' := fun nw c y H' cl ny s' ma => qo nw c y H' cl (none_of s1 ny) (s1.trans s') (ma.mono fun _ => avN.back s1)
    clear qo qr
    cases s0 with
    | bg z => exact absurd rfl (nb z)
    | rd z t =>
      refine ⟨_, rfl, rfl, _, rfl, ?_⟩
      rw [strV]
      refine iteB (fun h => ?_) (fun h => absurd (show decide (wRead = ("read" : Str)) = false from h) (by decide +kernel))
      exact ⟨_, rfl, p, dx, _, rfl, x1.p, heldF_no (by decide +kernel) (by decide +kernel) (by decide +kernel) (by decide +kernel), _, rfl, av, p, a, z, t, W, rfl, hv.same s1, wf, l20, st.same s1, sm, hl, hu z hl, qo1, qr1⟩
    | cl z ts =>
      refine ⟨_, rfl, rfl, _, rfl, ?_⟩
      rw [strV]
      refine iteB (fun h => absurd (show decide (wClose = ("read" : Str)) = true from h) (by decide +kernel)) (fun h => ?_)
      refine ⟨_, rfl, rfl, _, rfl, ?_⟩
      rw [strV]
      refine iteB (fun h => ?_) (fun h => absurd (show decide (wClose = ("close" : Str)) = false from h) (by decide +kernel))
      exact ⟨_, rfl, p, dx, _, rfl, x1.p, heldF_no (by decide +kernel) (by decide +kernel) (by decide +kernel) (by decide +kernel), _, rfl, av, p, a, z, ts, W, rfl, hv.same s1, wf, l20, st.same s1, sm, h8, hl, hu z hl, qo1, qr1⟩
    | qt z =>
      refine ⟨_, rfl, rfl, _, rfl, ?_⟩
      rw [strV]
      refine iteB (fun h => absurd (show decide (wQuit = ("read" : Str)) = true from h) (by decide +kernel)) (fun h => ?_)
      refine ⟨_, rfl, rfl, _, rfl, ?_⟩
      rw [strV]
      refine iteB (fun h => absurd (show decide (wQuit = ("close" : Str)) = true from h) (by decide +kernel)) (fun h => ?_)
      refine ⟨_, rfl, p, dx, _, rfl, x1.p, heldF_no (by decide +kernel) (by decide +kernel) (by decide +kernel) (by decide +kernel), _, rfl, by show 1 ≤ sizeLine; decide, fun b1 nb1 => ?_⟩
      have s2 : Same H1 (upd H1 b1 (.lst [V.str (Stp.qt z).pr])) := same_upd nb1
      have e2 : (upd H1 b1 (.lst [V.str (Stp.qt z).pr])) b1 = some (.lst ([z].map V.str)) := upd_same
      generalize upd H1 b1 (.lst [V.str (Stp.qt z).pr]) = H2 at s2 e2 ⊢
      have x2 := x1.same s2
      refine ⟨_, rfl, p, C, dx, _, _, rfl, x2.p, T.insH.cl, T.nP, heldF_p ll le lt lp, lp, rfl, ⟨_, .inl (.inl x2.r.l)⟩, fun D nD => ?_⟩
      refine lc_list (K := K) (a := lp) (xs := kp.map fun q => V.ref q.1) (fun i H3 => Same H2 H3 ∧ H3 D = some (.lst (((kp.take i).filter fun q => !decide (z ∈ q.2)).map fun q => V.ref q.1))) ⟨same_upd nD, upd_same⟩ (fun i H3 _ ⟨s3, _⟩ => .inl (.inl (s3 _ _ x2.r.l))) ?_ ?_
      · rintro i v H3 hv ⟨s3, d3⟩
        rw [List.getElem?_map] at hv
        obtain ⟨q', hq, rfl⟩ := Option.map_eq_some_iff.mp hv
        have x3 := x2.same s3
        have qm : q' ∈ kp := List.mem_of_getElem? hq
        refine ⟨rfl, _, rfl, _, rfl, q'.1, _, rfl, .inr (x3.r.t q' qm).2, rfl, txt_flat q'.2, _, rfl, ?_⟩
        rw [if_pos rfl, inV_txt]
        refine iteB (fun h => ?_) (fun h => ?_)
        · refine ⟨_, rfl, _, d3, by rw [List.length_map]; exact sz8 (by have := filt_len (l := kp) (c := fun q => !decide (z ∈ q.2)) i; have h1 := wf.p400 l20; rw [← x.rw_, List.length_map] at h1; omega), same_mut s3 nD, ?_⟩
          rw [upd_same, filt_yes (c := fun q => !decide (z ∈ q.2)) hq h, List.map_append]
          rfl
        · rw [filt_no (c := fun q => !decide (z ∈ q.2)) hq h]
          exact ⟨s3, d3⟩
      rintro H3 ⟨s3, d3⟩
      rw [List.length_map, List.take_length] at d3
      have s13 := s2.trans s3
      have x3 := x2.same s3
      refine ⟨avN av H1, p, b1, D, W, [z], kp.filter fun q => !decide (z ∈ q.2), rfl, hh.same (s1.trans s13), .inr (none_of s2 nD), fun q hq => .inl (ax.kp q (List.mem_filter.mp hq).1), wf, l20, hu, .inl (.inl (s3 _ _ e2)), ⟨d3, fun q hq => x3.r.t q (List.mem_filter.mp hq).1⟩, fun y H4 ny s4 ma => ?_⟩
      refine qo1 (fun q' u _ hu' => ?_) [] y H4 (clash_nil fun _ => rfl) (none_of s13 ny) (s13.trans s4) ?_
      · obtain ⟨_, hu'⟩ := List.mem_filter.mp hu'
        cases hu'
      · have e : (kp.filter fun q => !decide (z ∈ q.2)).map (·.2) = W.prs.filter fun q => !decide (z ∈ q) := by
          rw [← x.rw_, List.filter_map]
          rfl
        rw [e] at ma
        exact ma.mono fun b h => h.elim id fun h => .inr (none_of s13 h)
end
end Kx

namespace Kx
open PySem PySem.Spec PyProof.Rows L2 NdefX Kr Ke Kn Kz Ky Kg
/-! ### webs stay webs -/
theorem tof_ok {W : Web} (w : WebOk W) (z : Str) : ((tof W z).map (·.1)).Nodup ∧ ∀ u ∈ tof W z, nameB u.1 = true ∧ (u.2 = wRead ∨ u.2 = wWrite) := by
  unfold tof
  cases e : valA W.tch z with
  | none => exact ⟨List.nodup_nil, fun _ h => nomatch h⟩
  | some U => exact ⟨w.uk _ (valA_mem e), w.uw _ (valA_mem e)⟩
theorem tcl_ok (ts : List Str) : ∀ {U : List (Str × Str)}, (U.map (·.1)).Nodup → (∀ u ∈ U, nameB u.1 = true ∧ (u.2 = wRead ∨ u.2 = wWrite)) → (∀ t ∈ ts, nameB t = true) → ((tcl U ts).map (·.1)).Nodup ∧ ∀ u ∈ tcl U ts, nameB u.1 = true ∧ (u.2 = wRead ∨ u.2 = wWrite) := by
  induction ts with
  | nil => exact fun h1 h2 _ => ⟨h1, h2⟩
  | cons t r ih =>
    intro U h1 h2 h3
    refine ih (U := putA U t wWrite) (putA_nd h1 t wWrite) (fun u hu => ?_) (fun y hy => h3 y (List.mem_cons_of_mem _ hy))
    rcases putA_in hu with rfl | hu
    · exact ⟨h3 _ List.mem_cons_self, .inr rfl⟩
    · exact h2 u hu
theorem nodup_map_inj {α β : Type} {f : α → β} (hf : ∀ a b, f a = f b → a = b) {l : List α} (h : l.Nodup) : (l.map f).Nodup := by
  induction l with
  | nil => exact List.nodup_nil
  | cons a r ih =>
    rw [List.nodup_cons] at h
    rw [List.map_cons, List.nodup_cons]
    refine ⟨fun hm => ?_, ih h.2⟩
    obtain ⟨b, hb, e⟩ := List.mem_map.mp hm
    exact h.1 (hf _ _ e ▸ hb)
theorem drP_ok {W : Web} (w : WebOk W) {s : Stp} {c : List Str} (cl : ClashOf W s c) (hz : s.pr ∈ W.line) : (drP W s c).Nodup ∧ ∀ q ∈ drP W s c, ∃ a b, q = [a, b] ∧ a ∈ W.line ∧ b ∈ W.line ∧ a ≠ b := by
  unfold drP
  refine ⟨List.nodup_append.mpr ⟨w.pn, (nodup_map_inj (fun a b h => by injection h) cl.nd).filter _, fun a ha b hb e => ?_⟩, fun q hq => ?_⟩
  · obtain ⟨_, h⟩ := List.mem_filter.mp hb
    have : b ∉ W.prs := by simpa using h
    exact this (e ▸ ha)
  · rcases List.mem_append.mp hq with h | h
    · exact w.pk q h
    · obtain ⟨h, _⟩ := List.mem_filter.mp h
      obtain ⟨o, ho, rfl⟩ := List.mem_map.mp h
      obtain ⟨h1, h2⟩ := (cl.m o).mp ho
      refine ⟨o, s.pr, rfl, h1, hz, fun e => ?_⟩
      have no : clB W s s.pr = false := by
        cases s <;> simp [clB, Stp.pr]
      rw [e, no] at h2
      cases h2
/-- a step that may be taken -/
structure StOk (W : Web) (s : Stp) : Prop where
  bg : ∀ z, s = .bg z → z ∉ W.line
  nm : nameB s.pr = true
  run : (∀ z, s ≠ .bg z) → s.pr ∈ W.line ∧ s.pr ∉ W.ended
  ts : ∀ t ∈ s.ts, nameB t = true
theorem aft_web {W : Web} (w : WebOk W) {s : Stp} {c : List Str} (o : StOk W s) (cl : ClashOf W s c) : WebOk (aftW W s c) := by
  cases s with
  | bg z =>
    have hn := o.bg z rfl
    refine ⟨List.nodup_append.mpr ⟨w.nd, List.pairwise_singleton _ _, fun a ha b hb e => hn (by rw [← List.mem_singleton.mp hb, ← e]; exact ha)⟩, fun y hy => ?_, w.en, fun y hy => List.mem_append_left _ (w.el y hy), fun y => ?_, putA_nd w.tn _ _, fun e he => ?_, fun e he => ?_, w.pn, fun q hq => ?_⟩
    · rcases List.mem_append.mp hy with h | h
      · exact w.nm y h
      · rw [List.mem_singleton.mp h]; exact o.nm
    · show y ∈ (putA W.tch z []).map (·.1) ↔ y ∈ W.line ++ [z]
      rw [putA_mem, w.tk, List.mem_append, List.mem_singleton]
    · rcases putA_in he with rfl | he
      · exact List.nodup_nil
      · exact w.uk e he
    · rcases putA_in he with rfl | he
      · exact fun _ h => nomatch h
      · exact w.uw e he
    · obtain ⟨a, b, e, ha, hb, ne⟩ := w.pk q hq
      exact ⟨a, b, e, List.mem_append_left _ ha, List.mem_append_left _ hb, ne⟩
  | rd z t =>
    obtain ⟨hl, he⟩ := o.run (fun _ h => nomatch h)
    obtain ⟨d1, d2⟩ := drP_ok w cl hl
    obtain ⟨t1, t2⟩ := tof_ok w z
    refine ⟨w.nd, w.nm, w.en, w.el, fun y => ?_, putA_nd w.tn _ _, fun e he => ?_, fun e he => ?_, d1, d2⟩
    · show y ∈ (putA W.tch z _).map (·.1) ↔ y ∈ W.line
      rw [putA_mem, w.tk]
      exact ⟨fun h => h.elim id fun e => e ▸ hl, .inl⟩
    · rcases putA_in he with rfl | he
      · exact putA_nd t1 t wRead
      · exact w.uk e he
    · rcases putA_in he with rfl | he
      · intro u hu
        rcases putA_in hu with rfl | hu
        · exact ⟨o.ts t List.mem_cons_self, .inl rfl⟩
        · exact t2 u hu
      · exact w.uw e he
  | cl z ts =>
    obtain ⟨hl, he⟩ := o.run (fun _ h => nomatch h)
    have hl : z ∈ W.line := hl
    have he : z ∉ W.ended := he
    obtain ⟨d1, d2⟩ := drP_ok w cl hl
    obtain ⟨t1, t2⟩ := tof_ok w z
    obtain ⟨u1, u2⟩ := tcl_ok ts t1 t2 o.ts
    have ml : ∀ y, y ∈ (W.line.filter fun n => !decide (n = z)) ++ [z] ↔ y ∈ W.line := fun y => by
      rw [List.mem_append, List.mem_filter, List.mem_singleton]
      by_cases e : y = z
      · simp [e, hl]
      · simp [e]
    refine ⟨List.nodup_append.mpr ⟨w.nd.filter _, List.pairwise_singleton _ _, fun a ha b hb e => ?_⟩, fun y hy => w.nm y ((ml y).mp hy), List.nodup_append.mpr ⟨w.en, List.pairwise_singleton _ _, fun a ha b hb e => he (by rw [← List.mem_singleton.mp hb, ← e]; exact ha)⟩, fun y hy => ?_, fun y => ?_, putA_nd w.tn _ _, fun e he => ?_, fun e he => ?_, d1, fun q hq => ?_⟩
    · have := (List.mem_filter.mp ha).2
      rw [e, List.mem_singleton.mp hb] at this
      simp at this
    · refine (ml y).mpr ?_
      rcases List.mem_append.mp hy with h | h
      · exact w.el y h
      · rw [List.mem_singleton.mp h]; exact hl
    · show y ∈ (putA W.tch z _).map (·.1) ↔ y ∈ (W.line.filter fun n => !decide (n = z)) ++ [z]
      rw [putA_mem, w.tk, ml]
      exact ⟨fun h => h.elim id fun e => e ▸ hl, .inl⟩
    · rcases putA_in he with rfl | he
      · exact u1
      · exact w.uk e he
    · rcases putA_in he with rfl | he
      · exact u2
      · exact w.uw e he
    · obtain ⟨a, b, e, ha, hb, ne⟩ := d2 q hq
      exact ⟨a, b, e, (ml a).mpr ha, (ml b).mpr hb, ne⟩
  | qt z =>
    have keys : ((W.line.filter fun n => !decide (n ∈ [z])).map fun y => (y, tof W y)).map (·.1) = W.line.filter fun n => !decide (n ∈ [z]) := by
      rw [List.map_map]
      exact List.map_id' _
    refine ⟨w.nd.filter _, fun y hy => w.nm y (List.mem_filter.mp hy).1, w.en.filter _, fun y hy => ?_, fun y => ?_, ?_, fun e he => ?_, fun e he => ?_, w.pn.filter _, fun q hq => ?_⟩
    · obtain ⟨h1, h2⟩ := List.mem_filter.mp hy
      exact List.mem_filter.mpr ⟨w.el y h1, h2⟩
    · show y ∈ ((W.line.filter fun n => !decide (n ∈ [z])).map fun y => (y, tof W y)).map (·.1) ↔ _
      rw [keys]
      exact Iff.rfl
    · show (((W.line.filter fun n => !decide (n ∈ [z])).map fun y => (y, tof W y)).map (·.1)).Nodup
      rw [keys]
      exact w.nd.filter _
    · obtain ⟨y, _, rfl⟩ := List.mem_map.mp he
      exact (tof_ok w y).1
    · obtain ⟨y, _, rfl⟩ := List.mem_map.mp he
      exact (tof_ok w y).2
    · obtain ⟨h1, h2⟩ := List.mem_filter.mp hq
      obtain ⟨a, b, rfl, ha, hb, ne⟩ := w.pk q h1
      have nz : z ∉ [a, b] := by simpa using h2
      refine ⟨a, b, rfl, List.mem_filter.mpr ⟨ha, ?_⟩, List.mem_filter.mpr ⟨hb, ?_⟩, ne⟩
      · have : ¬ a = z := fun e => nz (by rw [e]; exact List.mem_cons_self)
        simp [this]
      · have : ¬ b = z := fun e => nz (by rw [e]; simp)
        simp [this]
end Kx

namespace Kx
open PySem PySem.Spec PyProof.Rows L2 NdefX Kr Ke Kn Kz Ky Kg
/-! ### keepers -/
def kpF (h : Addr) (n : Int) : List (Str × V) := putF "_held" (.ref h) (putF "_limit" (.int n) [])
theorem kp_ne : ¬ (("_limit" : Str) = "_held") := by decide +kernel
theorem kpF_h (h : Addr) (n : Int) : (kpF h n).lookup ("_held" : Str) = some (.ref h) := by
  unfold kpF
  rw [lookup_putF, if_pos rfl]
theorem kpF_l (h : Addr) (n : Int) : (kpF h n).lookup ("_limit" : Str) = some (.int n) := by
  unfold kpF
  rw [lookup_putF, if_neg kp_ne, lookup_putF, if_pos rfl]
theorem kpF_no {h : Addr} {n : Int} {m : Str} (h1 : ¬ (m = "_held")) (h2 : ¬ (m = "_limit")) : (kpF h n).lookup m = none := by
  unfold kpF
  rw [lookup_putF, if_neg h1, lookup_putF, if_neg h2]
  rfl
theorem kpF_put (h h' : Addr) (n : Int) : putF "_held" (.ref h') (kpF h n) = kpF h' n := by
  unfold kpF
  rfl
structure KpIn (CK : Addr) (H : Hp) (k h : Addr) (n : Int) : Prop where
  ex : ∃ dx, H k = some (.ins CK dx (kpF h n))
def KpAv (av : Addr → Prop) (K : PySem.W.Frag) (CK C : Addr) (H : Hp) (k : Addr) (W : Web) (n : Int) : Prop := ∃ h, KpIn CK H k h n ∧ HeldAv av K C H h W
theorem KpAv.same {av : Addr → Prop} {K : PySem.W.Frag} {CK C k : Addr} {H H' : Hp} {W : Web} {n : Int} (x : KpAv av K CK C H k W n) (s : Same H H') : KpAv av K CK C H' k W n := let ⟨h, ⟨dx, e⟩, y⟩ := x; ⟨h, ⟨dx, s _ _ e⟩, y.same s⟩
theorem KpAv.mono {av av' : Addr → Prop} {K : PySem.W.Frag} {CK C k : Addr} {H : Hp} {W : Web} {n : Int} (x : KpAv av K CK C H k W n) (h : ∀ b, av b → av' b) : KpAv av' K CK C H k W n := let ⟨a, e, y⟩ := x; ⟨a, e, y.mono h⟩
structure TxKp (K : PySem.W.Frag) (mg : Str → Option Value) (CK : Addr) (mc : Value) : Prop extends TxS mg where
  insK : C8.InsC K CK
  nLi : NoAttr K CK "_limit"
  nHe : NoAttr K CK "_held"
  gK : mg "Keeper" = some (.ref CK)
  rd : ClX.CRead K CK mc
  mo : ∃ u, ClX.CVal K CK mc "MOST" (.int 12) u
abbrev s_cl : Stmt := topS 62
abbrev N_cl : List Str := ["value"]
theorem sc_cl : FnScope N_cl ["value"] (defScope s_cl) := ⟨rfl, rfl, rfl, by decide +kernel, rfl, by decide +kernel, by decide +kernel⟩
def spCL : Sp := fun vs H Q _ => ∃ n : Int, vs = [.int n] ∧ 0 ≤ n ∧ n ≤ 12 ∧ Q .non H
abbrev s_wi : Stmt := topS 63
abbrev N_wi : List Str := ["held", "limit", "excess", "free"]
theorem sc_wi : FnScope N_wi ["held", "limit"] (defScope s_wi) := ⟨rfl, rfl, rfl, by decide +kernel, rfl, by decide +kernel, by decide +kernel⟩
def spWi (K : PySem.W.Frag) (C : Addr) : Sp := fun vs H Q _ => ∃ (h : Addr) (n : Int) (W : Web), vs = [.ref h, .int n] ∧ HeldAt K C H h W ∧ W.ended.length ≤ 1000 ∧ (W.ended.length : Int) ≤ n ∧ n ≤ 12 ∧ Q (.ref h) H
section
variable {P : Program} {w : World} {K : PySem.W.Frag} {mg : Str → Option Value} {base : Heap} {C CK : Addr} {mc : Value}
theorem ok_cl {f : Addr} {fd : FuncData} (F : Fun K "_check_limit" "_check_limit" s_cl f fd) (T : TxKp K mg CK mc) : FnOk P w K mg base CX0 1 f fd ["value"] spCL := by
  refine F.ok sc_cl (fun vs H Q E h => ?_) (fun cdv A outer s H vs Q E hr h => ?_)
  · obtain ⟨n, rfl, _⟩ := h
    rfl
  · obtain ⟨n, rfl, h0, h12, q⟩ := h
    refine ⟨_, (pss_one (ps_if (pt_not (pt_chain op_le op_le pe_int (pv 0) (ClX.pe_cval (pe_glob (v := .ref CK) (by rfl) T.gK rfl))))
        (pss_one ps_never)
        pss_nil)), ?_⟩
    obtain ⟨u, mo⟩ := T.mo
    refine ⟨_, rfl, 0, n, rfl, rfl, _, rfl, ?_⟩
    refine iteB (fun _ => ?_) (fun h => absurd h0 (of_decide_eq_false h))
    refine ⟨CK, mc, _, u, rfl, T.rd, mo, n, 12, rfl, rfl, _, rfl, ?_⟩
    rw [decide_eq_true h12]
    exact iteF q
theorem ok_wi {f : Addr} {fd : FuncData} (F : Fun K "_within" "_within" s_wi f fd) (T : TxH K mg C) : FnOk P w K mg base CX0 1 f fd ["held", "limit"] (spWi K C) := by
  refine F.ok sc_wi (fun vs H Q E h => ?_) (fun cdv A outer s H vs Q E hr h => ?_)
  · obtain ⟨hh, n, W, rfl, _⟩ := h
    rfl
  · obtain ⟨hd, n, W, rfl, ⟨dx, ll, le, lt, lp, kt, kp, x⟩, l1, l2, l3, q⟩ := h
    refine ⟨_, (pss_cons (ps_set (i := 2) sc_wi.nd rfl (Or.inl rfl) (pe_op op_sub (pe_callB call_len_seq (by rfl) T.m_len (by decide +kernel) (pa_cons (pe_fld (pv 0) rfl) pa_nil)) (pv 1)))
      (pss_cons (ps_if (pt_cmpR op_le (pv 2) pe_int (nomark _))
        (pss_one (ps_ret (pv 0)))
        pss_nil) pss_never)), ?_⟩
    refine ⟨_, rfl, hd, C, dx, _, _, rfl, x.p, T.insH.cl, T.nE, heldF_e ll le lt lp, le, _, rfl, .inl (.inl (.inl x.e)), _, rfl, _, _, rfl, rfl, _, rfl, _, _, rfl, rfl, _, rfl, ?_⟩
    rw [List.length_map]
    refine iteB (fun _ => ?_) (fun h => absurd (by omega) (of_decide_eq_false h))
    exact ⟨_, rfl, q⟩
abbrev s_kpInit : Stmt := inClass (topS 61) 1
abbrev N_kpInit : List Str := ["self", "limit"]
theorem sc_kpInit : FnScope N_kpInit ["self", "limit"] (defScope s_kpInit) := ⟨rfl, rfl, rfl, by decide +kernel, rfl, by decide +kernel, by decide +kernel⟩
def spKpInit (K : PySem.W.Frag) (CK C : Addr) : Sp := fun vs H Q _ => ∃ (k dx : Addr) (n : Int), vs = [.ref k, .int n] ∧ 0 ≤ n ∧ n ≤ 12 ∧ H k = some (.ins CK dx []) ∧ ∀ H', Off k H H' → KpAv (fun b => H b = none) K CK C H' k ⟨[], [], [], []⟩ n → Q .non H'
theorem ok_kpInit {f : Addr} {fd : FuncData} (F : FunD K "__init__" "Keeper.__init__" (defArgs s_kpInit) (defBody s_kpInit) (defScope s_kpInit) [] [("limit", .int 12)] f fd) (T : TxKp K mg CK mc) (hd : HdC P w K mg base C 1) (C_cl : Cal P w K mg base "_check_limit" 1 spCL) : FnOk P w K mg base CX0 3 f fd ["self", "limit"] (spKpInit K CK C) := by
  refine F.ok sc_kpInit (fun vs H Q E h => ?_) (fun cdv A outer s H vs Q E hr h => ?_)
  · obtain ⟨k, dx, n, rfl, _⟩ := h
    rfl
  · obtain ⟨k, dx, n, rfl, h0, h12, hk, q⟩ := h
    refine ⟨_, (pss_cons (ps_expr (pe_cal C_cl (hr.mono (by decide)) (by rfl) (pa_cons (pv 1) pa_nil)))
      (pss_cons (ps_fld (pv 0) (pv 1) rfl)
      (pss_one (ps_fld (pv 0) (pe_hd hd (hr.mono (by decide)) (by rfl) (pa_cons (pe_lst pa_nil) (pa_cons (pe_lst pa_nil) (pa_cons pe_dnewK (pa_cons (pe_lst pa_nil) pa_nil))))) rfl)))), ?_⟩
    refine ⟨_, rfl, n, rfl, h0, h12, ?_⟩
    refine ⟨_, rfl, _, rfl, k, CK, dx, _, rfl, hk, T.insK.cl, T.nLi, by show 0 < 1000; decide, ?_⟩
    have f0 : ∀ {b}, (upd H k (.ins CK dx (putF "_limit" (.int n) []))) b = none → H b = none := fun {b} h => by
      by_cases e : b = k
      · rw [e, upd_same] at h; cases h
      · rwa [upd_ne e] at h
    have o0 : Off k H (upd H k (.ins CK dx (putF "_limit" (.int n) []))) := Off.put
    have e0 : (upd H k (.ins CK dx (putF "_limit" (.int n) []))) k = some (.ins CK dx (putF "_limit" (.int n) [])) := upd_same
    generalize upd H k (.ins CK dx (putF "_limit" (.int n) [])) = H0 at o0 e0 f0 ⊢
    refine ⟨by show 0 ≤ sizeLine; decide, fun a1 n1 => ?_⟩
    have s1 : Same H0 (upd H0 a1 (.lst [])) := same_upd n1
    have e1 : (upd H0 a1 (.lst [])) a1 = some (.lst []) := upd_same
    generalize upd H0 a1 (.lst []) = H1 at s1 e1 ⊢
    refine ⟨by show 0 ≤ sizeLine; decide, fun a2 n2 => ?_⟩
    have s2 : Same H1 (upd H1 a2 (.lst [])) := same_upd n2
    have e2 : (upd H1 a2 (.lst [])) a2 = some (.lst []) := upd_same
    generalize upd H1 a2 (.lst []) = H2 at s2 e2 ⊢
    intro a3 n3
    have s3 : Same H2 (upd H2 a3 (.dK [])) := same_upd n3
    have e3 : (upd H2 a3 (.dK [])) a3 = some (.dK []) := upd_same
    generalize upd H2 a3 (.dK []) = H3 at s3 e3 ⊢
    refine ⟨by show 0 ≤ sizeLine; decide, fun a4 n4 => ?_⟩
    have s4 : Same H3 (upd H3 a4 (.lst [])) := same_upd n4
    have e4 : (upd H3 a4 (.lst [])) a4 = some (.lst []) := upd_same
    generalize upd H3 a4 (.lst []) = H4 at s4 e4 ⊢
    refine ⟨a1, a2, a3, a4, rfl, fun x dy H5 nx s5 ex => ?_⟩
    have s34 := s4.trans s5
    have s05 : Same H0 H5 := s1.trans (s2.trans (s3.trans s34))
    have e5 := s05 _ _ e0
    refine ⟨_, rfl, k, CK, dx, _, rfl, e5, T.insK.cl, T.nHe, by show 1 < 1000; decide, ?_⟩
    have nk : ∀ {b o}, (H5 b = some o) → (∀ fs, o ≠ .ins CK dx fs) → b ≠ k := fun {b o} hb ne e => by
      rw [e, e5] at hb
      injection hb with hb
      exact ne _ hb.symm
    have xk : x ≠ k := fun e => by
      have : H4 x = none := nx
      rw [e, (s1.trans (s2.trans (s3.trans s4))) _ _ e0] at this
      cases this
    refine q _ (o0.trans ((Off.of s05).trans Off.put)) ⟨x, ⟨dx, upd_same⟩, dy, a1, a2, a3, a4, [], [], ⟨(upd_ne xk).trans ex, ?_, ?_, ⟨?_, fun _ h => nomatch h⟩, rfl, ⟨?_, fun _ h => nomatch h⟩, rfl⟩, ⟨f0 (none_of (s1.trans (s2.trans (s3.trans s4))) nx), f0 n1, f0 (none_of s1 n2), f0 (none_of (s1.trans s2) n3), f0 (none_of (s1.trans (s2.trans s3)) n4), (fun _ h => nomatch h), (fun _ h => nomatch h)⟩⟩
    · rw [upd_ne (nk ((s2.trans (s3.trans s34)) _ _ e1) fun _ z => nomatch z)]
      exact (s2.trans (s3.trans s34)) _ _ e1
    · rw [upd_ne (nk ((s3.trans s34) _ _ e2) fun _ z => nomatch z)]
      exact (s3.trans s34) _ _ e2
    · rw [upd_ne (nk (s34 _ _ e3) fun _ z => nomatch z)]
      exact s34 _ _ e3
    · rw [upd_ne (nk (s5 _ _ e4) fun _ z => nomatch z)]
      exact s5 _ _ e4
end
end Kx

namespace Kx
open PySem PySem.Spec PyProof.Rows L2 NdefX Kr Ke Kn Kz Ky Kg StX
/-! ### Keeper(), its call, arcs -/
structure KpC (P : Program) (w : World) (K : PySem.W.Frag) (mg : Str → Option Value) (base : Heap) (CK C : Addr) (k : Nat) : Prop where
  ex : ∃ (f : Addr) (fd : FuncData) (ds : List Value), Mk K CK f ∧ FnOk P w K mg base CX0 k f fd ["self", "limit"] (spKpInit K CK C) ∧ Vals [V.int 12] ds ∧ Binds K fd ["self", "limit"] ds
  g : mg "Keeper" = some (.ref CK)
def web0 : Web := ⟨[], [], [], []⟩
theorem web0_ok : WebOk web0 := ⟨List.nodup_nil, (fun _ h => nomatch h), List.nodup_nil, (fun _ h => nomatch h), (fun _ => Iff.rfl), List.nodup_nil, (fun _ h => nomatch h), (fun _ h => nomatch h), List.nodup_nil, (fun _ h => nomatch h)⟩
def tKp0 (K : PySem.W.Frag) (CK C : Addr) : TE := fun σ H Q => ∀ (x : Addr) H', H x = none → Same H H' → KpAv (fun b => H b = none) K CK C H' x web0 12 → Q (.ref x) H'
section
variable {X : Cx} {CK C : Addr} {k : Nat} {p pos : Pos}
theorem pe_kp0 (M : KpC X.prog X.w X.K X.mg X.base CK C k) (hr : Room (k + 1) X.A) (hg : Gl X "Keeper") : PE X (.Call (.Name "Keeper" p) [] [] pos) (tKp0 X.K CK C) := by
  obtain ⟨f, fd, ds, M1, F, hd, hb⟩ := M.ex
  refine ⟨fun pins s σ H Q I h => ?_⟩
  refine wpAny_Call_Name_kw (ld_glob I hg M.g ?_)
  refine PySem.W.callWith_K0 I.kIn M1.kp (run_make (us := []) M1 F hr hb hd pass0 I .nil fun x dx nx nd ne => ?_)
  refine ⟨x, dx, 12, rfl, by decide, by decide, upd_same, fun H' o kp => ⟨rfl, ?_⟩⟩
  refine h x H' nx (fun b u e => ?_) (kp.mono fun b hb => ?_)
  · have bx : b ≠ x := ne_of_none e nx
    exact o b u (by rw [upd_ne bx, upd_ne (ne_of_none e nd)]; exact e) bx
  · by_cases e1 : b = x
    · rw [e1, upd_same] at hb; cases hb
    · rw [upd_ne e1] at hb
      by_cases e2 : b = dx
      · rw [e2, upd_same] at hb; cases hb
      · rwa [upd_ne e2] at hb
end
theorem clash_uniq {W : Web} {s : Stp} {c c' : List Str} (h : ClashOf W s c) (h' : ClashOf W s c') : c = c' := sorted_same h.so h'.so h.nd h'.nd fun z => (h.m z).trans (h'.m z).symm
theorem aft_ended {W : Web} {s : Stp} {c : List Str} : (aftW W s c).ended.length ≤ W.ended.length + 1 := by
  cases s with
  | bg z => exact Nat.le_succ _
  | rd z t => exact Nat.le_succ _
  | cl z ts =>
    show (W.ended ++ [z]).length ≤ _
    rw [List.length_append]
    exact Nat.le_refl _
  | qt z => exact Nat.le_trans (List.length_filter_le _ _) (Nat.le_succ _)
theorem HeldAv.off {av : Addr → Prop} {K : PySem.W.Frag} {C CK k dk y hd : Addr} {H H' : Hp} {W : Web} {n : Int} (x : HeldAv av K C H y W) (o : Off k H H') (ek : H k = some (.ins CK dk (kpF hd n))) : HeldAv av K C H' y W := by
  obtain ⟨dx, ll, le, lt, lp, kt, kp, x, ax⟩ := x
  have nk : ∀ {b u}, H b = some u → (∀ C' dx' fs, u ≠ .ins C' dx' fs) → H' b = some u := fun {b u} hb ne => o b u hb fun e => by
    rw [e, ek] at hb
    injection hb with hb
    exact ne _ _ _ hb.symm
  refine ⟨dx, ll, le, lt, lp, kt, kp, ⟨o y _ x.p fun e => ?_, nk x.l (fun _ _ _ z => nomatch z), nk x.e (fun _ _ _ z => nomatch z), ⟨nk x.t.d (fun _ _ _ z => nomatch z), fun e he => nk (x.t.u e he) (fun _ _ _ z => nomatch z)⟩, x.tw, ⟨nk x.r.l (fun _ _ _ z => nomatch z), fun q hq => ⟨(x.r.t q hq).1, o.sqT ek (x.r.t q hq).2⟩⟩, x.rw_⟩, ax⟩
  have h1 := x.p
  rw [e, ek] at h1
  injection h1 with h1
  injection h1 with _ _ h1
  have h2 := kpF_h hd n
  rw [h1, heldF_no (by decide +kernel) (by decide +kernel) (by decide +kernel) (by decide +kernel)] at h2
  cases h2
abbrev s_kcall : Stmt := inClass (topS 61) 4
abbrev N_kcall : List Str := ["self", "step", "after", "clashes"]
theorem sc_kcall : FnScope N_kcall ["self", "step"] (defScope s_kcall) := ⟨rfl, rfl, rfl, by decide +kernel, rfl, by decide +kernel, by decide +kernel⟩
/-- the keeper takes the step if no ring refuses, else refused -/
def outK (av : Addr → Prop) (K : PySem.W.Frag) (CK C CF : Addr) (k : Addr) (W : Web) (n : Int) (s : Stp) (a : Addr) (H : Hp) (Q : VK) (E : XK) : Prop :=
  (NoW (arcs W.prs) s.pr (hurtW W s) → ∀ c l Hm H', ClashOf W s c → H l = none → Off k H Hm → KpAv (avN av H) K CK C Hm k (aftW W s c) n → Hm l = none → Same Hm H' → H' l = some (.lst (c.map V.str)) → Q (.ref l) H') ∧ refW W CF s a H E
def spKCall (K : PySem.W.Frag) (CK C CS CT CN CF : Addr) : Sp := fun vs H Q E => ∃ (av : Addr → Prop) (k a : Addr) (ps : List Part) (W : Web) (n : Int), vs = [.ref k, .ref a] ∧ KpAv av K CK C H k W n ∧ WebOk W ∧ W.line.length ≤ 20 ∧ (∀ z ∈ W.line, (tof W z).length ≤ 1000) ∧ StAt K H a ps ∧ smS ps ∧
  (stepB ps = false → ∀ d H', H d = none → Same H H' → H' d = some (.xd [("step", .ref a)]) → E (.ref CS) (some d) H') ∧
  ∀ s : Stp, ps = s.ps → stepB ps = true →
    ((∃ z, s = .bg z ∧ z ∈ W.line) → ∀ d H', H d = none → Same H H' → H' d = some (.xd [("program", .str s.pr)]) → E (.ref CT) (some d) H') ∧
    (((∀ z, s ≠ .bg z) ∧ ¬ (s.pr ∈ W.line ∧ s.pr ∉ W.ended)) → ∀ d H', H d = none → Same H H' → H' d = some (.xd [("program", .str s.pr)]) → E (.ref CN) (some d) H') ∧
    (((∀ z, s ≠ .bg z) → s.pr ∈ W.line ∧ s.pr ∉ W.ended) → (∀ z, s = .bg z → z ∉ W.line) → s.ts.length ≤ 100 ∧ (W.ended.length : Int) + 1 ≤ n ∧ n ≤ 12 ∧ outK av K CK C CF k W n s a H Q E)
abbrev s_karcs : Stmt := inClass (topS 61) 13
abbrev N_karcs : List Str := ["self"]
theorem sc_karcs : FnScope N_karcs ["self"] (defScope s_karcs) := ⟨rfl, rfl, rfl, by decide +kernel, rfl, by decide +kernel, by decide +kernel⟩
/-- the arcs in order -/
structure ArcsOf (W : Web) (L : List (List Str)) : Prop where
  nd : L.Nodup
  m : ∀ q, q ∈ L ↔ q ∈ W.prs
  so : L.Pairwise fun q r => lexT r q = false
def spKArcs (K : PySem.W.Frag) (CK C : Addr) : Sp := fun vs H Q _ => ∃ (av : Addr → Prop) (k : Addr) (W : Web) (n : Int), vs = [.ref k] ∧ KpAv av K CK C H k W n ∧ WebOk W ∧ W.prs.length < 77 ∧ ∀ (L : List AL) (l : Addr) H', ArcsOf W (L.map (·.2)) → H l = none → Same H H' → PrsAt K H' l L → Q (.ref l) H'
section
variable {P : Program} {w : World} {K : PySem.W.Frag} {mg : Str → Option Value} {base : Heap} {C CK CS CT CN CF : Addr} {mc : Value}
theorem ok_karcs {f : Addr} {fd : FuncData} (F : Fun K "arcs" "Keeper.arcs" s_karcs f fd) (T : TxKp K mg CK mc) (TH : TxH K mg C) : FnOk P w K mg base CX0 1 f fd ["self"] (spKArcs K CK C) := by
  refine F.ok sc_karcs (fun vs H Q E h => ?_) (fun cdv A outer s H vs Q E hr h => ?_)
  · obtain ⟨av, k, W, n, rfl, _⟩ := h
    rfl
  · obtain ⟨av, k, W, n, rfl, ⟨hd, ⟨dk, ek⟩, ⟨dx, ll, le, lt, lp, kt, kp, x, ax⟩⟩, wf, l77, q⟩ := h
    refine ⟨_, (pss_one (ps_ret (pe_sorT (d := 2) rfl hr.units (by decide) (by rfl) TH.m_sorted (by rfl) TH.m_set (pe_fld (pe_fld (pv 0) rfl) rfl)))), ?_⟩
    refine ⟨_, rfl, k, CK, dk, _, _, rfl, ek, T.insK.cl, T.nHe, kpF_h hd n, hd, C, dx, _, _, rfl, x.p, TH.insH.cl, TH.nP, heldF_p ll le lt lp, lp, kp, rfl, ⟨.inl (.inl x.r.l), by have := congrArg List.length x.rw_; rw [List.length_map] at this; omega, x.r.t⟩, fun L p ds so np => ?_⟩
    refine q L p _ ⟨ds.nd, fun q' => ?_, ?_⟩ np (same_upd np) ⟨upd_same, fun u hu => ?_⟩
    · rw [← x.rw_]
      refine ⟨fun h => ?_, fun h => ?_⟩
      · obtain ⟨u, hu, rfl⟩ := List.mem_map.mp h
        exact List.mem_map.mpr ⟨u, ds.sub u hu, rfl⟩
      · obtain ⟨u, hu, rfl⟩ := List.mem_map.mp h
        exact ds.all u hu
    · rw [List.pairwise_map]
      exact so
    · exact ⟨(x.r.t u (ds.sub u hu)).1, Same.tupS (same_upd np) (x.r.t u (ds.sub u hu)).2⟩
theorem ok_kcall {f : Addr} {fd : FuncData} (F : Fun K "__call__" "Keeper.__call__" s_kcall f fd) (T : TxKp K mg CK mc) (TH : TxH K mg C) (C_wi : Cal P w K mg base "_within" 1 (spWi K C)) (Ma : MtC (L2.CX P w) P w K mg base C "after" 6 (spHAfter K C CS CT CN CF)) (Mc : MtC CX0 P w K mg base C "clashes" 2 (spClash K C)) : FnOk P w K mg base (L2.CX P w) 7 f fd ["self", "step"] (spKCall K CK C CS CT CN CF) := by
  refine F.okX sc_kcall (fun vs H Q E h => ?_) (fun cdv A outer s H vs Q E hr h => ?_)
  · obtain ⟨av, k, a, ps, W, n, rfl, _⟩ := h
    rfl
  · obtain ⟨av, k, a, ps, W, n, rfl, ⟨hd, ⟨dk, ek⟩, hv⟩, wf, l20, hu, st, sm, qS, q⟩ := h
    have hh := hv.at_
    obtain ⟨dx, ll, le, lt, lp, kt, kp, x, ax⟩ := id hv
    refine ⟨_, (pss_cons (ps_set (i := 2) sc_kcall.nd rfl (Or.inl rfl) (pe_cal C_wi (hr.mono (by decide)) (by rfl) (pa_cons (pe_mdS Ma (pe_fld (pv 0) rfl) TH.insH.cl (hr.mono (by decide)) (fun σ => passAt (takes_of rfl rfl rfl rfl) σ) (pa_cons (pv 1) pa_nil)) (pa_cons (pe_fld (pv 0) rfl) pa_nil))))
      (pss_cons (ps_set (i := 3) sc_kcall.nd rfl (Or.inl rfl) (pe_md Mc (pe_fld (pv 0) rfl) TH.insH.cl (hr.mono (by decide)) pass0 (pa_cons (pv 1) pa_nil)))
      (pss_cons (ps_fld (pv 0) (pv 2) rfl)
      (pss_one (ps_ret (pv 3)))))), ?_⟩
    refine ⟨_, rfl, k, CK, dk, _, _, rfl, ek, T.insK.cl, T.nHe, kpF_h hd n, hd, dx, _, rfl, x.p, heldF_no (by decide +kernel) (by decide +kernel) (by decide +kernel) (by decide +kernel), _, rfl, av, hd, a, ps, W, rfl, hv, wf, l20, hu, st, sm, qS, fun s0 es sb => ?_⟩
    obtain ⟨qT, qN, qO⟩ := q s0 es sb
    refine ⟨qT, qN, fun h1 h2 => ?_⟩
    obtain ⟨h8, l12, n12, qo, qr⟩ := qO h1 h2
    refine ⟨h8, fun nw c y H1 cl ny s1 ma => ?_, qr⟩
    have ek1 := s1 _ _ ek
    have lE := aft_ended (W := W) (s := s0) (c := c)
    refine ⟨_, rfl, k, CK, dk, _, _, rfl, ek1, T.insK.cl, T.nLi, kpF_l hd n, y, n, aftW W s0 c, rfl, ma.at_, by omega, by omega, n12, ?_⟩
    refine ⟨_, rfl, k, CK, dk, _, _, rfl, ek1, T.insK.cl, T.nHe, kpF_h hd n, hd, dx, _, rfl, (x.same s1).p, heldF_no (by decide +kernel) (by decide +kernel) (by decide +kernel) (by decide +kernel), _, rfl, hd, a, W, s0, rfl, hh.same s1, wf, by omega, (es ▸ st).same s1, h8, fun c' l H2 cl' nl s2 e2 => ?_⟩
    have ec : c' = c := clash_uniq cl' cl
    subst ec
    have s02 := s1.trans s2
    have ek2 := s02 _ _ ek
    refine ⟨_, rfl, _, rfl, k, CK, dk, _, rfl, ek2, T.insK.cl, T.nHe, by show 2 < 1000; decide, ?_⟩
    rw [kpF_put]
    refine ⟨_, rfl, ?_⟩
    have lk : l ≠ k := fun e => by
      have := none_of s1 nl
      rw [e, ek] at this
      cases this
    refine qo nw c' l (upd H1 k (.ins CK dk (kpF y n))) _ cl (none_of s1 nl) ((Off.of s1).trans Off.put) ⟨y, ⟨dk, upd_same⟩, ma.off Off.put ek1⟩ ((upd_ne lk).trans nl) (fun b u hb => ?_) ((upd_ne lk).trans e2)
    by_cases e : b = k
    · rw [e, upd_same] at hb ⊢
      exact hb
    · rw [upd_ne e] at hb ⊢
      exact s2 _ _ hb
end
end Kx

namespace Kx
open PySem PySem.Spec PyProof.Rows L2 NdefX Kr Ke Kn Kz Ky Kg StX
/-! ### the law's own state -/
abbrev Act := Str × Str × Nat
def actV (x : Act) : List V := [.str x.1, .str x.2.1, .int x.2.2]
structure Lst where
  run : List Str
  ends : List Str
  acts : List Act
  out : List (Str × List Str)
  used : Nat
def stKV (lr le la lo : Addr) (u : Nat) : List (Key × V) := [(.inr "run", .ref lr), (.inr "ends", .ref le), (.inr "acts", .ref la), (.inr "out", .ref lo), (.inr "used", .int (u : Int))]
section
variable (lr le la lo x : Addr) (u v : Nat)
theorem st_run : valV (stKV lr le la lo u) (.inr "run") = some (.ref lr) := rfl
theorem st_ends : valV (stKV lr le la lo u) (.inr "ends") = some (.ref le) := rfl
theorem st_acts : valV (stKV lr le la lo u) (.inr "acts") = some (.ref la) := rfl
theorem st_out : valV (stKV lr le la lo u) (.inr "out") = some (.ref lo) := rfl
theorem st_used : valV (stKV lr le la lo u) (.inr "used") = some (.int (u : Int)) := rfl
theorem pt_run : putK (stKV lr le la lo u) (.inr "run") (.ref x) = stKV x le la lo u := rfl
theorem pt_ends : putK (stKV lr le la lo u) (.inr "ends") (.ref x) = stKV lr x la lo u := rfl
theorem pt_acts : putK (stKV lr le la lo u) (.inr "acts") (.ref x) = stKV lr le x lo u := rfl
theorem pt_out : putK (stKV lr le la lo u) (.inr "out") (.ref x) = stKV lr le la x u := rfl
theorem pt_used : putK (stKV lr le la lo u) (.inr "used") (.int (v : Int)) = stKV lr le la lo v := rfl
end
abbrev AA := Addr × Act
abbrev OT := Addr × List Str
/-- the acts, the lists behind the names -/
structure ActsAt (K : PySem.W.Frag) (H : Hp) (la : Addr) (ka : List AA) : Prop where
  l : H la = some (.lst (ka.map fun q => V.ref q.1))
  t : ∀ q ∈ ka, SqT K H q.1 (actV q.2)
structure OutAt (H : Hp) (lo : Addr) (ko : List (Str × OT)) : Prop where
  d : H lo = some (.dK (ko.map (entA fun a : OT => V.ref a.1)))
  u : ∀ e ∈ ko, H e.2.1 = some (.lst (e.2.2.map V.str))
theorem ActsAt.same {K : PySem.W.Frag} {H H' : Hp} {la : Addr} {ka : List AA} (x : ActsAt K H la ka) (s : Same H H') : ActsAt K H' la ka := ⟨s _ _ x.l, fun q hq => Same.tupS s (x.t q hq)⟩
theorem OutAt.same {H H' : Hp} {lo : Addr} {ko : List (Str × OT)} (x : OutAt H lo ko) (s : Same H H') : OutAt H' lo ko := ⟨s _ _ x.d, fun e he => s _ _ (x.u e he)⟩
def koW (ko : List (Str × OT)) : List (Str × List Str) := ko.map fun e => (e.1, e.2.2)
structure LsIn (K : PySem.W.Frag) (H : Hp) (s : Addr) (L : Lst) (lr le la lo : Addr) (ka : List AA) (ko : List (Str × OT)) : Prop where
  s : H s = some (.dK (stKV lr le la lo L.used))
  r : H lr = some (.lst (L.run.map V.str))
  e : H le = some (.lst (L.ends.map V.str))
  a : ActsAt K H la ka
  aw : ka.map (·.2) = L.acts
  o : OutAt H lo ko
  ow : koW ko = L.out
theorem LsIn.same {K : PySem.W.Frag} {H H' : Hp} {s lr le la lo : Addr} {L : Lst} {ka : List AA} {ko : List (Str × OT)} (x : LsIn K H s L lr le la lo ka ko) (m : Same H H') : LsIn K H' s L lr le la lo ka ko :=
  ⟨m _ _ x.s, m _ _ x.r, m _ _ x.e, x.a.same m, x.aw, x.o.same m, x.ow⟩
structure AvL (av : Addr → Prop) (lr le la lo : Addr) (ka : List AA) (ko : List (Str × OT)) : Prop where
  r : av lr
  e : av le
  a : av la
  o : av lo
  ka : ∀ q ∈ ka, av q.1
  ko : ∀ e ∈ ko, av e.2.1
theorem AvL.mono {av av' : Addr → Prop} {lr le la lo : Addr} {ka : List AA} {ko : List (Str × OT)} (x : AvL av lr le la lo ka ko) (h : ∀ b, av b → av' b) : AvL av' lr le la lo ka ko := ⟨h _ x.r, h _ x.e, h _ x.a, h _ x.o, fun q hq => h _ (x.ka q hq), fun e he => h _ (x.ko e he)⟩
def LsAv (av : Addr → Prop) (K : PySem.W.Frag) (H : Hp) (s : Addr) (L : Lst) : Prop := ∃ (lr le la lo : Addr) (ka : List AA) (ko : List (Str × OT)), LsIn K H s L lr le la lo ka ko ∧ AvL av lr le la lo ka ko
theorem LsAv.same {av : Addr → Prop} {K : PySem.W.Frag} {H H' : Hp} {s : Addr} {L : Lst} (x : LsAv av K H s L) (m : Same H H') : LsAv av K H' s L := let ⟨a, b, c, d, e, f, g, h⟩ := x; ⟨a, b, c, d, e, f, g.same m, h⟩
theorem LsAv.mono {av av' : Addr → Prop} {K : PySem.W.Frag} {H : Hp} {s : Addr} {L : Lst} (x : LsAv av K H s L) (h : ∀ b, av b → av' b) : LsAv av' K H s L := let ⟨a, b, c, d, e, f, g, y⟩ := x; ⟨a, b, c, d, e, f, g, y.mono h⟩
def lst0 : Lst := ⟨[], [], [], [], 0⟩
/-! ### _law_empty -/
abbrev s_empty : Stmt := topS 69
abbrev N_empty : List Str := []
theorem sc_empty : FnScope N_empty [] (defScope s_empty) := ⟨rfl, rfl, rfl, by decide +kernel, rfl, by decide +kernel, by decide +kernel⟩
def spEmpty (K : PySem.W.Frag) : Sp := fun vs H Q _ => vs = [] ∧ ∀ s H', H s = none → Same H H' → LsAv (fun b => H b = none ∧ b ≠ s) K H' s lst0 → Q (.ref s) H'
/-! ### _law_clashing -/
def hitA (s : Stp) (x : Act) : Bool := !decide (x.1 = s.pr) && (match s with
  | .rd _ t => decide (x.2.1 = t) && decide (x.2.2 = 2)
  | .cl _ ts => decide (x.2.1 ∈ ts)
  | _ => false)
abbrev s_clashing : Stmt := topS 70
abbrev N_clashing : List Str := ["_law_state", "_law_step", "_law_found", "_law_act"]
theorem sc_clashing : FnScope N_clashing ["_law_state", "_law_step"] (defScope s_clashing) := ⟨rfl, rfl, rfl, by decide +kernel, rfl, by decide +kernel, by decide +kernel⟩
/-- who clashes by the acts -/
structure HitOf (L : Lst) (s : Stp) (g : List Str) : Prop where
  nd : g.Nodup
  m : ∀ z, z ∈ g ↔ ∃ x ∈ L.acts, x.1 = z ∧ hitA s x = true
def spClashing (K : PySem.W.Frag) : Sp := fun vs H Q _ => ∃ (av : Addr → Prop) (s a : Addr) (L : Lst) (u : Stp), vs = [.ref s, .ref a] ∧ LsAv av K H s L ∧ StAt K H a u.ps ∧ L.acts.length ≤ 1000 ∧ ∀ (g : List Str) (l : Addr) H', HitOf L u g → H l = none → Same H H' → H' l = some (.lst (g.map V.str)) → Q (.ref l) H'
section
variable {P : Program} {w : World} {K : PySem.W.Frag} {mg : Str → Option Value} {base : Heap}
theorem ok_empty {f : Addr} {fd : FuncData} (F : Fun K "_law_empty" "_law_empty" s_empty f fd) : FnOk P w K mg base CX0 1 f fd [] (spEmpty K) := by
  refine F.ok sc_empty (fun vs H Q E h => ?_) (fun cdv A outer s H vs Q E hr h => ?_)
  · obtain ⟨rfl, _⟩ := h
    rfl
  · obtain ⟨rfl, q⟩ := h
    refine ⟨_, (pss_one (ps_ret (pe_disp (pps_cons pe_str (pe_lst pa_nil) (pps_cons pe_str (pe_lst pa_nil) (pps_cons pe_str (pe_lst pa_nil) (pps_cons pe_str pe_dnewK (pps_cons pe_str pe_int pps_nil))))) (by rfl) (by rfl) (fun z => by cases z) (by decide)))), ?_⟩
    refine fun s ns => ⟨by show 0 ≤ sizeLine; decide, fun lr n1 => ⟨by show 0 ≤ sizeLine; decide, fun le n2 => ⟨by show 0 ≤ sizeLine; decide, fun la n3 lo n4 => ?_⟩⟩⟩
    have s0 : Same H (upd H s (.dK [])) := same_upd ns
    have e0 : (upd H s (.dK [])) s = some (.dK []) := upd_same
    generalize upd H s (.dK []) = H0 at s0 e0 n1 n2 n3 n4 ⊢
    have s1 : Same H0 (upd H0 lr (.lst [])) := same_upd n1
    have e1 : (upd H0 lr (.lst [])) lr = some (.lst []) := upd_same
    generalize upd H0 lr (.lst []) = H1 at s1 e1 n2 n3 n4 ⊢
    have s2 : Same H1 (upd H1 le (.lst [])) := same_upd n2
    have e2 : (upd H1 le (.lst [])) le = some (.lst []) := upd_same
    generalize upd H1 le (.lst []) = H2 at s2 e2 n3 n4 ⊢
    have s3 : Same H2 (upd H2 la (.lst [])) := same_upd n3
    have e3 : (upd H2 la (.lst [])) la = some (.lst []) := upd_same
    generalize upd H2 la (.lst []) = H3 at s3 e3 n4 ⊢
    have s4 : Same H3 (upd H3 lo (.dK [])) := same_upd n4
    have e4 : (upd H3 lo (.dK [])) lo = some (.dK []) := upd_same
    generalize upd H3 lo (.dK []) = H4 at s4 e4 ⊢
    have f0 : ∀ {b}, H0 b = none → H b = none ∧ b ≠ s := fun h => ⟨none_of s0 h, fun e => by rw [e, e0] at h; cases h⟩
    have s34 := s3.trans s4
    have s24 := s2.trans s34
    have s04 := s1.trans s24
    refine ⟨s04 _ _ e0, stKV lr le la lo 0, rfl, by show 5 ≤ 15; decide, ?_⟩
    have sm : Same H (upd H4 s (.dK (stKV lr le la lo 0))) := same_mut (s0.trans s04) ns
    have ne : ∀ {b u}, H4 b = some u → (H0 b = none) → (upd H4 s (.dK (stKV lr le la lo 0))) b = some u := fun h n => by rw [upd_ne (f0 n).2]; exact h
    refine q s _ ns sm ⟨lr, le, la, lo, [], [], ⟨upd_same, ?_, ?_, ⟨?_, fun _ h => nomatch h⟩, rfl, ⟨?_, fun _ h => nomatch h⟩, rfl⟩, ⟨f0 n1, f0 (none_of s1 n2), f0 (none_of (s1.trans s2) n3), f0 (none_of (s1.trans (s2.trans s3)) n4), (fun _ h => nomatch h), (fun _ h => nomatch h)⟩⟩
    · exact ne (s24 _ _ e1) n1
    · exact ne (s34 _ _ e2) (none_of s1 n2)
    · exact ne (s4 _ _ e3) (none_of (s1.trans s2) n3)
    · exact ne e4 (none_of (s1.trans (s2.trans s3)) n4)
theorem ok_clashing {f : Addr} {fd : FuncData} (F : Fun K "_law_clashing" "_law_clashing" s_clashing f fd) : FnOk P w K mg base CX0 1 f fd ["_law_state", "_law_step"] (spClashing K) := by
  refine F.ok sc_clashing (fun vs H Q E h => ?_) (fun cdv A outer s H vs Q E hr h => ?_)
  · obtain ⟨av, s, a, L, u, rfl, _⟩ := h
    rfl
  · obtain ⟨av, s, a, L, u, rfl, ⟨lr, le, la, lo, ka, ko, x, _⟩, st, l1, q⟩ := h
    obtain ⟨xs, hxs, hx0, hx1⟩ := sAt st
    refine ⟨_, (pss_cons (ps_set (i := 2) sc_clashing.nd rfl (Or.inl rfl) (pe_lst pa_nil))
      (pss_cons (ps_for PassesOwn.never rfl (pi_list (pe_dget (hu_of hr) (pv 0) pe_str (fun _ _ => rfl))) (pg_name (i := 3) sc_clashing.nd rfl (Or.inl rfl))
        (pss_one (ps_if (PW.pt (pw_and (pt_cmpR op_ne (pe_ix (show IxR _ (rIxT K) from ix_tup) (pv 3) pe_int (fun _ _ => rfl)) (pe_ix (show IxR _ (rIxT K) from ix_tup) (pv 1) pe_int (fun _ _ => rfl)) (nomark _)) (pw_and1 (pt_cmpR (show OpR _ _ (rIn K true) from op_notIn_seq) (pe_ix (show IxR _ (rIxT K) from ix_tup) (pv 3) pe_int (fun _ _ => rfl)) (pv 2) (by rfl)))))
          (pss_cons (ps_if (PW.pt (pw_and (pt_cmpR op_eq (pe_ix (show IxR _ (rIxT K) from ix_tup) (pv 1) pe_int (fun _ _ => rfl)) pe_str (nomark _)) (pw_and (pt_cmpR op_eq (pe_ix (show IxR _ (rIxT K) from ix_tup) (pv 3) pe_int (fun _ _ => rfl)) (pe_ix (show IxR _ (rIxT K) from ix_tup) (pv 1) pe_int (fun _ _ => rfl)) (nomark _)) (pw_and1 (pt_cmpR op_eq (pe_ix (show IxR _ (rIxT K) from ix_tup) (pv 3) pe_int (fun _ _ => rfl)) pe_int (nomark _))))))
            (pss_one (ps_expr (pe_bm PySem.F.plainAttrs_list PySem.F.slot_list_append PySem.F.type_list_append mt_append (pv 2) (pa_cons (pe_ix (show IxR _ (rIxT K) from ix_tup) (pv 3) pe_int (fun _ _ => rfl)) pa_nil))))
            pss_nil)
          (pss_one (ps_if (PW.pt (pw_and (pt_cmpR op_eq (pe_ix (show IxR _ (rIxT K) from ix_tup) (pv 1) pe_int (fun _ _ => rfl)) pe_str (nomark _)) (pw_and1 (pt_cmpR (show OpR _ _ (rIn K false) from op_in_seq) (pe_ix (show IxR _ (rIxT K) from ix_tup) (pv 3) pe_int (fun _ _ => rfl)) (pe_ix (show IxR _ (rIxT K) from ix_tup) (pv 1) pe_int (fun _ _ => rfl)) rfl))))
            (pss_one (ps_expr (pe_bm PySem.F.plainAttrs_list PySem.F.slot_list_append PySem.F.type_list_append mt_append (pv 2) (pa_cons (pe_ix (show IxR _ (rIxT K) from ix_tup) (pv 3) pe_int (fun _ _ => rfl)) pa_nil))))
            pss_nil)))
          pss_nil)))
      (pss_one (ps_ret (pv 2))))), ?_⟩
    refine ⟨by show 0 ≤ sizeLine; decide, fun l nl => ?_⟩
    have s1 : Same H (upd H l (.lst [])) := same_upd nl
    have kl : ka.length = L.acts.length := by rw [← x.aw, List.length_map]
    refine ⟨_, rfl, s, _, rfl, (by have := DGet.k (k := .inr "acts") (s1 _ _ x.s); rwa [st_acts] at this), la, rfl, ⟨_, .inl (.inl (s1 _ _ x.a.l))⟩, ?_⟩
    refine for_list (xs := ka.map fun q => V.ref q.1) (fun i σ H1 => ∃ (x3 : Option V) (g : List Str), σ = [some (.ref s), some (.ref a), some (.ref l), x3] ∧ Same H H1 ∧ H1 l = some (.lst (g.map V.str)) ∧ g.length ≤ i ∧ g.Nodup ∧ ∀ z, z ∈ g ↔ ∃ q ∈ ka.take i, q.2.1 = z ∧ hitA u q.2 = true)
      ⟨none, [], rfl, s1, upd_same, Nat.le_refl _, List.nodup_nil, fun z => ⟨(fun h => nomatch h), (fun ⟨_, h, _⟩ => nomatch h)⟩⟩ (fun i σ H1 _ ⟨_, _, _, m, _⟩ => .inl (.inl (m _ _ x.a.l))) ?_ ?_
    · rintro i v σ H1 hv ⟨x3, g, rfl, m, d1, gl, gn, gm⟩
      rw [List.getElem?_map] at hv
      obtain ⟨q', hq, rfl⟩ := Option.map_eq_some_iff.mp hv
      have qm : q' ∈ ka := List.mem_of_getElem? hq
      have il : i < ka.length := (List.getElem?_eq_some_iff.mp hq).1
      have tq := Same.tupS m (x.a.t q' qm)
      have hx := Same.tupS m hxs
      have t1 := take_snoc hq
      have keep : (hitA u q'.2 = true → q'.2.1 ∈ g) → ∃ (x3 : Option V) (g' : List Str), [some (V.ref s), some (V.ref a), some (V.ref l), some (V.ref q'.1)] = [some (.ref s), some (.ref a), some (.ref l), x3] ∧ Same H H1 ∧ H1 l = some (.lst (g'.map V.str)) ∧ g'.length ≤ i + 1 ∧ g'.Nodup ∧ ∀ z, z ∈ g' ↔ ∃ q ∈ ka.take (i + 1), q.2.1 = z ∧ hitA u q.2 = true := fun h =>
        ⟨_, g, rfl, m, d1, by omega, gn, fun z => by
          rw [t1, gm]
          refine ⟨fun ⟨q, a, b⟩ => ⟨q, List.mem_append_left _ a, b⟩, fun ⟨q, a, b, c⟩ => ?_⟩
          rcases List.mem_append.mp a with a | a
          · exact ⟨q, a, b, c⟩
          · rw [List.mem_singleton.mp a] at b c
            exact (gm z).mp (b ▸ h c)⟩
      have more : hitA u q'.2 = true → q'.2.1 ∉ g → ∃ (x3 : Option V) (g' : List Str), [some (V.ref s), some (V.ref a), some (V.ref l), some (V.ref q'.1)] = [some (.ref s), some (.ref a), some (.ref l), x3] ∧ Same H (upd H1 l (.lst (g.map V.str ++ [.str q'.2.1]))) ∧ (upd H1 l (.lst (g.map V.str ++ [.str q'.2.1]))) l = some (.lst (g'.map V.str)) ∧ g'.length ≤ i + 1 ∧ g'.Nodup ∧ ∀ z, z ∈ g' ↔ ∃ q ∈ ka.take (i + 1), q.2.1 = z ∧ hitA u q.2 = true := fun h hn =>
        ⟨_, g ++ [q'.2.1], rfl, same_mut m nl, by rw [upd_same, List.map_append]; rfl, by rw [List.length_append]; exact Nat.succ_le_succ gl, List.nodup_append.mpr ⟨gn, List.pairwise_singleton _ _, fun a ha b hb e => hn (by rw [← List.mem_singleton.mp hb, ← e]; exact ha)⟩, fun z => by
          rw [t1, List.mem_append, gm, List.mem_singleton]
          refine ⟨fun hz => hz.elim (fun ⟨q, a, b⟩ => ⟨q, List.mem_append_left _ a, b⟩) (fun e => ⟨q', List.mem_append_right _ (List.mem_singleton.mpr rfl), e.symm, h⟩), fun ⟨q, a, b, c⟩ => ?_⟩
          rcases List.mem_append.mp a with a | a
          · exact .inl ⟨q, a, b, c⟩
          · rw [List.mem_singleton.mp a] at b
            exact .inr b.symm⟩
      have gs : (g.map V.str).length < sizeLine := by rw [List.length_map]; exact sz8 (by omega)
      refine ⟨_, rfl, q'.1, _, ((0 : Nat) : Int), _, rfl, rfl, tq, atI_nat rfl, _, rfl, a, xs, ((1 : Nat) : Int), _, rfl, rfl, hx, atI_nat hx1, rfl, _, rfl, ?_⟩
      rw [strV]
      refine iteB (fun h1 => ?_) (fun h1 => ?_)
      case refine_2 => exact iteF (keep fun h => by
        have h1 : q'.2.1 = u.pr := by simpa using h1
        unfold hitA at h
        rw [decide_eq_true h1] at h
        exact Bool.noConfusion h)
      have ne : ¬ (q'.2.1 = u.pr) := by simpa using h1
      refine ⟨_, rfl, q'.1, _, ((0 : Nat) : Int), _, rfl, rfl, tq, atI_nat rfl, _, rfl, l, _, rfl, .inl (.inl (.inl d1)), rfl, txt_flat g, _, rfl, ?_⟩
      rw [if_pos rfl, inV_txt]
      refine iteB (fun h2 => ?_) (fun h2 => ?_)
      case refine_2 => exact keep fun _ => by simpa using h2
      have hn : q'.2.1 ∉ g := by simpa using h2
      clear h1 h2
      refine ⟨_, rfl, a, xs, ((0 : Nat) : Int), _, rfl, rfl, hx, atI_nat hx0, rfl, _, rfl, ?_⟩
      rw [strV]
      have hit : hitA u q'.2 = (match u with
        | .rd _ t => decide (q'.2.2.1 = t) && decide (q'.2.2.2 = 2)
        | .cl _ ts => decide (q'.2.2.1 ∈ ts)
        | _ => false) := by
        unfold hitA
        rw [decide_eq_false ne]
        rfl
      cases u with
      | bg z0 =>
        refine iteB (fun h => absurd (of_decide_eq_true h) wd_ne.1) (fun _ => iteF ?_)
        refine ⟨_, rfl, a, xs, ((0 : Nat) : Int), _, rfl, rfl, hx, atI_nat hx0, rfl, _, rfl, ?_⟩
        rw [strV]
        refine iteB (fun h => absurd (of_decide_eq_true h) wd_ne.2.1) (fun _ => iteF ?_)
        exact keep fun h => by rw [hit] at h; exact Bool.noConfusion h
      | qt z0 =>
        refine iteB (fun h => absurd (of_decide_eq_true h) wd_ne.2.2.1) (fun _ => iteF ?_)
        refine ⟨_, rfl, a, xs, ((0 : Nat) : Int), _, rfl, rfl, hx, atI_nat hx0, rfl, _, rfl, ?_⟩
        rw [strV]
        refine iteB (fun h => absurd (of_decide_eq_true h) wd_ne.2.2.2.1) (fun _ => iteF ?_)
        exact keep fun h => by rw [hit] at h; exact Bool.noConfusion h
      | rd z0 t =>
        refine iteB (fun _ => ?_) (fun h => absurd wd_eq.2.2.1 (of_decide_eq_false h))
        refine ⟨_, rfl, q'.1, _, ((1 : Nat) : Int), _, rfl, rfl, tq, atI_nat rfl, _, rfl, a, _, ((2 : Nat) : Int), _, rfl, rfl, Same.tupS m (st_rd st), atI_nat rfl, rfl, _, rfl, ?_⟩
        rw [strV]
        refine iteB (fun ht => ?_) (fun ht => ?_)
        · refine ⟨_, rfl, q'.1, _, ((2 : Nat) : Int), _, rfl, rfl, tq, atI_nat rfl, rfl, _, rfl, ?_⟩
          have i2 : decide (V.int (q'.2.2.2 : Int) = V.int 2) = decide (q'.2.2.2 = 2) := by
            by_cases e : q'.2.2.2 = 2
            · rw [decide_eq_true e, decide_eq_true (by rw [e]; rfl)]
            · rw [decide_eq_false e, decide_eq_false (fun y => e (by injection y with y; omega))]
          rw [i2]
          refine iteB (fun h3 => ?_) (fun h3 => ?_)
          · refine ⟨_, rfl, .inl ⟨rfl, _, .inl (.inl d1)⟩, _, rfl, q'.1, _, ((0 : Nat) : Int), _, rfl, rfl, tq, atI_nat rfl, l, _, _, rfl, rfl, d1, gs, ?_⟩
            refine ⟨_, rfl, a, _, ((0 : Nat) : Int), _, rfl, rfl, Same.tupS (same_mut m nl) (st_rd st), atI_nat rfl, rfl, _, rfl, ?_⟩
            rw [strV]
            refine iteB (fun h => absurd (of_decide_eq_true h) wd_ne.2.2.2.2.2.2.2.2) (fun _ => iteF ?_)
            exact more (by rw [hit]; show (decide _ && decide _) = true; rw [ht, h3]; rfl) hn
          · refine ⟨_, rfl, a, xs, ((0 : Nat) : Int), _, rfl, rfl, hx, atI_nat hx0, rfl, _, rfl, ?_⟩
            rw [strV]
            refine iteB (fun h => absurd (of_decide_eq_true h) wd_ne.2.2.2.2.2.2.2.2) (fun _ => iteF ?_)
            exact keep fun h => by
              rw [hit] at h
              have h : (decide (q'.2.2.1 = t) && decide (q'.2.2.2 = 2)) = true := h
              rw [h3, Bool.and_false] at h
              cases h
        · refine iteF ?_
          refine ⟨_, rfl, a, xs, ((0 : Nat) : Int), _, rfl, rfl, hx, atI_nat hx0, rfl, _, rfl, ?_⟩
          rw [strV]
          refine iteB (fun h => absurd (of_decide_eq_true h) wd_ne.2.2.2.2.2.2.2.2) (fun _ => iteF ?_)
          exact keep fun h => by
            rw [hit] at h
            have h : (decide (q'.2.2.1 = t) && decide (q'.2.2.2 = 2)) = true := h
            rw [ht, Bool.false_and] at h
            cases h
      | cl z0 ts =>
        obtain ⟨qa, hsq, hqa⟩ := st_cl st
        refine iteB (fun h => absurd (of_decide_eq_true h) wd_ne.2.2.2.2.1) (fun _ => iteF ?_)
        refine ⟨_, rfl, a, xs, ((0 : Nat) : Int), _, rfl, rfl, hx, atI_nat hx0, rfl, _, rfl, ?_⟩
        rw [strV]
        refine iteB (fun _ => ?_) (fun h => absurd wd_eq.2.2.2.1 (of_decide_eq_false h))
        refine ⟨_, rfl, q'.1, _, ((1 : Nat) : Int), _, rfl, rfl, tq, atI_nat rfl, _, rfl, a, _, ((2 : Nat) : Int), _, rfl, rfl, Same.tupS m hsq, atI_nat rfl, qa, _, rfl, .inr (Same.tupS m hqa), rfl, txt_flat ts, _, rfl, ?_⟩
        rw [if_neg Bool.false_ne_true, inV_txt]
        refine iteB (fun h3 => ?_) (fun h3 => ?_)
        · refine ⟨_, rfl, .inl ⟨rfl, _, .inl (.inl d1)⟩, _, rfl, q'.1, _, ((0 : Nat) : Int), _, rfl, rfl, tq, atI_nat rfl, l, _, _, rfl, rfl, d1, gs, ?_⟩
          exact more (by rw [hit]; exact h3) hn
        · exact keep fun h => by
            rw [hit] at h
            have h : decide (q'.2.2.1 ∈ ts) = true := h
            rw [h3] at h
            cases h
    rintro σ H1 ⟨x3, g, rfl, m, d1, gl, gn, gm⟩
    rw [List.length_map, List.take_length] at gm
    refine ⟨_, rfl, q g l H1 ⟨gn, fun z => ?_⟩ nl m d1⟩
    rw [gm, ← x.aw]
    refine ⟨fun ⟨y, a, b, c⟩ => ⟨y.2, List.mem_map.mpr ⟨y, a, rfl⟩, b, c⟩, fun ⟨y, h1, b, c⟩ => ?_⟩
    obtain ⟨y', h2, rfl⟩ := List.mem_map.mp h1
    exact ⟨y', h2, b, c⟩
end
end Kx

namespace Kx
open PySem PySem.Spec PyProof.Rows L2 NdefX Kr Ke Kn Kz Ky Kg StX
/-! ### _law_reachable, _law_allows -/
/-- the search by the law: all that is reached -/
structure FI (as : List (Str × Str)) (z : Str) (seen : List Str) (k : Nat) : Prop where
  nd : seen.Nodup
  hd : z ∈ seen
  rc : ∀ y ∈ seen, ∃ p, Wk as z p y
  dn : ∀ (i : Nat) (e : Str), i < k → seen[i]? = some e → ∀ y, (e, y) ∈ as → y ∈ seen
  le : k ≤ seen.length
theorem FI.bound {as : List (Str × Str)} {z : Str} {seen : List Str} {k : Nat} (h : FI as z seen k) : seen.length ≤ as.length + 1 := by
  have h1 := nd_le h.nd (m := z :: as.map (·.2)) fun y hy => by
    obtain ⟨p, w⟩ := h.rc y hy
    cases w with
    | one => exact List.mem_cons_self
    | snoc _ a => exact List.mem_cons_of_mem _ (List.mem_map.mpr ⟨_, a, rfl⟩)
  rwa [List.length_cons, List.length_map] at h1
theorem FI.all {as : List (Str × Str)} {z : Str} {seen : List Str} (h : FI as z seen seen.length) (y : Str) : y ∈ seen ↔ ∃ p, Wk as z p y := by
  refine ⟨h.rc y, fun ⟨p, w⟩ => ?_⟩
  induction w with
  | one => exact h.hd
  | snoc w1 a ih =>
    obtain ⟨i, hi, e⟩ := List.mem_iff_getElem.mp (ih ⟨_, w1⟩)
    exact h.dn i _ hi (by rw [List.getElem?_eq_getElem hi, e]) _ a
theorem FI.push {as : List (Str × Str)} {z : Str} {seen : List Str} {k : Nat} (h : FI as z seen k) {e y : Str} (he : e ∈ seen) (ha : (e, y) ∈ as) (hy : y ∉ seen) : FI as z (seen ++ [y]) k := by
  refine ⟨List.nodup_append.mpr ⟨h.nd, List.pairwise_singleton _ y, fun a ha' b hb c => hy (by rw [← List.mem_singleton.mp hb, ← c]; exact ha')⟩, List.mem_append_left _ h.hd, fun u hu => ?_, fun i e' hi h1 u hu => ?_, by rw [List.length_append]; have := h.le; omega⟩
  · rcases List.mem_append.mp hu with hu | hu
    · exact h.rc u hu
    · obtain ⟨p, w⟩ := h.rc e he
      rw [List.mem_singleton.mp hu]
      exact ⟨_, w.snoc ha⟩
  · have hl := h.le
    rw [List.getElem?_append_left (by omega)] at h1
    exact List.mem_append_left _ (h.dn i e' hi h1 u hu)
def oArcs (l : List (Str × List Str)) : List (Str × Str) := l.flatMap fun e => e.2.map fun y => (e.1, y)
theorem oArcs_mem {l : List (Str × List Str)} {e y : Str} : (e, y) ∈ oArcs l ↔ ∃ r, (e, r) ∈ l ∧ y ∈ r := by
  unfold oArcs
  rw [List.mem_flatMap]
  constructor
  · rintro ⟨q, hq, h⟩
    obtain ⟨y', hy, e'⟩ := List.mem_map.mp h
    injection e' with e1 e2
    exact ⟨q.2, by rw [← e1]; exact hq, e2 ▸ hy⟩
  · rintro ⟨r, hr, hy⟩
    exact ⟨(e, r), hr, List.mem_map.mpr ⟨y, hy, rfl⟩⟩
theorem koW_keys (ko : List (Str × OT)) : (koW ko).map (·.1) = ko.map (·.1) := by
  unfold koW
  rw [List.map_map]
  rfl
abbrev s_reach : Stmt := topS 71
abbrev N_reach : List Str := ["_law_out", "_law_start", "_law_seen", "_law_at", "_law_one"]
theorem sc_reach : FnScope N_reach ["_law_out", "_law_start"] (defScope s_reach) := ⟨rfl, rfl, rfl, by decide +kernel, rfl, by decide +kernel, by decide +kernel⟩
def spReach (K : PySem.W.Frag) : Sp := fun vs H Q _ => ∃ (lo : Addr) (z : Str) (ko : List (Str × OT)), vs = [.ref lo, .str z] ∧ OutAt H lo ko ∧ (ko.map (·.1)).Nodup ∧ (oArcs (koW ko)).length ≤ 400 ∧
  ∀ (d : Addr) (seen : List Str) H', Same H H' → H d = none → H' d = some (.lst (seen.map V.str)) → (∀ y, y ∈ seen ↔ ∃ p, Wk (oArcs (koW ko)) z p y) → Q (.ref d) H'
def muR (n : Nat) : L2.St → Hp → Nat := fun σ _ => match (σ[3]? : Option (Option V)) with
  | some (some (V.int i)) => n + 2 - i.toNat
  | _ => 0
section
variable {P : Program} {w : World} {K : PySem.W.Frag} {mg : Str → Option Value} {base : Heap}
theorem ok_reach {f : Addr} {fd : FuncData} (F : Fun K "_law_reachable" "_law_reachable" s_reach f fd) (T : TxS mg) : FnOk P w K mg base CX0 1 f fd ["_law_out", "_law_start"] (spReach K) := by
  refine F.ok sc_reach (fun vs H Q E h => ?_) (fun cdv A outer s H vs Q E hr h => ?_)
  · obtain ⟨l, z, kl, rfl, _⟩ := h
    rfl
  · obtain ⟨lo, z, ko, rfl, oa, kn, hl, q⟩ := h
    refine ⟨_, (pss_cons (ps_set (i := 2) sc_reach.nd rfl (Or.inl rfl) (pe_lst (pa_cons (pv 1) pa_nil)))
      (pss_cons (ps_set (i := 3) sc_reach.nd rfl (Or.inl rfl) pe_int)
      (pss_cons (ps_while PassesOwn.never (pt_cmpR op_lt (pv 3) (pe_callB call_len_seq (by rfl) T.m_len (by decide +kernel) (pa_cons (pv 2) pa_nil)) (nomark _))
        (pss_cons (ps_for PassesOwn.never rfl (pi_list (pe_dget2 (hu_of hr) (pv 0) (pe_ix (show IxR _ (rIxL K) from ix_list) (pv 2) (pv 3) (fun _ _ => rfl)) (pe_lst pa_nil) ⟨by rfl, by rfl, by rfl, by rfl⟩)) (pg_name (i := 4) sc_reach.nd rfl (Or.inl rfl))
          (pss_one (ps_if (pt_cmpR (show OpR _ _ (rIn K true) from op_notIn_seq) (pv 4) (pv 2) (by rfl))
            (pss_one (ps_expr (pe_bm PySem.F.plainAttrs_list PySem.F.slot_list_append PySem.F.type_list_append mt_append (pv 2) (pa_cons (pv 4) pa_nil))))
            pss_nil)))
        (pss_one (ps_set (i := 3) sc_reach.nd rfl (Or.inl rfl) (pe_op op_add (pv 3) pe_int)))))
      (pss_one (ps_ret (pv 2)))))), ?_⟩
    refine ⟨_, rfl, by show 1 ≤ sizeLine; decide, fun D nD => ?_⟩
    refine while_by (fun σ Hx => ∃ (k : Nat) (x4 : Option V) (seen : List Str), σ = [some (.ref lo), some (.str z), some (.ref D), some (.int (k : Int)), x4] ∧ Same H Hx ∧ Hx D = some (.lst (seen.map V.str)) ∧ FI (oArcs (koW ko)) z seen k)
      (muR 401) ⟨0, none, [z], rfl, same_upd nD, upd_same, ⟨List.pairwise_singleton _ z, List.mem_cons_self, fun y hy => by rw [List.mem_singleton.mp hy]; exact ⟨_, .one⟩, (fun i e h => absurd h (Nat.not_lt_zero i)), Nat.zero_le _⟩⟩ ?_ ?_
    · rintro σ Hx ⟨k, x4, seen, rfl, sx, eD, fi⟩
      have bd := fi.bound
      refine ⟨_, rfl, _, rfl, D, _, rfl, .inl (.inl (.inl eD)), _, _, rfl, rfl, _, rfl, iteB (fun hk => ?_) (fun hk => ?_)⟩
      · have hk' : k < seen.length := by have := of_decide_eq_true hk; rw [List.length_map] at this; omega
        obtain ⟨e, he⟩ : ∃ e, seen[k]? = some e := ⟨seen[k], List.getElem?_eq_getElem hk'⟩
        have hes : (seen.map V.str)[k]? = some (.str e) := by rw [List.getElem?_map, he]; rfl
        have ox := oa.same sx
        refine ⟨_, rfl, lo, rfl, .inl ⟨_, .inl ox.d⟩, _, rfl, _, rfl, D, _, (k : Int), _, rfl, rfl, .inl (.inl eD), atI_nat hes, by show 0 ≤ sizeLine; decide, fun b nb => ?_⟩
        have sb : Same Hx (upd Hx b (.lst [])) := same_upd nb
        have eb : (upd Hx b (.lst [])) b = some (.lst []) := upd_same
        generalize upd Hx b (.lst []) = Hy at sb eb ⊢
        have sy := sx.trans sb
        have oy := oa.same sy
        refine ⟨_, DGet.k (k := .inr e) oy.d, ?_⟩
        obtain ⟨b', r, gb, er, bD, hrow⟩ : ∃ (b' : Addr) (r : List Str), ((valV (ko.map (entA fun a : OT => V.ref a.1)) (.inr e)).getD (.ref b)) = .ref b' ∧ Hy b' = some (.lst (r.map V.str)) ∧ b' ≠ D ∧ ∀ y, y ∈ r ↔ (e, y) ∈ oArcs (koW ko) := by
          rw [valA_map]
          cases ev : valA ko e with
          | none =>
            refine ⟨b, [], rfl, eb, (fun e => by rw [e, eD] at nb; cases nb), fun y => ⟨(fun h => nomatch h), fun h => ?_⟩⟩
            obtain ⟨r, hr, _⟩ := oArcs_mem.mp h
            exact absurd (koW_keys ko ▸ List.mem_map.mpr ⟨_, hr, rfl⟩) (valA_none.mp ev)
          | some p =>
            have hm := valA_mem ev
            refine ⟨p.1, p.2, rfl, oy.u _ hm, ne_of_none (oa.u _ hm) nD, fun y => ⟨fun h => oArcs_mem.mpr ⟨p.2, List.mem_map.mpr ⟨_, hm, rfl⟩, h⟩, fun h => ?_⟩⟩
            obtain ⟨r, hr, hy⟩ := oArcs_mem.mp h
            obtain ⟨e', he', eq⟩ := List.mem_map.mp hr
            injection eq with e1 e2
            have := valA_at kn he'
            rw [e1, ev] at this
            injection this with this
            rw [← this] at e2
            rw [← e2] at hy
            exact hy
        rw [gb]
        refine ⟨b', rfl, ⟨_, .inl (.inl er)⟩, ?_⟩
        refine for_list (K := K) (a := b') (xs := r.map V.str) (fun j σ Hz => ∃ (x4 : Option V) (seen : List Str), σ = [some (.ref lo), some (.str z), some (.ref D), some (.int (k : Int)), x4] ∧ Same H Hz ∧ Hz b' = some (.lst (r.map V.str)) ∧ Hz D = some (.lst (seen.map V.str)) ∧ FI (oArcs (koW ko)) z seen k ∧ seen[k]? = some e ∧ ∀ u ∈ r.take j, u ∈ seen)
          ⟨x4, seen, rfl, sy, er, sb _ _ eD, fi, he, fun u hu => absurd hu List.not_mem_nil⟩ (fun j σ Hz _ ⟨_, _, _, sz, eb, _⟩ => .inl (.inl eb)) ?_ ?_
        · rintro j v σ Hz hv ⟨x4, seen, rfl, sz, er, eD, fi, he, hs⟩
          obtain ⟨u, hu, rfl⟩ := strs_at hv
          have um := List.mem_of_getElem? hu
          have bd := fi.bound
          refine ⟨_, rfl, _, rfl, D, _, rfl, .inl (.inl (.inl eD)), rfl, txt_flat seen, _, rfl, ?_⟩
          rw [if_pos rfl, inV_txt]
          refine iteB (fun g => ?_) (fun g => ?_)
          · have hn : u ∉ seen := by simpa using g
            refine ⟨_, rfl, .inl ⟨rfl, _, .inl (.inl eD)⟩, _, rfl, D, _, _, rfl, rfl, eD, by rw [List.length_map]; exact sz8 (by omega), ?_⟩
            have hk2 := (List.getElem?_eq_some_iff.mp he).1
            refine ⟨_, seen ++ [u], rfl, same_mut sz nD, (upd_ne bD).trans er, by rw [upd_same, List.map_append]; rfl, fi.push (List.mem_of_getElem? he) ((hrow u).mp um) hn, by rw [List.getElem?_append_left hk2]; exact he, fun y hy => ?_⟩
            rw [take_snoc hu] at hy
            rcases List.mem_append.mp hy with hy | hy
            · exact List.mem_append_left _ (hs y hy)
            · rw [List.mem_singleton.mp hy]
              exact List.mem_append_right _ List.mem_cons_self
          · have hm : u ∈ seen := by simpa using g
            refine ⟨_, seen, rfl, sz, er, eD, fi, he, fun y hy => ?_⟩
            rw [take_snoc hu] at hy
            rcases List.mem_append.mp hy with hy | hy
            · exact hs y hy
            · rw [List.mem_singleton.mp hy]
              exact hm
        · rintro σ Hz ⟨x4, seen, rfl, sz, er, eD, fi, he, hs⟩
          rw [List.length_map, List.take_length] at hs
          have hk2 := (List.getElem?_eq_some_iff.mp he).1
          have bd := fi.bound
          refine ⟨_, rfl, _, _, rfl, rfl, ⟨k + 1, _, seen, rfl, sz, eD, ⟨fi.nd, fi.hd, fi.rc, fun i e' hi h1 y hy => ?_, hk2⟩⟩, ?_⟩
          · by_cases c : i < k
            · exact fi.dn i e' c h1 y hy
            · have ei : i = k := by omega
              rw [ei, he] at h1
              injection h1 with h1
              rw [← h1] at hy
              exact hs y ((hrow y).mpr hy)
          · show 401 + 2 - ((k : Int) + 1).toNat < 401 + 2 - (k : Int).toNat
            omega
      · have hk' : ¬ k < seen.length := by have := of_decide_eq_false hk; rw [List.length_map] at this; omega
        have hke : k = seen.length := by have := fi.le; omega
        subst hke
        exact ⟨_, rfl, q D seen Hx sx nD eD fi.all⟩
    · intro σ H Q Q' hQ h
      obtain ⟨v, e1, v2, e2, p, xs, e3, e4, i, j, e5, e6, k, e7, h⟩ := h
      exact ⟨v, e1, v2, e2, p, xs, e3, e4, i, j, e5, e6, k, e7, hQ _ _ h⟩
end
def hitsL (L : Lst) (u : Stp) : List Str := (L.acts.filter (hitA u)).map (·.1)
theorem HitOf.hits {L : Lst} {u : Stp} {g : List Str} (h : HitOf L u g) (z : Str) : z ∈ g ↔ z ∈ hitsL L u := by
  rw [h.m]
  unfold hitsL
  rw [List.mem_map]
  exact ⟨fun ⟨x, a, b, c⟩ => ⟨x, List.mem_filter.mpr ⟨a, c⟩, b⟩, fun ⟨x, a, b⟩ => ⟨x, (List.mem_filter.mp a).1, b, (List.mem_filter.mp a).2⟩⟩
abbrev s_allows : Stmt := topS 72
abbrev N_allows : List Str := ["_law_state", "_law_step", "_law_reach", "_law_one"]
theorem sc_allows : FnScope N_allows ["_law_state", "_law_step"] (defScope s_allows) := ⟨rfl, rfl, rfl, by decide +kernel, rfl, by decide +kernel, by decide +kernel⟩
def spAllows (K : PySem.W.Frag) : Sp := fun vs H Q _ => ∃ (av : Addr → Prop) (s a : Addr) (L : Lst) (u : Stp), vs = [.ref s, .ref a] ∧ LsAv av K H s L ∧ StAt K H a u.ps ∧ L.acts.length ≤ 1000 ∧ (L.out.map (·.1)).Nodup ∧ (oArcs L.out).length ≤ 400 ∧
  (NoW (oArcs L.out) u.pr (hitsL L u) → ∀ H', Same H H' → Q (.bl true) H') ∧ (¬ NoW (oArcs L.out) u.pr (hitsL L u) → ∀ H', Same H H' → Q (.bl false) H')
section
variable {P : Program} {w : World} {K : PySem.W.Frag} {mg : Str → Option Value} {base : Heap}
theorem ok_allows {f : Addr} {fd : FuncData} (F : Fun K "_law_allows" "_law_allows" s_allows f fd) (C_reach : Cal P w K mg base "_law_reachable" 1 (spReach K)) (C_clashing : Cal P w K mg base "_law_clashing" 1 (spClashing K)) : FnOk P w K mg base CX0 2 f fd ["_law_state", "_law_step"] (spAllows K) := by
  refine F.ok sc_allows (fun vs H Q E h => ?_) (fun cdv A outer s H vs Q E hr h => ?_)
  · obtain ⟨av, s, a, L, u, rfl, _⟩ := h
    rfl
  · obtain ⟨av, s, a, L, u, rfl, ls, st, l1, on, o4, qt, qf⟩ := h
    obtain ⟨lr, le, la, lo, ka, ko, x, ax⟩ := id ls
    obtain ⟨xs, hxs, hx0, hx1⟩ := sAt st
    refine ⟨_, (pss_cons (ps_set (i := 2) sc_allows.nd rfl (Or.inl rfl) (pe_cal C_reach (hr.mono (by decide)) (by rfl) (pa_cons (pe_dget (hu_of hr) (pv 0) pe_str (fun _ _ => rfl)) (pa_cons (pe_ix (show IxR _ (rIxT K) from ix_tup) (pv 1) pe_int (fun _ _ => rfl)) pa_nil))))
      (pss_cons (ps_for PassesOwn.never rfl (pi_list (pe_cal C_clashing (hr.mono (by decide)) (by rfl) (pa_cons (pv 0) (pa_cons (pv 1) pa_nil)))) (pg_name (i := 3) sc_allows.nd rfl (Or.inl rfl))
        (pss_one (ps_if (pt_cmpR (show OpR _ _ (rIn K false) from op_in_seq) (pv 3) (pv 2) (by rfl))
          (pss_one (ps_ret pe_bl))
          pss_nil)))
      (pss_one (ps_ret pe_bl)))), ?_⟩
    refine ⟨_, rfl, s, _, rfl, (by have := DGet.k (k := .inr "out") x.s; rwa [st_out] at this), _, rfl, a, xs, ((1 : Nat) : Int), _, rfl, rfl, hxs, atI_nat hx1, ?_⟩
    refine ⟨lo, u.pr, ko, rfl, x.o, by rw [← koW_keys, x.ow]; exact on, by rw [x.ow]; exact o4, fun d seen H1 s1 nd e1 sn => ?_⟩
    rw [x.ow] at sn
    refine ⟨_, rfl, _, rfl, av, s, a, L, u, rfl, ls.same s1, st.same s1, l1, fun g l H2 hg nl s2 e2 => ?_⟩
    have s02 := s1.trans s2
    refine ⟨l, rfl, ⟨_, .inl (.inl e2)⟩, ?_⟩
    refine for_list (xs := g.map V.str) (fun i σ H3 => ∃ (x3 : Option V), σ = [some (.ref s), some (.ref a), some (.ref d), x3] ∧ Same H2 H3 ∧ ∀ z ∈ g.take i, z ∉ seen)
      ⟨none, rfl, Same.refl H2, fun _ h => nomatch h⟩ (fun i σ H3 _ ⟨_, _, s3, _⟩ => .inl (.inl (s3 _ _ e2))) ?_ ?_
    · rintro i v σ H3 hv ⟨x3, rfl, s3, hn⟩
      obtain ⟨z, hz, rfl⟩ := strs_at hv
      refine ⟨_, rfl, _, rfl, d, _, rfl, .inl (.inl (.inl ((s2.trans s3) _ _ e1))), rfl, txt_flat seen, _, rfl, ?_⟩
      rw [if_neg Bool.false_ne_true, inV_txt]
      refine iteB (fun h => ?_) (fun h => ?_)
      · refine qf (fun nw => ?_) H3 (s02.trans s3)
        have hm : z ∈ seen := of_decide_eq_true h
        obtain ⟨p, w⟩ := (sn z).mp hm
        exact nw p z w ((hg.hits z).mp (List.mem_of_getElem? hz))
      · refine ⟨_, rfl, s3, fun y hy => ?_⟩
        rw [take_snoc hz] at hy
        rcases List.mem_append.mp hy with hy | hy
        · exact hn y hy
        · rw [List.mem_singleton.mp hy]
          exact of_decide_eq_false h
    · rintro σ H3 ⟨x3, rfl, s3, hn⟩
      rw [List.length_map, List.take_length] at hn
      exact qt (fun p z w hz => hn z ((hg.hits z).mpr hz) ((sn z).mpr ⟨p, w⟩)) H3 (s02.trans s3)
end
end Kx

namespace Kx
open PySem PySem.Spec PyProof.Rows L2 NdefX Kr Ke Kn Kz Ky Kg StX
/-! ### _law_taken -/
theorem same_unlk {H1 Hx : Hp} {d : Addr} {u : HO} {od : Obj} (hd : H1 d = some u) (s : Same (upd H1 d (.frz od u)) Hx) : Same H1 (upd Hx d u) := fun b o e => by
  by_cases c : b = d
  · rw [c, upd_same, ← hd, ← e, c]
  · rw [upd_ne c]
    exact s _ _ (by rw [upd_ne c]; exact e)
def goneL : Stp → List Str
  | .qt z => [z]
  | _ => []
def outF (gone : List Str) (l : List (Str × List Str)) : List (Str × List Str) := (l.filter fun e => !decide (e.1 ∈ gone)).map fun e => (e.1, e.2.filter fun y => !decide (y ∈ gone))
def addN (name : Str) (l : List (Str × List Str)) (one : Str) : List (Str × List Str) := match valA l one with
  | some r => if name ∈ r then l else putA l one (r ++ [name])
  | none => l
def outT (u : Stp) (g : List Str) (l : List (Str × List Str)) : List (Str × List Str) := let l' := g.foldl (addN u.pr) (outF (goneL u) l); match u with
  | .bg z => l' ++ [(z, [])]
  | _ => l'
def tkL (L : Lst) (u : Stp) (g : List Str) : Lst where
  run := match u with | .bg z => L.run ++ [z] | .rd _ _ => L.run | .cl z _ => L.run.filter fun n => !decide (n = z) | .qt z => L.run.filter fun n => !decide (n = z)
  ends := match u with | .cl z _ => L.ends ++ [z] | _ => L.ends
  acts := match u with | .bg _ => L.acts | .rd z t => L.acts ++ [(z, t, 1)] | .cl z ts => L.acts ++ ts.map fun t => (z, t, 2) | .qt z => L.acts.filter fun x => !decide (x.1 = z)
  out := outT u g L.out
  used := match u with | .bg _ => L.used + 1 | _ => L.used
theorem addN_keys (name : Str) (l : List (Str × List Str)) (one : Str) : (addN name l one).map (·.1) = l.map (·.1) := by
  unfold addN
  cases e : valA l one with
  | none => rfl
  | some r =>
    show (if name ∈ r then l else putA l one (r ++ [name])).map (·.1) = _
    by_cases h : name ∈ r
    · rw [if_pos h]
    · rw [if_neg h, putA_keys, if_pos (List.mem_map.mpr ⟨_, valA_mem e, rfl⟩)]
theorem fold_keys (name : Str) : ∀ (g : List Str) (l : List (Str × List Str)), (g.foldl (addN name) l).map (·.1) = l.map (·.1)
  | [], l => rfl
  | a :: g, l => by rw [List.foldl_cons, fold_keys name g, addN_keys]
/-- the rows, in fresh lists -/
structure OutNew (H Hx : Hp) (o : Addr) (ko : List (Str × OT)) (l : List (Str × List Str)) : Prop where
  a : OutAt Hx o ko
  w : koW ko = l
  f : ∀ e ∈ ko, H e.2.1 = none ∧ e.2.1 ≠ o
theorem gone_q {u : Stp} (h : u.wd = ("quit" : Str)) : goneL u = [u.pr] := by
  cases u with
  | bg z => exact absurd (show wBegin = ("quit" : Str) from h) (by decide +kernel)
  | qt z => rfl
  | rd z t => exact absurd (show wRead = ("quit" : Str) from h) (by decide +kernel)
  | cl z ts => exact absurd (show wClose = ("quit" : Str) from h) (by decide +kernel)
theorem gone_n {u : Stp} (h : ¬ (u.wd = ("quit" : Str))) : goneL u = [] := by
  cases u with
  | bg z => rfl
  | qt z => exact absurd (show wQuit = ("quit" : Str) from wd_eq.2.1) h
  | rd z t => rfl
  | cl z ts => rfl
theorem outF_snoc (gone : List Str) (l : List (Str × List Str)) (e : Str × List Str) : outF gone (l ++ [e]) = if e.1 ∈ gone then outF gone l else outF gone l ++ [(e.1, e.2.filter fun y => !decide (y ∈ gone))] := by
  unfold outF
  rw [List.filter_append, List.map_append]
  by_cases h : e.1 ∈ gone
  · rw [if_pos h, List.filter_cons, if_neg (by simp [h])]
    exact List.append_nil _
  · rw [if_neg h, List.filter_cons, if_pos (by simp [h])]
    rfl
theorem outF_keys (gone : List Str) (l : List (Str × List Str)) : (outF gone l).map (·.1) = (l.map (·.1)).filter fun y => !decide (y ∈ gone) := by
  unfold outF
  rw [List.map_map, List.filter_map]
  rfl
theorem koW_put (ko : List (Str × OT)) (z : Str) (a : Addr) (U : List Str) : koW (putA ko z (a, U)) = putA (koW ko) z U := by
  unfold koW putA
  have e : ((ko.map fun e => (e.1, e.2.2)).any fun e => decide (e.1 = z)) = ko.any fun e => decide (e.1 = z) := by rw [List.any_map]; rfl
  rw [e]
  by_cases h : (ko.any fun e => decide (e.1 = z)) = true
  · rw [if_pos h, if_pos h, List.map_map, List.map_map]
    refine List.map_congr_left fun e _ => ?_
    show ((if e.1 = z then (e.1, (a, U)) else e).1, (if e.1 = z then (e.1, (a, U)) else e).2.2) = if e.1 = z then (e.1, U) else (e.1, e.2.2)
    split <;> rfl
  · rw [if_neg h, if_neg h, List.map_append]
    rfl
theorem valA_koW (ko : List (Str × OT)) (z : Str) : valA (koW ko) z = (valA ko z).map (·.2) := by
  induction ko with
  | nil => rfl
  | cons p r ih =>
    show valA ((p.1, p.2.2) :: koW r) z = _
    rw [valA_cons, valA_cons, ih]
    by_cases c : p.1 = z
    · rw [if_pos c, if_pos c]; rfl
    · rw [if_neg c, if_neg c]
theorem stKV_ne {ko : List (Str × OT)} {lr le la lo : Addr} {n : Nat} : ko.map (entA fun a : OT => V.ref a.1) ≠ stKV lr le la lo n := fun e => by
  have h : ((.inr "used" : Key), V.int (n : Int)) ∈ stKV lr le la lo n := by
    unfold stKV
    simp
  rw [← e] at h
  obtain ⟨p, _, h⟩ := List.mem_map.mp h
  injection h with _ h
  cases h
theorem key_new {β : Type} {l : List (Str × β)} (n : (l.map (·.1)).Nodup) {i : Nat} {e : Str × β} (h : l[i]? = some e) : e.1 ∉ (l.take i).map (·.1) := fun hm => by
  obtain ⟨j, hj, ej⟩ := List.mem_iff_getElem.mp hm
  rw [List.length_map, List.length_take] at hj
  rw [List.getElem_map, List.getElem_take] at ej
  obtain ⟨hi, ei⟩ := List.getElem?_eq_some_iff.mp h
  exact (List.pairwise_iff_getElem.mp n) j i (by rw [List.length_map]; omega) (by rw [List.length_map]; exact hi) (by omega) (by rw [List.getElem_map, List.getElem_map, ej, ei])
theorem outF_len (gone : List Str) (l : List (Str × List Str)) : (outF gone l).length ≤ l.length := by
  unfold outF
  rw [List.length_map]
  exact List.length_filter_le _ _
theorem koW_len (ko : List (Str × OT)) : (koW ko).length = ko.length := by
  unfold koW
  rw [List.length_map]
theorem sqT_off {K : PySem.W.Frag} {s a : Addr} {kvs : List (Key × V)} {H H' : Hp} {xs : List V} (o : Off s H H') (hs : H s = some (.dK kvs)) (h : SqT K H a xs) : SqT K H' a xs := by
  rcases h with (h | ⟨u, h⟩) | h
  · exact .inl (.inl (o _ _ h fun e => by rw [e, hs] at h; cases h))
  · exact .inl (.inr ⟨u, o _ _ h fun e => by rw [e, hs] at h; cases h⟩)
  · exact .inr h
theorem addN_rows {name : Str} {l : List (Str × List Str)} {one : Str} {c : Nat} (h : ∀ e ∈ l, e.2.length ≤ c) : ∀ e ∈ addN name l one, e.2.length ≤ c + 1 := by
  unfold addN
  cases ev : valA l one with
  | none => exact fun e he => Nat.le_succ_of_le (h e he)
  | some r =>
    show ∀ e ∈ (if name ∈ r then l else putA l one (r ++ [name])), e.2.length ≤ c + 1
    intro e he
    by_cases m : name ∈ r
    · rw [if_pos m] at he
      exact Nat.le_succ_of_le (h e he)
    · rw [if_neg m] at he
      rcases putA_in he with rfl | he
      · have := h _ (valA_mem ev)
        show (r ++ [name]).length ≤ c + 1
        rw [List.length_append]
        exact Nat.succ_le_succ this
      · exact Nat.le_succ_of_le (h e he)
theorem fold_rows {name : Str} : ∀ (g : List Str) {l : List (Str × List Str)} {c : Nat}, (∀ e ∈ l, e.2.length ≤ c) → ∀ e ∈ g.foldl (addN name) l, e.2.length ≤ c + g.length
  | [], l, c, h => h
  | a :: g, l, c, h => fun e he => by
    have := fold_rows g (addN_rows (one := a) (name := name) h) e he
    rw [List.length_cons]
    omega
theorem outF_rows {gone : List Str} {l : List (Str × List Str)} {c : Nat} (h : ∀ e ∈ l, e.2.length ≤ c) : ∀ e ∈ outF gone l, e.2.length ≤ c := fun e he => by
  unfold outF at he
  obtain ⟨u, hu, rfl⟩ := List.mem_map.mp he
  exact Nat.le_trans (List.length_filter_le _ _) (h u (List.mem_filter.mp hu).1)
/-- a row put -/
theorem OutNew.put {H Hx Hy : Hp} {o D : Addr} {ko : List (Str × OT)} {l : List (Str × List Str)} {z : Str} {r : List Str} (x : OutNew H Hx o ko l) (s : Same Hx Hy) (hD : Hy D = some (.lst (r.map V.str))) (n : H D = none) (ne : D ≠ o) :
    OutNew H (upd Hy o (.dK (putK (ko.map (entA fun a : OT => V.ref a.1)) (.inr z) (.ref D)))) o (putA ko z (D, r)) (putA l z r) := by
  refine ⟨⟨by rw [upd_same, putA_map], fun e he => ?_⟩, by rw [koW_put, x.w], fun e he => ?_⟩
  · rcases putA_in he with rfl | he
    · show (upd Hy o _) D = _
      rw [upd_ne ne]
      exact hD
    · rw [upd_ne (x.f e he).2]
      exact s _ _ (x.a.u e he)
  · rcases putA_in he with rfl | he
    · exact ⟨n, ne⟩
    · exact x.f e he
abbrev s_taken : Stmt := topS 73
abbrev N_taken : List Str := ["_law_state", "_law_step", "_law_name", "_law_out", "_law_gone", "_law_one", "_law_row", "_law_act", "_law_two", "_law_thing"]
theorem sc_taken : FnScope N_taken ["_law_state", "_law_step"] (defScope s_taken) := ⟨rfl, rfl, rfl, by decide +kernel, rfl, by decide +kernel, by decide +kernel⟩
def spTaken (K : PySem.W.Frag) : Sp := fun vs H Q _ => ∃ (av : Addr → Prop) (s a : Addr) (L : Lst) (u : Stp), vs = [.ref s, .ref a] ∧ LsAv av K H s L ∧ StAt K H a u.ps ∧ L.acts.length ≤ 1000 ∧ L.run.length ≤ 100 ∧ L.ends.length ≤ 100 ∧ u.ts.length ≤ 100 ∧ (L.out.map (·.1)).Nodup ∧ L.out.length ≤ 100 ∧ (∀ e ∈ L.out, e.2.length ≤ 100) ∧ (∀ x ∈ L.acts, x.1 ∈ L.out.map (·.1)) ∧ (∀ z, u = .bg z → z ∉ L.out.map (·.1)) ∧
  ∀ g H', HitOf L u g → Off s H H' → LsAv (avN av H) K H' s (tkL L u g) → Q .non H'
section
variable {P : Program} {w : World} {K : PySem.W.Frag} {mg : Str → Option Value} {base : Heap}
theorem ok_taken {f : Addr} {fd : FuncData} (F : Fun K "_law_taken" "_law_taken" s_taken f fd) (C_clashing : Cal P w K mg base "_law_clashing" 1 (spClashing K)) : FnOk P w K mg base CX0 2 f fd ["_law_state", "_law_step"] (spTaken K) := by
  refine F.ok sc_taken (fun vs H Q E h => ?_) (fun cdv A outer s H vs Q E hr h => ?_)
  · obtain ⟨av, s, a, L, u, rfl, _⟩ := h
    rfl
  · obtain ⟨av, s, a, L, u, rfl, ls, st, l1, lr1, le1, lt1, on, o1, or1, oh, ob, q⟩ := h
    obtain ⟨lr, le, la, lo, ka, ko, x, ax⟩ := id ls
    obtain ⟨xs, hxs, hx0, hx1⟩ := sAt st
    refine ⟨_, (pss_cons (ps_set (i := 2) sc_taken.nd rfl (Or.inr rfl) (pe_ix (show IxR _ (rIxT K) from ix_tup) (pv 1) pe_int (fun _ _ => rfl)))
      (pss_cons (ps_set (i := 3) sc_taken.nd rfl (Or.inl rfl) pe_dnewK)
      (pss_cons (ps_set (i := 4) sc_taken.nd rfl (Or.inr rfl) (pe_lst pa_nil))
      (pss_cons (ps_if (pt_cmpR op_eq (pe_ix (show IxR _ (rIxT K) from ix_tup) (pv 1) pe_int (fun _ _ => rfl)) pe_str (nomark _))
        (pss_one (ps_set (i := 4) sc_taken.nd rfl (Or.inr rfl) (pe_lst (pa_cons (pv 2) pa_nil))))
        pss_nil)
      (pss_cons (ps_lock (ps_for PassesOwn.never rfl (pi_keys (pe_dget (hu_of hr) (pv 0) pe_str (fun _ _ => rfl))) (pg_name (i := 5) sc_taken.nd rfl (Or.inl rfl))
        (pss_one (ps_if (pt_cmpR (show OpR _ _ (rIn K true) from op_notIn_seq) (pv 5) (pv 4) (by rfl))
          (pss_cons (ps_set (i := 6) sc_taken.nd rfl (Or.inl rfl) (pe_dget (hu_of hr) (pe_dget (hu_of hr) (pv 0) pe_str (fun _ _ => rfl)) (pv 5) (fun _ _ => rfl)))
          (pss_one (ps_dput (hu_of hr) (pv 3) (pv 5) (pe_lc (own := [("_law_two", 8)]) (g := gName 8) (tt := _) rfl sc_taken.nd (pi_list (pv 6)) (blkOk_by (own := [("_law_two", 8)]) (N := N_taken) (sc := defScope s_taken) (by decide +kernel)) (fun _ _ _ _ _ => pg_name (i := 8) sc_taken.nd rfl (Or.inl rfl)) (fun _ _ _ _ _ => (pts_one (pt_cmpR (show OpR _ _ (rIn K true) from op_notIn_seq) (pv 8) (pv 4) (by rfl)))) (fun _ _ _ _ _ => (pv 8))) rfl)))
          pss_nil))))
      (pss_cons (ps_for PassesOwn.never rfl (pi_list (pe_cal C_clashing (hr.mono (by decide)) (by rfl) (pa_cons (pv 0) (pa_cons (pv 1) pa_nil)))) (pg_name (i := 5) sc_taken.nd rfl (Or.inl rfl))
        (pss_one (ps_if (pt_cmpR (show OpR _ _ (rIn K true) from op_notIn_seq) (pv 2) (pe_dget (hu_of hr) (pv 3) (pv 5) (fun _ _ => rfl)) rfl)
          (pss_one (ps_dput (hu_of hr) (pv 3) (pv 5) (pe_op op_cat (pe_dget (hu_of hr) (pv 3) (pv 5) (fun _ _ => rfl)) (pe_lst (pa_cons (pv 2) pa_nil))) rfl))
          pss_nil)))
      (pss_cons (ps_if (pt_cmpR op_eq (pe_ix (show IxR _ (rIxT K) from ix_tup) (pv 1) pe_int (fun _ _ => rfl)) pe_str (nomark _))
        (pss_cons (ps_dput (hu_of hr) (pv 3) (pv 2) (pe_lst pa_nil) rfl)
        (pss_cons (ps_dput (hu_of hr) (pv 0) pe_str (pe_op op_cat (pe_dget (hu_of hr) (pv 0) pe_str (fun _ _ => rfl)) (pe_lst (pa_cons (pv 2) pa_nil))) rfl)
        (pss_one (ps_dput (hu_of hr) (pv 0) pe_str (pe_op op_add (pe_dget (hu_of hr) (pv 0) pe_str (fun _ _ => rfl)) pe_int) rfl))))
        pss_nil)
      (pss_cons (ps_if (pt_cmpR op_eq (pe_ix (show IxR _ (rIxT K) from ix_tup) (pv 1) pe_int (fun _ _ => rfl)) pe_str (nomark _))
        (pss_one (ps_dput (hu_of hr) (pv 0) pe_str (pe_op op_cat (pe_dget (hu_of hr) (pv 0) pe_str (fun _ _ => rfl)) (pe_lst (pa_cons (pe_tup (pa_cons (pv 2) (pa_cons (pe_ix (show IxR _ (rIxT K) from ix_tup) (pv 1) pe_int (fun _ _ => rfl)) (pa_cons pe_int pa_nil)))) pa_nil))) rfl))
        pss_nil)
      (pss_cons (ps_if (pt_cmpR op_eq (pe_ix (show IxR _ (rIxT K) from ix_tup) (pv 1) pe_int (fun _ _ => rfl)) pe_str (nomark _))
        (pss_cons (ps_dput (hu_of hr) (pv 0) pe_str (pe_op op_cat (pe_dget (hu_of hr) (pv 0) pe_str (fun _ _ => rfl)) (pe_lc (own := [("_law_thing", 9)]) (g := gName 9) (tt := tYes) rfl sc_taken.nd (pi_tup (pe_ix (show IxR _ (rIxT K) from ix_tup) (pv 1) pe_int (fun _ _ => rfl))) (blkOk_by (own := [("_law_thing", 9)]) (N := N_taken) (sc := defScope s_taken) (by decide +kernel)) (fun _ _ _ _ _ => pg_name (i := 9) sc_taken.nd rfl (Or.inl rfl)) (fun _ _ _ _ _ => pts_nil) (fun _ _ _ _ _ => (pe_tup (pa_cons (pv 2) (pa_cons (pv 9) (pa_cons pe_int pa_nil))))))) rfl)
        (pss_one (ps_dput (hu_of hr) (pv 0) pe_str (pe_op op_cat (pe_dget (hu_of hr) (pv 0) pe_str (fun _ _ => rfl)) (pe_lst (pa_cons (pv 2) pa_nil))) rfl)))
        pss_nil)
      (pss_cons (ps_if (pt_cmpR op_eq (pe_ix (show IxR _ (rIxT K) from ix_tup) (pv 1) pe_int (fun _ _ => rfl)) pe_str (nomark _))
        (pss_one (ps_dput (hu_of hr) (pv 0) pe_str (pe_lc (own := [("_law_act", 7)]) (g := gName 7) (tt := _) rfl sc_taken.nd (pi_list (pe_dget (hu_of hr) (pv 0) pe_str (fun _ _ => rfl))) (blkOk_by (own := [("_law_act", 7)]) (N := N_taken) (sc := defScope s_taken) (by decide +kernel)) (fun _ _ _ _ _ => pg_name (i := 7) sc_taken.nd rfl (Or.inl rfl)) (fun _ _ _ _ _ => (pts_one (pt_cmpR op_ne (pe_ix (show IxR _ (rIxT K) from ix_tup) (pv 7) pe_int (fun _ _ => rfl)) (pv 2) (nomark _)))) (fun _ _ _ _ _ => (pv 7))) rfl))
        pss_nil)
      (pss_cons (ps_if (PW.pt (pw_or (pt_cmpR op_eq (pe_ix (show IxR _ (rIxT K) from ix_tup) (pv 1) pe_int (fun _ _ => rfl)) pe_str (nomark _)) (pw_or1 (pt_cmpR op_eq (pe_ix (show IxR _ (rIxT K) from ix_tup) (pv 1) pe_int (fun _ _ => rfl)) pe_str (nomark _)))))
        (pss_one (ps_dput (hu_of hr) (pv 0) pe_str (pe_lc (own := [("_law_one", 5)]) (g := gName 5) (tt := _) rfl sc_taken.nd (pi_list (pe_dget (hu_of hr) (pv 0) pe_str (fun _ _ => rfl))) (blkOk_by (own := [("_law_one", 5)]) (N := N_taken) (sc := defScope s_taken) (by decide +kernel)) (fun _ _ _ _ _ => pg_name (i := 5) sc_taken.nd rfl (Or.inl rfl)) (fun _ _ _ _ _ => (pts_one (pt_cmpR op_ne (pv 5) (pv 2) (nomark _)))) (fun _ _ _ _ _ => (pv 5))) rfl))
        pss_nil)
      (pss_one (ps_dput (hu_of hr) (pv 0) pe_str (pv 3) rfl))))))))))))), ?_⟩
    refine ⟨_, rfl, a, xs, ((1 : Nat) : Int), _, rfl, rfl, hxs, atI_nat hx1, fun o no => ⟨by show 0 ≤ sizeLine; decide, fun ga nga0 => ?_⟩⟩
    have so : Same H (upd H o (.dK [])) := same_upd no
    have eo : (upd H o (.dK [])) o = some (.dK []) := upd_same
    generalize upd H o (.dK []) = Ha at so eo nga0 ⊢
    have sg : Same Ha (upd Ha ga (.lst [])) := same_upd nga0
    have eg : (upd Ha ga (.lst [])) ga = some (.lst []) := upd_same
    generalize upd Ha ga (.lst []) = H1 at sg eg ⊢
    have s1 := so.trans sg
    have eo := sg _ _ eo
    have nga := none_of so nga0
    clear sg nga0
    have ol : o ≠ lo := ne_comm.mp (ne_of_none x.o.d no)
    have sl : s ≠ lo := fun e => by
      have h1 := x.s
      rw [e, x.o.d] at h1
      injection h1 with h1
      injection h1 with h1
      exact stKV_ne h1
    have kn : (ko.map (·.1)).Nodup := by rw [← koW_keys, x.ow]; exact on
    have k1 : ko.length ≤ 100 := by have := congrArg List.length x.ow; unfold koW at this; rw [List.length_map] at this; omega
    have kr : ∀ e ∈ ko, e.2.2.length ≤ 100 := fun e he => or1 (e.1, e.2.2) (by rw [← x.ow]; exact List.mem_map.mpr ⟨e, he, rfl⟩)
    refine ⟨_, rfl, a, xs, ((0 : Nat) : Int), _, rfl, rfl, Same.tupS s1 hxs, atI_nat hx0, rfl, _, rfl, ?_⟩
    rw [strV]
    refine iteB (fun h => ?_) (fun h => ?_)
    have gq := gone_q (of_decide_eq_true h)
    refine ⟨_, rfl, by show 1 ≤ sizeLine; decide, fun ga nga => ?_⟩
    have nga := none_of s1 nga
    have sg : Same H1 (upd H1 ga (.lst [V.str u.pr])) := same_upd (by assumption)
    have eg : (upd H1 ga (.lst [V.str u.pr])) ga = some (.lst ((goneL u).map V.str)) := by rw [upd_same, gq]; rfl
    generalize upd H1 ga (.lst [V.str u.pr]) = H2 at sg eg ⊢
    have s1 := s1.trans sg
    have eo := sg _ _ eo
    clear h sg
    rotate_left
    have gq := gone_n (of_decide_eq_false h)
    rw [show ([] : List V) = (goneL u).map V.str by rw [gq]; rfl] at eg
    revert s1 eo eg
    generalize H1 = H2
    intro eg s1 eo
    clear h
    all_goals
      refine ⟨lo, _, s1 _ _ x.o.d, trivial, fun od => ?_⟩
      have fz : (upd H2 lo (.frz od (.dK (ko.map (entA fun a : OT => V.ref a.1))))) lo = some (.frz od (.dK (ko.map (entA fun a : OT => V.ref a.1)))) := upd_same
      have unl : ∀ {Hx : Hp}, Off o (upd H2 lo (.frz od (.dK (ko.map (entA fun a : OT => V.ref a.1))))) Hx → Same H (upd Hx lo (.dK (ko.map (entA fun a : OT => V.ref a.1)))) := fun {Hx} off b v e => by
        by_cases c : b = lo
        · rw [c, upd_same, ← x.o.d, ← e, c]
        · rw [upd_ne c]
          exact off b v (by rw [upd_ne c]; exact s1 _ _ e) (ne_of_none e no)
      have ft : ∀ {b v}, H2 b = some v → (∀ kvs, v ≠ .dK kvs) → (upd H2 lo (.frz od (.dK (ko.map (entA fun a : OT => V.ref a.1))))) b = some v := fun {b v} e ne => by
        rw [upd_ne (fun c => by rw [c, s1 _ _ x.o.d] at e; injection e with e; exact ne _ e.symm)]
        exact e
      have es : (upd H2 lo (.frz od (.dK (ko.map (entA fun a : OT => V.ref a.1))))) s = some (.dK (stKV lr le la lo L.used)) := by rw [upd_ne sl]; exact s1 _ _ x.s
      have eo2 : (upd H2 lo (.frz od (.dK (ko.map (entA fun a : OT => V.ref a.1))))) o = some (.dK []) := by rw [upd_ne ol]; exact eo
      have eg2 := ft eg (fun _ z => nomatch z)
      have er2 : ∀ e ∈ ko, (upd H2 lo (.frz od (.dK (ko.map (entA fun a : OT => V.ref a.1))))) e.2.1 = some (.lst (e.2.2.map V.str)) := fun e he => ft (s1 _ _ (x.o.u e he)) (fun _ z => nomatch z)
      have fr2 : ∀ {b}, (upd H2 lo (.frz od (.dK (ko.map (entA fun a : OT => V.ref a.1))))) b = none → H b = none := fun {b} h => none_of s1 (by
        rw [upd_ne (fun c => by rw [c, upd_same] at h; cases h)] at h
        exact h)
      generalize upd H2 lo (.frz od (.dK (ko.map (entA fun a : OT => V.ref a.1)))) = H3 at fz unl es eo2 eg2 er2 fr2 ⊢
      have so : s ≠ o := ne_of_none x.s no
      have go : ga ≠ o := fun e => by rw [e, eo2] at eg2; cases eg2
      refine ⟨_, rfl, s, _, rfl, (by have := DGet.k (k := .inr "out") es; rwa [st_out] at this), lo, od, rfl, .inl ⟨_, fz, ?_⟩⟩
      refine for_it walk_keys (fun i σ Hx => ∃ (x5 x6 : Option V) (ko' : List (Str × OT)), σ = [some (.ref s), some (.ref a), some (.str u.pr), some (.ref o), some (.ref ga), x5, x6, none, none, none] ∧ Off o H3 Hx ∧ OutNew H Hx o ko' (outF (goneL u) (koW (ko.take i))))
        ⟨none, none, [], rfl, Off.refl, ⟨⟨eo2, fun _ h => nomatch h⟩, rfl, fun _ h => nomatch h⟩⟩ (fun i σ Hx _ ⟨_, _, _, _, off, _⟩ => off _ _ fz (Ne.symm ol)) ?_ ?_
      · rintro i v σ Hx Hx' hi ⟨x5, x6, ko', rfl, off, on'⟩ ⟨rfl, k0, v0, hkv, rfl⟩
        rw [List.getElem?_map] at hkv
        obtain ⟨e, he, eq⟩ := Option.map_eq_some_iff.mp hkv
        injection eq with e1 e2
        subst e1 e2
        have em := List.mem_of_getElem? he
        have tk : koW (ko.take (i + 1)) = koW (ko.take i) ++ [(e.1, e.2.2)] := by
          rw [take_snoc he]
          unfold koW
          rw [List.map_append]
          rfl
        refine ⟨_, rfl, _, rfl, ga, _, rfl, .inl (.inl (.inl (off _ _ eg2 go))), rfl, txt_flat (goneL u), _, rfl, ?_⟩
        rw [if_pos rfl, show kV (Sum.inr e.1) = V.str e.1 from rfl, inV_txt]
        refine iteB (fun h => ?_) (fun h => ?_)
        · have hn : e.1 ∉ goneL u := by simpa using h
          have n3 : ∀ {b}, Hx' b = none → H3 b = none := fun {b} nb => by
            cases c : H3 b with
            | none => rfl
            | some v =>
              by_cases co : b = o
              · rw [co, on'.a.d] at nb
                cases nb
              · rw [off _ _ c co] at nb
                cases nb
          have er := off _ _ (er2 e em) (ne_of_none (x.o.u e em) no)
          refine ⟨_, rfl, s, _, rfl, (by have := DGet.k (k := .inr "out") (off _ _ es so); rwa [st_out] at this), _, rfl, lo, _, rfl, .inl ⟨_, .inr e.1, .inr ⟨od, off _ _ fz (Ne.symm ol)⟩, rfl, (by rw [valA_map, valA_at kn em]; rfl)⟩, ?_⟩
          refine ⟨_, rfl, e.2.1, rfl, ⟨_, .inl (.inl er)⟩, fun D nD => ?_⟩
          have rl := kr e em
          refine lc_list (K := K) (a := e.2.1) (xs := e.2.2.map V.str) (fun j Hy => Same Hx' Hy ∧ Hy D = some (.lst (((e.2.2.take j).filter fun y => !decide (y ∈ goneL u)).map V.str))) ⟨same_upd nD, upd_same⟩ (fun j Hy _ ⟨sy, _⟩ => .inl (.inl (sy _ _ er))) ?_ ?_
          · rintro j v Hy hv ⟨sy, dy⟩
            obtain ⟨y, hy, rfl⟩ := strs_at hv
            refine ⟨rfl, _, rfl, _, rfl, ga, _, rfl, .inl (.inl (.inl (sy _ _ (off _ _ eg2 go)))), rfl, txt_flat (goneL u), _, rfl, ?_⟩
            rw [if_pos rfl, inV_txt]
            refine iteB (fun h => ?_) (fun h => ?_)
            · refine ⟨_, rfl, _, dy, by rw [List.length_map]; exact sz8 (by have := filt_len (l := e.2.2) (c := fun y => !decide (y ∈ goneL u)) j; omega), same_mut sy nD, ?_⟩
              rw [upd_same, filt_yes hy h, List.map_append]
              rfl
            · rw [filt_no hy h]
              exact ⟨sy, dy⟩
          rintro Hy ⟨sy, dy⟩
          rw [List.length_map, List.take_length] at dy
          have kl : ko'.length ≤ 100 := by
            have h1 := outF_len (goneL u) (koW (ko.take i))
            have h2 := koW_len (ko.take i)
            have h3 := koW_len ko'
            rw [on'.w] at h3
            rw [List.length_take] at h2
            omega
          refine ⟨_, rfl, _, rfl, o, _, rfl, DPut.k (k := .inr e.1) (sy _ _ on'.a.d) (by rw [List.length_map]; exact sz8 (by omega)), _, _, putA ko' e.1 (D, e.2.2.filter fun y => !decide (y ∈ goneL u)), rfl, (off.trans (Off.of sy)).trans Off.put, ?_⟩
          rw [tk, outF_snoc, if_neg hn, ← putA_new (k := e.1) (by
            rw [outF_keys, koW_keys]
            exact fun hm => key_new kn he (List.mem_filter.mp hm).1)]
          exact on'.put sy dy (fr2 (n3 nD)) (fun c => by rw [c, on'.a.d] at nD; cases nD)
        · have hm : e.1 ∈ goneL u := by simpa using h
          refine ⟨_, x6, ko', rfl, off, ?_⟩
          rw [tk, outF_snoc, if_pos hm]
          exact on'
      · rintro σ Hx ⟨x5, x6, ko', rfl, off, on'⟩
        rw [List.length_map, List.take_length, x.ow] at on'
        refine ⟨off _ _ fz (Ne.symm ol), ?_⟩
        have sB := unl off
        have onB : OutNew H (upd Hx lo (.dK (ko.map (entA fun a : OT => V.ref a.1)))) o ko' (outF (goneL u) L.out) := by
          refine ⟨⟨by rw [upd_ne ol]; exact on'.a.d, fun e he => ?_⟩, on'.w, on'.f⟩
          rw [upd_ne (fun c => by
            have := (on'.f e he).1
            rw [c, x.o.d] at this
            cases this)]
          exact on'.a.u e he
        clear on' off unl fz eo2 eg2 er2 fr2 es
        generalize upd Hx lo (.dK (ko.map (entA fun a : OT => V.ref a.1))) = H4 at sB onB ⊢
        refine ⟨_, rfl, _, rfl, av, s, a, L, u, rfl, ls.same sB, st.same sB, l1, fun g l H5 hg nl s5 e5 => ?_⟩
        have nlH := none_of sB nl
        have gin : ∀ y ∈ g, y ∈ (outF (goneL u) L.out).map (·.1) := fun y hy => by
          obtain ⟨act, ha, rfl, hh⟩ := (hg.m y).mp hy
          rw [outF_keys]
          refine List.mem_filter.mpr ⟨oh act ha, ?_⟩
          cases u with
          | qt z => unfold hitA at hh; simp at hh
          | bg z => rfl
          | rd z t => rfl
          | cl z ts => rfl
        have lo5 : l ≠ o := fun e => by rw [e, onB.a.d] at nl; cases nl
        have gl : g.length ≤ 100 := by
          have h1 := nd_len g _ hg.nd gin
          have h2 := outF_len (goneL u) L.out
          rw [List.length_map] at h1
          omega
        have n5 : ∀ {Hy : Hp}, Off o H5 Hy → ∀ {kvs}, Hy o = some (.dK kvs) → ∀ {b}, Hy b = none → H b = none := fun {Hy} off {kvs} ho {b} nb => none_of (sB.trans s5) (by
          cases c : H5 b with
          | none => rfl
          | some v =>
            by_cases co : b = o
            · rw [co, ho] at nb
              cases nb
            · rw [off _ _ c co] at nb
              cases nb)
        refine ⟨l, rfl, ⟨_, .inl (.inl e5)⟩, ?_⟩
        refine for_list (xs := g.map V.str) (fun i σ Hy => ∃ (x5 : Option V) (ko2 : List (Str × OT)), σ = [some (.ref s), some (.ref a), some (.str u.pr), some (.ref o), some (.ref ga), x5, x6, none, none, none] ∧ Off o H5 Hy ∧ OutNew H Hy o ko2 ((g.take i).foldl (addN u.pr) (outF (goneL u) L.out)))
          ⟨x5, ko', rfl, Off.refl, ⟨onB.a.same s5, onB.w, onB.f⟩⟩ (fun i σ Hy _ ⟨_, _, _, off, _⟩ => .inl (.inl (off _ _ e5 lo5))) ?_ ?_
        · rintro i v σ Hy hv ⟨x5, ko2, rfl, off, on2⟩
          obtain ⟨y, hy, rfl⟩ := strs_at hv
          have yk : y ∈ ((g.take i).foldl (addN u.pr) (outF (goneL u) L.out)).map (·.1) := by rw [fold_keys]; exact gin y (List.mem_of_getElem? hy)
          have fr : ∀ e ∈ (g.take i).foldl (addN u.pr) (outF (goneL u) L.out), e.2.length ≤ 300 := fun e he => by
            have h1 := fold_rows (g.take i) (name := u.pr) (outF_rows (gone := goneL u) or1) e he
            rw [List.length_take] at h1
            omega
          have fl : ((g.take i).foldl (addN u.pr) (outF (goneL u) L.out)).length ≤ 100 := by
            have h1 := congrArg List.length (fold_keys u.pr (g.take i) (outF (goneL u) L.out))
            rw [List.length_map, List.length_map] at h1
            have h2 := outF_len (goneL u) L.out
            omega
          have ts : (g.take (i + 1)).foldl (addN u.pr) (outF (goneL u) L.out) = addN u.pr ((g.take i).foldl (addN u.pr) (outF (goneL u) L.out)) y := by
            rw [take_snoc hy, List.foldl_append]
            rfl
          rw [ts]
          generalize (g.take i).foldl (addN u.pr) (outF (goneL u) L.out) = F at on2 yk fr fl ⊢
          obtain ⟨r, er⟩ : ∃ r, valA F y = some r := by
            cases c : valA F y with
            | none => exact absurd yk (valA_none.mp c)
            | some r => exact ⟨r, rfl⟩
          obtain ⟨b, eb⟩ : ∃ b, valA ko2 y = some (b, r) := by
            rw [← on2.w, valA_koW] at er
            obtain ⟨p, h1, h2⟩ := Option.map_eq_some_iff.mp er
            exact ⟨p.1, by rw [h1, ← h2]⟩
          have rb := on2.a.u _ (valA_mem eb)
          have rl := fr _ (valA_mem er)
          have rl : r.length ≤ 300 := rl
          have dg : ∀ {Hz : Hp}, Same Hy Hz → DGet Hz o (.str y) (some (.ref b)) := fun sz => by
            have := DGet.k (k := .inr y) (sz _ _ on2.a.d)
            rwa [valA_map, eb] at this
          refine ⟨_, rfl, _, rfl, _, rfl, o, _, rfl, dg (Same.refl Hy), b, _, rfl, .inl (.inl (.inl rb)), rfl, txt_flat r, _, rfl, ?_⟩
          rw [if_pos rfl, inV_txt]
          refine iteB (fun h => ?_) (fun h => ?_)
          · have hn : u.pr ∉ r := by simpa using h
            refine ⟨_, rfl, _, rfl, o, _, rfl, dg (Same.refl Hy), _, rfl, by show 1 ≤ sizeLine; decide, fun b1 nb1 => ?_⟩
            have t1 : Same Hy (upd Hy b1 (.lst [V.str u.pr])) := same_upd nb1
            have f1 : (upd Hy b1 (.lst [V.str u.pr])) b1 = some (.lst [V.str u.pr]) := upd_same
            generalize upd Hy b1 (.lst [V.str u.pr]) = Hz at t1 f1 ⊢
            refine ⟨b, b1, _, _, rfl, rfl, t1 _ _ rb, f1, sz9 (by rw [List.length_map]; show r.length + 1 ≤ 100000; omega), fun b2 nb2 => ?_⟩
            have t2 : Same Hz (upd Hz b2 (.lst (r.map V.str ++ [V.str u.pr]))) := same_upd nb2
            have f2 : (upd Hz b2 (.lst (r.map V.str ++ [V.str u.pr]))) b2 = some (.lst ((r ++ [u.pr]).map V.str)) := by rw [upd_same, List.map_append]; rfl
            have nb0 : Hy b2 = none := none_of t1 nb2
            generalize upd Hz b2 (.lst (r.map V.str ++ [V.str u.pr])) = Hw at t2 f2 ⊢
            have t02 := t1.trans t2
            have kl : ko2.length ≤ 100 := by
              have h1 := koW_len ko2
              rw [on2.w] at h1
              omega
            refine ⟨_, rfl, _, rfl, o, _, rfl, DPut.k (k := .inr y) (t02 _ _ on2.a.d) (by rw [List.length_map]; exact sz8 (by omega)), _, putA ko2 y (b2, r ++ [u.pr]), rfl, (off.trans (Off.of t02)).trans Off.put, ?_⟩
            have := on2.put (z := y) t02 f2 (n5 off on2.a.d nb0) (fun c => by rw [c, on2.a.d] at nb0; cases nb0)
            unfold addN
            rw [er]
            show OutNew H _ o _ (if u.pr ∈ r then F else putA F y (r ++ [u.pr]))
            rw [if_neg hn]
            exact this
          · have hm : u.pr ∈ r := by simpa using h
            refine ⟨_, ko2, rfl, off, ?_⟩
            unfold addN
            rw [er]
            show OutNew H _ o _ (if u.pr ∈ r then F else putA F y (r ++ [u.pr]))
            rw [if_pos hm]
            exact on2
        · rintro σ Hy ⟨x5, ko2, rfl, off, on2⟩
          rw [List.length_map, List.take_length] at on2
          have sY : Same H Hy := fun b v e => off b v ((sB.trans s5) _ _ e) (ne_of_none e no)
          have kF : (g.foldl (addN u.pr) (outF (goneL u) L.out)).map (·.1) = (outF (goneL u) L.out).map (·.1) := fold_keys _ _ _
          have kl2 : ko2.length ≤ 100 := by
            have h1 := koW_len ko2
            rw [on2.w] at h1
            have h2 := congrArg List.length kF
            rw [List.length_map, List.length_map] at h2
            have h3 := outF_len (goneL u) L.out
            omega
          have nO : o ≠ s := ne_comm.mp so
          have fin : ∀ (H9 : Hp) (r' e' a' : Addr) (ka' : List AA) (ko' : List (Str × OT)), Same H H9 → H9 r' = some (.lst ((tkL L u g).run.map V.str)) → H9 e' = some (.lst ((tkL L u g).ends.map V.str)) → ActsAt K H9 a' ka' → ka'.map (·.2) = (tkL L u g).acts → OutNew H H9 o ko' (tkL L u g).out → avN av H r' → avN av H e' → avN av H a' → (∀ q ∈ ka', avN av H q.1) → Q .non (upd H9 s (.dK (stKV r' e' a' o (tkL L u g).used))) := by
            intro H9 r' e' a' ka' ko' s9 hr' he' ha' hka ho vr ve va vk
            have hs9 := s9 _ _ x.s
            have up : ∀ {b v}, H9 b = some v → (∀ kvs, v ≠ .dK kvs) → (upd H9 s (.dK (stKV r' e' a' o (tkL L u g).used))) b = some v := fun {b v} e ne => by
              rw [upd_ne (fun c => by rw [c, hs9] at e; injection e with e; exact ne _ e.symm)]
              exact e
            refine q g _ hg ((Off.of s9).trans Off.put) ⟨r', e', a', o, ka', ko', ⟨upd_same, up hr' (fun _ z => nomatch z), up he' (fun _ z => nomatch z), ⟨up ha'.l (fun _ z => nomatch z), fun q hq => sqT_off Off.put hs9 (ha'.t q hq)⟩, hka, ⟨(upd_ne nO).trans ho.a.d, fun e he => up (ho.a.u e he) (fun _ z => nomatch z)⟩, ho.w⟩, ⟨vr, ve, va, .inr no, vk, fun e he => .inr (ho.f e he).1⟩⟩
          have xY := x.same sY
          clear ls gin n5 ol sl kn k1 kr oh or1 on eo eg s1 sB s5 e5 nl nlH lo5 off
          cases u with
          | bg z =>
            have zF : z ∉ (g.foldl (addN z) (outF (goneL (.bg z)) L.out)).map (·.1) := fun hm => by
              have kF : (g.foldl (addN z) (outF (goneL (.bg z)) L.out)).map (·.1) = (outF (goneL (.bg z)) L.out).map (·.1) := kF
              rw [kF, outF_keys] at hm
              exact ob z rfl (List.mem_filter.mp hm).1
            refine ⟨_, rfl, a, xs, ((0 : Nat) : Int), _, rfl, rfl, Same.tupS sY hxs, atI_nat hx0, rfl, _, rfl, ?_⟩
            rw [strV]
            refine iteB (fun _ => ?_) (fun h => absurd wd_eq.1 (of_decide_eq_false h))
            refine ⟨by show 0 ≤ sizeLine; decide, fun b nb => ?_⟩
            have s6 : Same Hy (upd Hy b (.lst [])) := same_upd nb
            have e6 : (upd Hy b (.lst [])) b = some (.lst (([] : List Str).map V.str)) := upd_same
            generalize upd Hy b (.lst []) = H6 at s6 e6 ⊢
            have on3 := on2.put (z := z) s6 e6 (none_of sY nb) (fun c => by rw [c, on2.a.d] at nb; cases nb)
            refine ⟨_, rfl, _, rfl, o, _, rfl, DPut.k (k := .inr z) (s6 _ _ on2.a.d) (by rw [List.length_map]; exact sz8 (by omega)), ?_⟩
            have s7 : Same H (upd H6 o (.dK (putK (ko2.map (entA fun a : OT => V.ref a.1)) (.inr z) (.ref b)))) := same_mut (sY.trans s6) no
            generalize upd H6 o (.dK (putK (ko2.map (entA fun a : OT => V.ref a.1)) (.inr z) (.ref b))) = H7 at s7 on3 ⊢
            have x7 := x.same s7
            refine ⟨_, rfl, s, _, rfl, (by have := DGet.k (k := .inr "run") x7.s; rwa [st_run] at this), _, rfl, by show 1 ≤ sizeLine; decide, fun b1 nb1 => ?_⟩
            have t1 : Same H7 (upd H7 b1 (.lst [V.str (Stp.bg z).pr])) := same_upd nb1
            have f1 : (upd H7 b1 (.lst [V.str (Stp.bg z).pr])) b1 = some (.lst [V.str z]) := upd_same
            generalize upd H7 b1 (.lst [V.str (Stp.bg z).pr]) = H8 at t1 f1 ⊢
            refine ⟨lr, b1, _, _, rfl, rfl, t1 _ _ x7.r, f1, sz9 (by rw [List.length_map]; show L.run.length + 1 ≤ 100000; omega), fun b2 nb2 => ?_⟩
            have t2 : Same H8 (upd H8 b2 (.lst (L.run.map V.str ++ [V.str z]))) := same_upd nb2
            have f2 : (upd H8 b2 (.lst (L.run.map V.str ++ [V.str z]))) b2 = some (.lst ((L.run ++ [z]).map V.str)) := by rw [upd_same, List.map_append]; rfl
            generalize upd H8 b2 (.lst (L.run.map V.str ++ [V.str z])) = H9 at t2 f2 ⊢
            have t79 := t1.trans t2
            have s9 := s7.trans t79
            have x9 := x.same s9
            refine ⟨_, rfl, s, _, rfl, DPut.k (k := .inr "run") x9.s (by show 5 < sizeLine; decide), ?_⟩
            rw [pt_run]
            have e10 : (upd H9 s (.dK (stKV b2 le la lo L.used))) s = some (.dK (stKV b2 le la lo L.used)) := upd_same
            refine ⟨_, rfl, s, _, rfl, (by have := DGet.k (k := .inr "used") e10; rwa [st_used] at this), _, _, rfl, rfl, _, rfl, s, _, rfl, DPut.k (k := .inr "used") e10 (by show 5 < sizeLine; decide), ?_⟩
            rw [show ((fun i j : Int => V.int (i + j)) (L.used : Int) 1) = V.int ((L.used + 1 : Nat) : Int) from rfl, pt_used, upd_upd]
            have hx9 : SqT K (upd H9 s (.dK (stKV b2 le la lo (L.used + 1)))) a xs := sqT_off Off.put x9.s (Same.tupS s9 hxs)
            refine ⟨_, rfl, a, xs, ((0 : Nat) : Int), _, rfl, rfl, hx9, atI_nat hx0, rfl, _, rfl, ?_⟩
            rw [strV]
            refine iteB (fun h => absurd (of_decide_eq_true h) (by decide +kernel : ¬ (wBegin = ("read" : Str)))) (fun _ => ?_)
            refine ⟨_, rfl, a, xs, ((0 : Nat) : Int), _, rfl, rfl, hx9, atI_nat hx0, rfl, _, rfl, ?_⟩
            rw [strV]
            refine iteB (fun h => absurd (of_decide_eq_true h) (by decide +kernel : ¬ (wBegin = ("close" : Str)))) (fun _ => ?_)
            refine ⟨_, rfl, a, xs, ((0 : Nat) : Int), _, rfl, rfl, hx9, atI_nat hx0, rfl, _, rfl, ?_⟩
            rw [strV]
            refine iteB (fun h => absurd (of_decide_eq_true h) (by decide +kernel : ¬ (wBegin = ("quit" : Str)))) (fun _ => ?_)
            refine ⟨_, rfl, a, xs, ((0 : Nat) : Int), _, rfl, rfl, hx9, atI_nat hx0, rfl, _, rfl, ?_⟩
            rw [strV]
            refine iteB (fun h => absurd (of_decide_eq_true h) (by decide +kernel : ¬ (wBegin = ("quit" : Str)))) (fun _ => ?_)
            refine ⟨_, rfl, a, xs, ((0 : Nat) : Int), _, rfl, rfl, hx9, atI_nat hx0, rfl, _, rfl, ?_⟩
            rw [strV]
            refine iteB (fun h => absurd (of_decide_eq_true h) (by decide +kernel : ¬ (wBegin = ("close" : Str)))) (fun _ => ?_)
            refine ⟨_, rfl, _, rfl, s, _, rfl, DPut.k (k := .inr "out") upd_same (by show 5 < sizeLine; decide), ?_⟩
            rw [pt_out, upd_upd]
            exact fin H9 b2 le la ka (putA ko2 z (b, [])) s9 f2 x9.e x9.a x9.aw ⟨on3.a.same t79, by rw [on3.w]; exact putA_new zF [], on3.f⟩ (.inr (none_of (s7.trans t1) nb2)) (.inl ax.e) (.inl ax.a) (fun q hq => .inl (ax.ka q hq))
          | rd z t =>
            refine ⟨_, rfl, a, xs, ((0 : Nat) : Int), _, rfl, rfl, Same.tupS sY hxs, atI_nat hx0, rfl, _, rfl, ?_⟩
            rw [strV]
            refine iteB (fun h => absurd (of_decide_eq_true h) (by decide +kernel : ¬ (wRead = ("begin" : Str)))) (fun _ => ?_)
            refine ⟨_, rfl, a, xs, ((0 : Nat) : Int), _, rfl, rfl, Same.tupS sY hxs, atI_nat hx0, rfl, _, rfl, ?_⟩
            rw [strV]
            refine iteB (fun _ => ?_) (fun h => absurd wd_eq.2.2.1 (of_decide_eq_false h))
            refine ⟨_, rfl, s, _, rfl, (by have := DGet.k (k := .inr "acts") xY.s; rwa [st_acts] at this), _, rfl, _, rfl, a, _, ((2 : Nat) : Int), _, rfl, rfl, Same.tupS sY (st_rd st), atI_nat rfl, by show 3 ≤ sizeLine; decide, fun b nb => ⟨by show 1 ≤ sizeLine; decide, fun b1 nb1 => ?_⟩⟩
            have t0 : Same Hy (upd Hy b (.tup [V.str (Stp.rd z t).pr, V.str t, V.int 1])) := same_upd nb
            have f0 : (upd Hy b (.tup [V.str (Stp.rd z t).pr, V.str t, V.int 1])) b = some (.tup (actV (z, t, 1))) := upd_same
            have nbH := none_of sY nb
            generalize upd Hy b (.tup [V.str (Stp.rd z t).pr, V.str t, V.int 1]) = H6 at t0 f0 nb1 ⊢
            have t1 : Same H6 (upd H6 b1 (.lst [V.ref b])) := same_upd nb1
            have f1 : (upd H6 b1 (.lst [V.ref b])) b1 = some (.lst [V.ref b]) := upd_same
            generalize upd H6 b1 (.lst [V.ref b]) = H7 at t1 f1 ⊢
            have t01 := t0.trans t1
            have x7 := xY.same t01
            have kal : ka.length ≤ 1000 := by have := congrArg List.length x.aw; rw [List.length_map] at this; omega
            refine ⟨la, b1, _, _, rfl, rfl, x7.a.l, f1, sz9 (by rw [List.length_map]; show ka.length + 1 ≤ 100000; omega), fun b2 nb2 => ?_⟩
            have t2 : Same H7 (upd H7 b2 (.lst ((ka.map fun q : AA => V.ref q.1) ++ [V.ref b]))) := same_upd nb2
            have f2 : (upd H7 b2 (.lst ((ka.map fun q : AA => V.ref q.1) ++ [V.ref b]))) b2 = some (.lst ((ka ++ [(b, (z, t, 1))]).map fun q : AA => V.ref q.1)) := by rw [upd_same, List.map_append]; rfl
            generalize upd H7 b2 (.lst ((ka.map fun q : AA => V.ref q.1) ++ [V.ref b])) = H9 at t2 f2 ⊢
            have t09 := t01.trans t2
            have s9 := sY.trans t09
            have x9 := x.same s9
            refine ⟨_, rfl, s, _, rfl, DPut.k (k := .inr "acts") x9.s (by show 5 < sizeLine; decide), ?_⟩
            rw [pt_acts]
            have hx9 : SqT K (upd H9 s (.dK (stKV lr le b2 lo L.used))) a xs := sqT_off Off.put x9.s (Same.tupS s9 hxs)
            refine ⟨_, rfl, a, xs, ((0 : Nat) : Int), _, rfl, rfl, hx9, atI_nat hx0, rfl, _, rfl, ?_⟩
            rw [strV]
            refine iteB (fun h => absurd (of_decide_eq_true h) (by decide +kernel : ¬ (wRead = ("close" : Str)))) (fun _ => ?_)
            refine ⟨_, rfl, a, xs, ((0 : Nat) : Int), _, rfl, rfl, hx9, atI_nat hx0, rfl, _, rfl, ?_⟩
            rw [strV]
            refine iteB (fun h => absurd (of_decide_eq_true h) (by decide +kernel : ¬ (wRead = ("quit" : Str)))) (fun _ => ?_)
            refine ⟨_, rfl, a, xs, ((0 : Nat) : Int), _, rfl, rfl, hx9, atI_nat hx0, rfl, _, rfl, ?_⟩
            rw [strV]
            refine iteB (fun h => absurd (of_decide_eq_true h) (by decide +kernel : ¬ (wRead = ("quit" : Str)))) (fun _ => ?_)
            refine ⟨_, rfl, a, xs, ((0 : Nat) : Int), _, rfl, rfl, hx9, atI_nat hx0, rfl, _, rfl, ?_⟩
            rw [strV]
            refine iteB (fun h => absurd (of_decide_eq_true h) (by decide +kernel : ¬ (wRead = ("close" : Str)))) (fun _ => ?_)
            refine ⟨_, rfl, _, rfl, s, _, rfl, DPut.k (k := .inr "out") upd_same (by show 5 < sizeLine; decide), ?_⟩
            rw [pt_out, upd_upd]
            refine fin H9 lr le b2 (ka ++ [(b, (z, t, 1))]) ko2 s9 x9.r x9.e ⟨f2, fun q hq => ?_⟩ (by rw [List.map_append, x.aw]; rfl) ⟨on2.a.same t09, on2.w, on2.f⟩ (.inl ax.r) (.inl ax.e) (.inr (none_of (sY.trans t01) nb2)) (fun q hq => ?_)
            · rcases List.mem_append.mp hq with h | h
              · exact x9.a.t q h
              · rw [List.mem_singleton.mp h]
                exact .inl (.inl ((t1.trans t2) _ _ f0))
            · rcases List.mem_append.mp hq with h | h
              · exact .inl (ax.ka q h)
              · rw [List.mem_singleton.mp h]
                exact .inr nbH
          | cl z ts =>
            refine ⟨_, rfl, a, xs, ((0 : Nat) : Int), _, rfl, rfl, Same.tupS sY hxs, atI_nat hx0, rfl, _, rfl, ?_⟩
            rw [strV]
            refine iteB (fun h => absurd (of_decide_eq_true h) (by decide +kernel : ¬ (wClose = ("begin" : Str)))) (fun _ => ?_)
            refine ⟨_, rfl, a, xs, ((0 : Nat) : Int), _, rfl, rfl, Same.tupS sY hxs, atI_nat hx0, rfl, _, rfl, ?_⟩
            rw [strV]
            refine iteB (fun h => absurd (of_decide_eq_true h) (by decide +kernel : ¬ (wClose = ("read" : Str)))) (fun _ => ?_)
            refine ⟨_, rfl, a, xs, ((0 : Nat) : Int), _, rfl, rfl, Same.tupS sY hxs, atI_nat hx0, rfl, _, rfl, ?_⟩
            rw [strV]
            refine iteB (fun _ => ?_) (fun h => absurd wd_eq.2.2.2.1 (of_decide_eq_false h))
            obtain ⟨qa, hsq, hqa⟩ := st_cl st
            have lt1 : ts.length ≤ 100 := lt1
            refine ⟨_, rfl, s, _, rfl, (by have := DGet.k (k := .inr "acts") xY.s; rwa [st_acts] at this), _, rfl, a, _, ((2 : Nat) : Int), _, rfl, rfl, Same.tupS sY hsq, atI_nat rfl, qa, rfl, ⟨_, Same.tupS sY hqa⟩, fun D nD => ?_⟩
            refine lc_tup (K := K) (a := qa) (xs := ts.map V.str) (fun i Hz => ∃ as : List AA, Same Hy Hz ∧ Hz D = some (.lst (as.map fun q : AA => V.ref q.1)) ∧ (∀ q ∈ as, Hz q.1 = some (.tup (actV q.2)) ∧ Hy q.1 = none ∧ q.1 ≠ D) ∧ as.map (·.2) = (ts.take i).map fun t => (z, t, 2)) ⟨[], same_upd nD, upd_same, (fun _ h => nomatch h), rfl⟩ (fun i Hz _ ⟨_, sz, _⟩ => Same.tupS (sY.trans sz) hqa) ?_ ?_
            · rintro i v Hz hv ⟨as, sz, dz, az, ew⟩
              obtain ⟨y, hy, rfl⟩ := strs_at hv
              refine ⟨rfl, _, rfl, _, rfl, by show 3 ≤ sizeLine; decide, fun b nb => ?_⟩
              have al : as.length ≤ 100 := by
                have := congrArg List.length ew
                rw [List.length_map, List.length_map, List.length_take] at this
                omega
              have bD : b ≠ D := fun c => by rw [c, dz] at nb; cases nb
              refine ⟨_, (upd_ne (Ne.symm bD)).trans dz, by rw [List.length_map]; exact sz8 (by omega), as ++ [(b, (z, y, 2))], same_mut (sz.trans (same_upd nb)) nD, by rw [upd_same, List.map_append]; rfl, fun q hq => ?_, by rw [List.map_append, ew, take_snoc hy, List.map_append]; rfl⟩
              rcases List.mem_append.mp hq with h | h
              · obtain ⟨h1, h2, h3⟩ := az q h
                exact ⟨by rw [upd_ne h3, upd_ne (ne_of_none h1 nb)]; exact h1, h2, h3⟩
              · rw [List.mem_singleton.mp h]
                exact ⟨by show (upd _ D _) b = _; rw [upd_ne bD, upd_same]; rfl, none_of sz nb, bD⟩
            rintro H6 ⟨as, t0, d6, a6, ew⟩
            rw [List.length_map, List.take_length] at ew
            have al : as.length ≤ 100 := by
              have := congrArg List.length ew
              rw [List.length_map, List.length_map] at this
              omega
            have x6 := xY.same t0
            have kal : ka.length ≤ 1000 := by have := congrArg List.length x.aw; rw [List.length_map] at this; omega
            refine ⟨la, D, _, _, rfl, rfl, x6.a.l, d6, sz9 (by rw [List.length_map, List.length_map]; omega), fun b2 nb2 => ?_⟩
            have t2 : Same H6 (upd H6 b2 (.lst ((ka.map fun q : AA => V.ref q.1) ++ as.map fun q : AA => V.ref q.1))) := same_upd nb2
            have f2 : (upd H6 b2 (.lst ((ka.map fun q : AA => V.ref q.1) ++ as.map fun q : AA => V.ref q.1))) b2 = some (.lst ((ka ++ as).map fun q : AA => V.ref q.1)) := by rw [upd_same, List.map_append]
            generalize upd H6 b2 (.lst ((ka.map fun q : AA => V.ref q.1) ++ as.map fun q : AA => V.ref q.1)) = H7 at t2 f2 ⊢
            have t07 := t0.trans t2
            have s7 := sY.trans t07
            have x7 := x.same s7
            refine ⟨_, rfl, s, _, rfl, DPut.k (k := .inr "acts") x7.s (by show 5 < sizeLine; decide), ?_⟩
            rw [pt_acts]
            have e10 : (upd H7 s (.dK (stKV lr le b2 lo L.used))) s = some (.dK (stKV lr le b2 lo L.used)) := upd_same
            have up : ∀ {Hz : Hp} {kvs : List (Key × V)}, Hz s = some (.dK kvs) → ∀ {b v k2}, Hz b = some v → (∀ kvs, v ≠ .dK kvs) → (upd Hz s (.dK k2)) b = some v := fun {Hz kvs} hs {b v k2} e ne => by
              rw [upd_ne (fun c => by rw [c, hs] at e; injection e with e; exact ne _ e.symm)]
              exact e
            refine ⟨_, rfl, s, _, rfl, (by have := DGet.k (k := .inr "ends") e10; rwa [st_ends] at this), _, rfl, by show 1 ≤ sizeLine; decide, fun b3 nb3 => ?_⟩
            have n3 : ∀ {b k2}, (upd H7 s (.dK k2)) b = none → H7 b = none ∧ b ≠ s := fun {b k2} h => by
              have c : b ≠ s := fun c => by rw [c, upd_same] at h; cases h
              rw [upd_ne c] at h
              exact ⟨h, c⟩
            have b3s := (n3 nb3).2
            have nb3 := (n3 nb3).1
            rw [upd_comm (Ne.symm b3s)]
            have t3 : Same H7 (upd H7 b3 (.lst [V.str (Stp.cl z ts).pr])) := same_upd nb3
            have f3 : (upd H7 b3 (.lst [V.str (Stp.cl z ts).pr])) b3 = some (.lst [V.str z]) := upd_same
            generalize upd H7 b3 (.lst [V.str (Stp.cl z ts).pr]) = H8 at t3 f3 ⊢
            have x8 := x7.same t3
            refine ⟨le, b3, _, _, rfl, rfl, up x8.s x8.e (fun _ z => nomatch z), up x8.s f3 (fun _ z => nomatch z), sz9 (by rw [List.length_map]; show L.ends.length + 1 ≤ 100000; omega), fun b4 nb4 => ?_⟩
            have b4s : b4 ≠ s := fun c => by rw [c, upd_same] at nb4; cases nb4
            rw [upd_ne b4s] at nb4
            rw [upd_comm (Ne.symm b4s)]
            have t4 : Same H8 (upd H8 b4 (.lst (L.ends.map V.str ++ [V.str z]))) := same_upd nb4
            have f4 : (upd H8 b4 (.lst (L.ends.map V.str ++ [V.str z]))) b4 = some (.lst ((L.ends ++ [z]).map V.str)) := by rw [upd_same, List.map_append]; rfl
            generalize upd H8 b4 (.lst (L.ends.map V.str ++ [V.str z])) = H10 at t4 f4 ⊢
            have t010 := t07.trans (t3.trans t4)
            have s10 := sY.trans t010
            have x10 := x.same s10
            refine ⟨_, rfl, s, _, rfl, DPut.k (k := .inr "ends") upd_same (by show 5 < sizeLine; decide), ?_⟩
            rw [pt_ends, upd_upd]
            have hx9 : SqT K (upd H10 s (.dK (stKV lr b4 b2 lo L.used))) a xs := sqT_off Off.put x10.s (Same.tupS s10 hxs)
            refine ⟨_, rfl, a, xs, ((0 : Nat) : Int), _, rfl, rfl, hx9, atI_nat hx0, rfl, _, rfl, ?_⟩
            rw [strV]
            refine iteB (fun h => absurd (of_decide_eq_true h) (by decide +kernel : ¬ (wClose = ("quit" : Str)))) (fun _ => ?_)
            refine ⟨_, rfl, a, xs, ((0 : Nat) : Int), _, rfl, rfl, hx9, atI_nat hx0, rfl, _, rfl, ?_⟩
            rw [strV]
            refine iteB (fun h => absurd (of_decide_eq_true h) (by decide +kernel : ¬ (wClose = ("quit" : Str)))) (fun _ => ?_)
            refine ⟨_, rfl, a, xs, ((0 : Nat) : Int), _, rfl, rfl, hx9, atI_nat hx0, rfl, _, rfl, ?_⟩
            rw [strV]
            refine iteB (fun _ => ?_) (fun h => absurd wd_eq.2.2.2.1 (of_decide_eq_false h))
            have hr9 : (upd H10 s (.dK (stKV lr b4 b2 lo L.used))) lr = some (.lst (L.run.map V.str)) := up x10.s x10.r (fun _ z => nomatch z)
            have e11 : (upd H10 s (.dK (stKV lr b4 b2 lo L.used))) s = some (.dK (stKV lr b4 b2 lo L.used)) := upd_same
            refine ⟨_, rfl, s, _, rfl, (by have := DGet.k (k := .inr "run") e11; rwa [st_run] at this), lr, rfl, ⟨_, .inl (.inl hr9)⟩, fun Dr nDr => ?_⟩
            refine lc_list (K := K) (a := lr) (xs := L.run.map V.str) (fun i Hz => Same (upd H10 s (.dK (stKV lr b4 b2 lo L.used))) Hz ∧ Hz Dr = some (.lst (((L.run.take i).filter fun n => !decide (n = z)).map V.str))) ⟨same_upd nDr, upd_same⟩ (fun i Hz _ ⟨sz, _⟩ => .inl (.inl (sz _ _ hr9))) ?_ ?_
            · rintro i v Hz hv ⟨sz, dz⟩
              obtain ⟨y, hy, rfl⟩ := strs_at hv
              refine ⟨rfl, _, rfl, _, rfl, rfl, _, rfl, ?_⟩
              rw [strV]
              refine iteB (fun h => ?_) (fun h => ?_)
              · refine ⟨_, rfl, _, dz, by rw [List.length_map]; exact sz8 (by have := filt_len (l := L.run) (c := fun n => !decide (n = z)) i; omega), same_mut sz nDr, ?_⟩
                rw [upd_same, filt_yes hy h, List.map_append]
                rfl
              · rw [filt_no hy h]
                exact ⟨sz, dz⟩
            rintro Hr ⟨sr, dr⟩
            rw [List.length_map, List.take_length] at dr
            have Drs : Dr ≠ s := fun c => by rw [c, upd_same] at nDr; cases nDr
            rw [upd_ne Drs] at nDr
            refine ⟨_, rfl, s, _, rfl, DPut.k (k := .inr "run") (sr _ _ e11) (by show 5 < sizeLine; decide), ?_⟩
            rw [pt_run]
            refine ⟨_, rfl, _, rfl, s, _, rfl, DPut.k (k := .inr "out") upd_same (by show 5 < sizeLine; decide), ?_⟩
            rw [pt_out, upd_upd]
            have e12 : upd Hr s (.dK (stKV Dr b4 b2 o L.used)) = upd (upd Hr s (.dK (stKV lr le la lo L.used))) s (.dK (stKV Dr b4 b2 o L.used)) := by rw [upd_upd]
            have s12 : Same H10 (upd Hr s (.dK (stKV lr le la lo L.used))) := fun b v e => by
              by_cases c : b = s
              · rw [c, upd_same, ← x10.s, ← e, c]
              · rw [upd_ne c]
                exact sr _ _ (by rw [upd_ne c]; exact e)
            have d12 : (upd Hr s (.dK (stKV lr le la lo L.used))) Dr = some (.lst ((L.run.filter fun n => !decide (n = z)).map V.str)) := by rw [upd_ne Drs]; exact dr
            rw [e12]
            generalize upd Hr s (.dK (stKV lr le la lo L.used)) = H12 at s12 d12 ⊢
            have t712 := t3.trans (t4.trans s12)
            have s012 := s10.trans s12
            refine fin H12 Dr b4 b2 (ka ++ as) ko2 s012 d12 (s12 _ _ f4) ⟨t712 _ _ f2, fun q hq => ?_⟩ (by rw [List.map_append, x.aw, ew]; rfl) ⟨on2.a.same (t010.trans s12), on2.w, on2.f⟩ (.inr (none_of s10 nDr)) (.inr (none_of (s7.trans t3) nb4)) (.inr (none_of (sY.trans t0) nb2)) (fun q hq => ?_)
            · rcases List.mem_append.mp hq with h | h
              · exact (x.same s012).a.t q h
              · exact .inl (.inl ((t2.trans t712) _ _ (a6 q h).1))
            · rcases List.mem_append.mp hq with h | h
              · exact .inl (ax.ka q h)
              · exact .inr (none_of sY (a6 q h).2.1)
          | qt z =>
            refine ⟨_, rfl, a, xs, ((0 : Nat) : Int), _, rfl, rfl, Same.tupS sY hxs, atI_nat hx0, rfl, _, rfl, ?_⟩
            rw [strV]
            refine iteB (fun h => absurd (of_decide_eq_true h) (by decide +kernel : ¬ (wQuit = ("begin" : Str)))) (fun _ => ?_)
            refine ⟨_, rfl, a, xs, ((0 : Nat) : Int), _, rfl, rfl, Same.tupS sY hxs, atI_nat hx0, rfl, _, rfl, ?_⟩
            rw [strV]
            refine iteB (fun h => absurd (of_decide_eq_true h) (by decide +kernel : ¬ (wQuit = ("read" : Str)))) (fun _ => ?_)
            refine ⟨_, rfl, a, xs, ((0 : Nat) : Int), _, rfl, rfl, Same.tupS sY hxs, atI_nat hx0, rfl, _, rfl, ?_⟩
            rw [strV]
            refine iteB (fun h => absurd (of_decide_eq_true h) (by decide +kernel : ¬ (wQuit = ("close" : Str)))) (fun _ => ?_)
            refine ⟨_, rfl, a, xs, ((0 : Nat) : Int), _, rfl, rfl, Same.tupS sY hxs, atI_nat hx0, rfl, _, rfl, ?_⟩
            rw [strV]
            refine iteB (fun _ => ?_) (fun h => absurd wd_eq.2.1 (of_decide_eq_false h))
            have kal : ka.length ≤ 1000 := by have := congrArg List.length x.aw; rw [List.length_map] at this; omega
            have up : ∀ {Hz : Hp} {kvs : List (Key × V)}, Hz s = some (.dK kvs) → ∀ {b v k2}, Hz b = some v → (∀ kvs, v ≠ .dK kvs) → (upd Hz s (.dK k2)) b = some v := fun {Hz kvs} hs {b v k2} e ne => by
              rw [upd_ne (fun c => by rw [c, hs] at e; injection e with e; exact ne _ e.symm)]
              exact e
            refine ⟨_, rfl, s, _, rfl, (by have := DGet.k (k := .inr "acts") xY.s; rwa [st_acts] at this), la, rfl, ⟨_, .inl (.inl xY.a.l)⟩, fun D nD => ?_⟩
            refine lc_list (K := K) (a := la) (xs := ka.map fun q : AA => V.ref q.1) (fun i Hz => Same Hy Hz ∧ Hz D = some (.lst (((ka.take i).filter fun q => !decide (q.2.1 = z)).map fun q : AA => V.ref q.1))) ⟨same_upd nD, upd_same⟩ (fun i Hz _ ⟨sz, _⟩ => .inl (.inl (sz _ _ xY.a.l))) ?_ ?_
            · rintro i v Hz hv ⟨sz, dz⟩
              rw [List.getElem?_map] at hv
              obtain ⟨q', hq, rfl⟩ := Option.map_eq_some_iff.mp hv
              have tq := (xY.same sz).a.t q' (List.mem_of_getElem? hq)
              refine ⟨rfl, _, rfl, q'.1, _, ((0 : Nat) : Int), _, rfl, rfl, tq, atI_nat rfl, _, rfl, rfl, _, rfl, ?_⟩
              rw [strV]
              refine iteB (fun h => ?_) (fun h => ?_)
              · refine ⟨_, rfl, _, dz, by rw [List.length_map]; exact sz8 (by have := filt_len (l := ka) (c := fun q => !decide (q.2.1 = z)) i; omega), same_mut sz nD, ?_⟩
                rw [upd_same, filt_yes (c := fun q : AA => !decide (q.2.1 = z)) hq h, List.map_append]
                rfl
              · rw [filt_no (c := fun q : AA => !decide (q.2.1 = z)) hq h]
                exact ⟨sz, dz⟩
            rintro H10 ⟨t0, d6⟩
            rw [List.length_map, List.take_length] at d6
            have s10 := sY.trans t0
            have x10 := x.same s10
            refine ⟨_, rfl, s, _, rfl, DPut.k (k := .inr "acts") x10.s (by show 5 < sizeLine; decide), ?_⟩
            rw [pt_acts]
            have hx9 : SqT K (upd H10 s (.dK (stKV lr le D lo L.used))) a xs := sqT_off Off.put x10.s (Same.tupS s10 hxs)
            refine ⟨_, rfl, a, xs, ((0 : Nat) : Int), _, rfl, rfl, hx9, atI_nat hx0, rfl, _, rfl, ?_⟩
            rw [strV]
            refine iteB (fun _ => ?_) (fun h => absurd wd_eq.2.1 (of_decide_eq_false h))
            refine iteB (fun _ => ?_) (fun h => absurd h (by decide))
            have hr9 : (upd H10 s (.dK (stKV lr le D lo L.used))) lr = some (.lst (L.run.map V.str)) := up x10.s x10.r (fun _ z => nomatch z)
            have e11 : (upd H10 s (.dK (stKV lr le D lo L.used))) s = some (.dK (stKV lr le D lo L.used)) := upd_same
            refine ⟨_, rfl, s, _, rfl, (by have := DGet.k (k := .inr "run") e11; rwa [st_run] at this), lr, rfl, ⟨_, .inl (.inl hr9)⟩, fun Dr nDr => ?_⟩
            refine lc_list (K := K) (a := lr) (xs := L.run.map V.str) (fun i Hz => Same (upd H10 s (.dK (stKV lr le D lo L.used))) Hz ∧ Hz Dr = some (.lst (((L.run.take i).filter fun n => !decide (n = z)).map V.str))) ⟨same_upd nDr, upd_same⟩ (fun i Hz _ ⟨sz, _⟩ => .inl (.inl (sz _ _ hr9))) ?_ ?_
            · rintro i v Hz hv ⟨sz, dz⟩
              obtain ⟨y, hy, rfl⟩ := strs_at hv
              refine ⟨rfl, _, rfl, _, rfl, rfl, _, rfl, ?_⟩
              rw [strV]
              refine iteB (fun h => ?_) (fun h => ?_)
              · refine ⟨_, rfl, _, dz, by rw [List.length_map]; exact sz8 (by have := filt_len (l := L.run) (c := fun n => !decide (n = z)) i; omega), same_mut sz nDr, ?_⟩
                rw [upd_same, filt_yes hy h, List.map_append]
                rfl
              · rw [filt_no hy h]
                exact ⟨sz, dz⟩
            rintro Hr ⟨sr, dr⟩
            rw [List.length_map, List.take_length] at dr
            have Drs : Dr ≠ s := fun c => by rw [c, upd_same] at nDr; cases nDr
            rw [upd_ne Drs] at nDr
            refine ⟨_, rfl, s, _, rfl, DPut.k (k := .inr "run") (sr _ _ e11) (by show 5 < sizeLine; decide), ?_⟩
            rw [pt_run]
            refine ⟨_, rfl, _, rfl, s, _, rfl, DPut.k (k := .inr "out") upd_same (by show 5 < sizeLine; decide), ?_⟩
            rw [pt_out, upd_upd]
            have e12 : upd Hr s (.dK (stKV Dr le D o L.used)) = upd (upd Hr s (.dK (stKV lr le la lo L.used))) s (.dK (stKV Dr le D o L.used)) := by rw [upd_upd]
            have s12 : Same H10 (upd Hr s (.dK (stKV lr le la lo L.used))) := fun b v e => by
              by_cases c : b = s
              · rw [c, upd_same, ← x10.s, ← e, c]
              · rw [upd_ne c]
                exact sr _ _ (by rw [upd_ne c]; exact e)
            have d12 : (upd Hr s (.dK (stKV lr le la lo L.used))) Dr = some (.lst ((L.run.filter fun n => !decide (n = z)).map V.str)) := by rw [upd_ne Drs]; exact dr
            rw [e12]
            generalize upd Hr s (.dK (stKV lr le la lo L.used)) = H12 at s12 d12 ⊢
            have s012 := s10.trans s12
            have x12 := x.same s012
            refine fin H12 Dr le D (ka.filter fun q => !decide (q.2.1 = z)) ko2 s012 d12 x12.e ⟨s12 _ _ d6, fun q hq => x12.a.t q (List.mem_filter.mp hq).1⟩ ?_ ⟨on2.a.same (t0.trans s12), on2.w, on2.f⟩ (.inr (none_of s10 nDr)) (.inl ax.e) (.inr (none_of sY nD)) (fun q hq => .inl (ax.ka q (List.mem_filter.mp hq).1))
            show _ = L.acts.filter fun x => !decide (x.1 = z)
            rw [← x.aw, List.filter_map]
            rfl
end
end Kx

namespace Kx
open PySem PySem.Spec PyProof.Rows L2 NdefX Kr Ke Kn Kz Ky Kg StX
/-! ### what the laws share: calling an object, pairs, pairs by times -/
def tCallOS (C : Addr) (sp : Sp) (E : L2.St → XK) (tf : TE) (t : TA) : TE := fun σ H Q => tf σ H fun y H1 => ∃ a, y = V.ref a ∧ t σ H1 fun vs H2 => (∃ dx fs, H2 a = some (.ins C dx fs)) ∧ sp (V.ref a :: vs) H2 Q (E σ)
section
variable {X : Cx} {CX : CXT} {C : Addr} {k : Nat} {sp : Sp} {fe e : Expr} {es : List Expr} {tf : TE} {t : TA} {pos : Pos} {E : L2.St → XK}
theorem pe_callOS {g : Addr} {fd : FuncData} {ps : List Str} (hf : PE X fe tf) (c : CallO X.K C g) (F : FnOk X.prog X.w X.K X.mg X.base CX k g fd ps sp) (hb : Binds X.K fd ps []) (hr : Room k X.A) (hx : ∀ σ, PassesAt CX X σ (E σ)) (ha : PA X (e :: es) t)
    (ht : eval (.Call fe (e :: es) [] pos) X.env = (do callWith pos (← eval fe X.env) [] (backTo pos (starEach (e :: es) X.env)) (backToKw pos (keywordEach [] X.env))) := by rfl)
    (he : starEach (e :: es) X.env = (false, eval e X.env) :: starEach es X.env := by rfl) (hpl : (backTo pos (starEach es X.env)).any (·.1) = false := by rfl) : PE X (.Call fe (e :: es) [] pos) (tCallOS C sp E tf t) := by
  refine ⟨fun pins s σ H Q I h => ?_⟩
  refine Call_ (thn (hf.run pins s σ H _ I h) fun u s1 ⟨y, H1, I1, ry, a, ey, q⟩ => ?_) ht
  subst ey
  obtain rfl : u = Value.ref a := ry
  refine callO_with (thn (ha.run pos pins s1 σ H1 _ I1 q) fun us s2 ⟨vs, H2, I2, r, hi, q2⟩ => ?_) he hpl
  obtain ⟨ox, od, J, hd⟩ := insC_at (X := X) I2 (.inr hi)
  refine ⟨⟨C, ox, od, J, hd⟩, wpAny_call (PySem.W.kco_code I2.kIn J hd c.at_ c.fn c.fi ?_)⟩
  have r2 : Vals (V.ref a :: vs) (Value.ref a :: us) := .cons rfl r
  have hl : (Value.ref a :: us).length = ps.length := by rw [← r2.length]; exact F.len _ _ _ _ q2
  have b := hb s2 (Value.ref a :: us) I2.kIn (by rw [List.append_nil]; exact hl)
  rw [List.append_nil] at b
  refine codeAny_mono (F.run X.A X.stack s2 H2 ⟨Value.ref a :: us, []⟩ (Value.ref a :: us) (V.ref a :: vs) Q (E σ) hr I2.env0 b r2 q2) fun r s' hq => ?_
  cases r with
  | error e => exact hx σ pins H2 s2 e s' I2 hq
  | ok fl =>
    cases fl with
    | ret u => exact I2.after hq
    | next => exact False.elim hq
    | brk => exact False.elim hq
    | cont => exact False.elim hq
end
def oPairs (l : List (Str × List Str)) : List (List Str) := (oArcs l).map fun p => [p.1, p.2]
/-- all pairs, by the names in order -/
structure PairsOf (l : List (Str × List Str)) (ns : List Str) (ps : List (List Str)) : Prop where
  pm : ns.Perm (l.map (·.1))
  so : sortedS ns = true
  eq : ps = ns.flatMap fun a => (ns.filter fun b => decide (b ∈ (valA l a).getD [])).map fun b => [a, b]
def pairA (x y : Act) : Bool := decide (x.2.1 = y.2.1) && (!decide (x.1 = y.1) && decide (x.2.2 + y.2.2 > 2))
/-- a pair of acts, the first before the second -/
def btM (a b : Str) : List Act → Prop
  | [] => False
  | x :: r => (x.1 = a ∧ ∃ y ∈ r, y.1 = b ∧ pairA x y = true) ∨ btM a b r
theorem btM_app {a b : Str} {l : List Act} : ∀ {m : List Act}, btM a b (l ++ m) ↔ btM a b l ∨ btM a b m ∨ ∃ x ∈ l, ∃ y ∈ m, x.1 = a ∧ y.1 = b ∧ pairA x y = true := by
  induction l with
  | nil => exact fun {m} => ⟨fun h => .inr (.inl h), fun h => h.elim (fun f => f.elim) fun h => h.elim id fun ⟨_, h, _⟩ => nomatch h⟩
  | cons x r ih =>
    intro m
    show (x.1 = a ∧ ∃ y ∈ r ++ m, y.1 = b ∧ pairA x y = true) ∨ btM a b (r ++ m) ↔ ((x.1 = a ∧ ∃ y ∈ r, y.1 = b ∧ pairA x y = true) ∨ btM a b r) ∨ btM a b m ∨ ∃ x' ∈ x :: r, ∃ y ∈ m, x'.1 = a ∧ y.1 = b ∧ pairA x' y = true
    rw [ih]
    constructor
    · rintro (⟨h1, y, hy, h2, h3⟩ | h | h | ⟨x', hx, y, hy, h⟩)
      · rcases List.mem_append.mp hy with hy | hy
        · exact .inl (.inl ⟨h1, y, hy, h2, h3⟩)
        · exact .inr (.inr ⟨x, List.mem_cons_self, y, hy, h1, h2, h3⟩)
      · exact .inl (.inr h)
      · exact .inr (.inl h)
      · exact .inr (.inr ⟨x', List.mem_cons_of_mem _ hx, y, hy, h⟩)
    · rintro ((⟨h1, y, hy, h2, h3⟩ | h) | h | ⟨x', hx, y, hy, h1, h2, h3⟩)
      · exact .inl ⟨h1, y, List.mem_append_left _ hy, h2, h3⟩
      · exact .inr (.inl h)
      · exact .inr (.inr (.inl h))
      · rcases List.mem_cons.mp hx with rfl | hx
        · exact .inl ⟨h1, y, List.mem_append_right _ hy, h2, h3⟩
        · exact .inr (.inr (.inr ⟨x', hx, y, hy, h1, h2, h3⟩))
theorem btM_filt {a b z : Str} {l : List Act} : btM a b (l.filter fun x => !decide (x.1 = z)) ↔ btM a b l ∧ a ≠ z ∧ b ≠ z := by
  induction l with
  | nil => exact ⟨fun h => h.elim, fun h => h.1⟩
  | cons x r ih =>
    by_cases c : x.1 = z
    · rw [List.filter_cons, if_neg (by simp [c]), ih]
      refine ⟨fun ⟨h1, h2⟩ => ⟨.inr h1, h2⟩, fun ⟨h1, h2, h3⟩ => ⟨h1.elim (fun ⟨e, _⟩ => absurd (e.symm.trans c) h2) id, h2, h3⟩⟩
    · rw [List.filter_cons, if_pos (by simp [c])]
      show (x.1 = a ∧ ∃ y ∈ r.filter (fun x => !decide (x.1 = z)), y.1 = b ∧ pairA x y = true) ∨ btM a b (r.filter fun x => !decide (x.1 = z)) ↔ ((x.1 = a ∧ ∃ y ∈ r, y.1 = b ∧ pairA x y = true) ∨ btM a b r) ∧ a ≠ z ∧ b ≠ z
      rw [ih]
      constructor
      · rintro (⟨h1, y, hy, h2, h3⟩ | ⟨h, h'⟩)
        · obtain ⟨hy, hz⟩ := List.mem_filter.mp hy
          have hz : ¬ y.1 = z := by simpa using hz
          exact ⟨.inl ⟨h1, y, hy, h2, h3⟩, fun e => c (h1.trans e), fun e => hz (h2.trans e)⟩
        · exact ⟨.inr h, h'⟩
      · rintro ⟨⟨h1, y, hy, h2, h3⟩ | h, ha, hb⟩
        · exact .inl ⟨h1, y, List.mem_filter.mpr ⟨hy, by simpa using fun e : y.1 = z => hb (h2.symm.trans e)⟩, h2, h3⟩
        · exact .inr ⟨h, ha, hb⟩
end Kx

namespace Kx
open PySem PySem.Spec PyProof.Rows L2 NdefX Kr Ke Kn Kz Ky Kg StX
/-! ### _law_next_step -/
/-- the things of a script -/
def thingsV (nf : Int → Int → Str) (hd : Int) : List Str := (List.range (1 + hd % 8).toNat).map fun (j : Nat) => nf (j : Int) (hd / 8 / 32 + 1)
/-- a step that the law may draw -/
inductive Drawn (nf : Int → Int → Str) (hd : Int) (L : Lst) : Stp → Prop
  | bg : L.used < 12 → Drawn nf hd L (.bg (nf (L.used : Int) (hd / 8)))
  | qt {z : Str} : z ∈ L.run → Drawn nf hd L (.qt z)
  | rd {z t : Str} : z ∈ L.run → t ∈ thingsV nf hd → Drawn nf hd L (.rd z t)
  | cl {z : Str} {ts : List Str} : z ∈ L.run → (∀ t ∈ ts, t ∈ thingsV nf hd) → ts.Nodup → Drawn nf hd L (.cl z ts)
theorem atI_mem {xs : List Str} {i : Int} (i0 : 0 ≤ i) (i1 : i < (xs.length : Int)) : ∃ z, z ∈ xs ∧ atI (xs.map V.str) i = some (.str z) := by
  obtain ⟨n, rfl⟩ := Int.eq_ofNat_of_zero_le i0
  have hn : n < xs.length := by omega
  exact ⟨xs[n], List.getElem_mem _, atI_nat (by rw [List.getElem?_map, List.getElem?_eq_getElem hn]; rfl)⟩
abbrev s_next : Stmt := topS 68
abbrev N_next : List Str := ["_law_state", "_law_draw", "_law_head", "_law_many", "_law_style", "_law_kind", "_law_run", "_law_who", "_law_j", "_law_things", "_law_picks", "_law_writes"]
theorem sc_next : FnScope N_next ["_law_state", "_law_draw", "_law_head"] (defScope s_next) := ⟨rfl, rfl, rfl, by decide +kernel, rfl, by decide +kernel, by decide +kernel⟩
def spNext (K : PySem.W.Frag) (nf : Int → Int → Str) : Sp := fun vs H Q _ => ∃ (av : Addr → Prop) (s : Addr) (L : Lst) (d hd : Int), vs = [.ref s, .int d, .int hd] ∧ LsAv av K H s L ∧ 0 ≤ d ∧ d < 65536 ∧ 0 ≤ hd ∧ hd < 65536 ∧ L.run.length ≤ 100 ∧ (∀ z ∈ L.run, nameB z = true) ∧
  (∀ H', Same H H' → Q .non H') ∧ ∀ (u : Stp) (a : Addr) H', Drawn nf hd L u → Same H H' → StAt K H' a u.ps → Q (.ref a) H'
section
variable {P : Program} {w : World} {K : PySem.W.Frag} {mg : Str → Option Value} {base : Heap} {nf : Int → Int → Str}
theorem ok_next {f : Addr} {fd : FuncData} (F : Fun K "_law_next_step" "_law_next_step" s_next f fd) (T : TxS mg) (hnf : NmF nf) (C_named : Cal P w K mg base "_law_named" 1 (spNamedG nf)) : FnOk P w K mg base CX0 2 f fd ["_law_state", "_law_draw", "_law_head"] (spNext K nf) := by
  refine F.ok sc_next (fun vs H Q E h => ?_) (fun cdv A outer s H vs Q E hr h => ?_)
  · obtain ⟨av, s, L, d, hd, rfl, _⟩ := h
    rfl
  · obtain ⟨av, s, L, d, hd, rfl, ls, d0, d1, h0, h1, r1, rn, qn, q⟩ := h
    obtain ⟨lr, le, la, lo, ka, ko, x, ax⟩ := id ls
    refine ⟨_, (pss_cons (ps_set (i := 3) sc_next.nd rfl (Or.inl rfl) (pe_op op_add pe_int (pe_op op_mod (pe_callTy call_int1 (by rfl) T.m_int (by decide +kernel) (pa_cons (pv 2) pa_nil)) pe_int)))
      (pss_cons (ps_set (i := 4) sc_next.nd rfl (Or.inr rfl) (pe_op op_fdiv (pe_callTy call_int1 (by rfl) T.m_int (by decide +kernel) (pa_cons (pv 2) pa_nil)) pe_int))
      (pss_cons (ps_set (i := 5) sc_next.nd rfl (Or.inl rfl) (pe_op op_mod (pe_callTy call_int1 (by rfl) T.m_int (by decide +kernel) (pa_cons (pv 1) pa_nil)) pe_int))
      (pss_cons (ps_set (i := 6) sc_next.nd rfl (Or.inl rfl) (pe_dget (hu_of hr) (pv 0) pe_str (fun _ _ => rfl)))
      (pss_cons (ps_if (PW.pt (pw_or (pt_cmpR (op_eqD hr.units) (pv 6) (pe_lst pa_nil) (nomark _)) (pw_or1 (PW.pt (pw_and (pt_cmpR op_lt (pv 5) pe_int (nomark _)) (pw_and1 (pt_cmpR op_lt (pe_callB call_len_seq (by rfl) T.m_len (by decide +kernel) (pa_cons (pv 6) pa_nil)) pe_int (nomark _))))))))
        (pss_cons (ps_if (pt_cmpR op_lt (pe_dget (hu_of hr) (pv 0) pe_str (fun _ _ => rfl)) pe_int (nomark _))
          (pss_one (ps_ret (pe_tup (pa_cons pe_str (pa_cons (pe_cal C_named (hr.mono (by decide)) (by rfl) (pa_cons (pe_dget (hu_of hr) (pv 0) pe_str (fun _ _ => rfl)) (pa_cons (pv 4) pa_nil))) pa_nil)))))
          pss_nil)
        (pss_one (ps_if (pt_cmpR (op_eqD hr.units) (pv 6) (pe_lst pa_nil) (nomark _))
          (pss_one (ps_ret pe_non))
          pss_nil)))
        pss_nil)
      (pss_cons (ps_set (i := 7) sc_next.nd rfl (Or.inl rfl) (pe_ix (show IxR _ (rIxL K) from ix_list) (pv 6) (pe_op op_mod (pe_op op_mod (pe_op op_fdiv (pe_callTy call_int1 (by rfl) T.m_int (by decide +kernel) (pa_cons (pv 1) pa_nil)) pe_int) pe_int) (pe_callB call_len_seq (by rfl) T.m_len (by decide +kernel) (pa_cons (pv 6) pa_nil))) (fun _ _ => rfl)))
      (pss_cons (ps_if (pt_cmpR op_eq (pv 5) pe_int (nomark _))
        (pss_one (ps_ret (pe_tup (pa_cons pe_str (pa_cons (pv 7) pa_nil)))))
        pss_nil)
      (pss_cons (ps_setLc (i := 9) (own := [("_law_j", 8)]) (g := gName 8) (tt := tYes) rfl sc_next.nd rfl rfl (sw_true rfl rfl rfl (by decide +kernel)) (pi_range1 (by rfl) T.m_range (pa_cons (pv 3) pa_nil)) (blkOk_by (own := [("_law_j", 8)]) (N := N_next) (sc := defScope s_next) (by decide +kernel)) (fun _ _ _ _ _ => pg_name (i := 8) sc_next.nd rfl (Or.inl rfl)) (fun _ _ _ _ _ => pts_nil) (fun _ _ _ _ _ => (pe_cal C_named (by exact hr.mono (by decide)) (by rfl) (pa_cons (pv 8) (pa_cons (pe_op op_add (pe_op op_fdiv (pv 4) pe_int) pe_int) pa_nil)))))
      (pss_cons (ps_set (i := 10) sc_next.nd rfl (Or.inl rfl) (pe_lst (pa_cons (pe_op op_mod (pe_op op_mod (pe_op op_fdiv (pe_callTy call_int1 (by rfl) T.m_int (by decide +kernel) (pa_cons (pv 1) pa_nil)) pe_int) pe_int) (pv 3)) pa_nil)))
      (pss_cons (ps_if (pt_cmpR op_lt (pv 5) pe_int (nomark _))
        (pss_one (ps_ret (pe_tup (pa_cons pe_str (pa_cons (pv 7) (pa_cons (pe_ix (show IxR _ (rIxL K) from ix_list) (pv 9) (pe_ix (show IxR _ (rIxL K) from ix_list) (pv 10) pe_int (fun _ _ => rfl)) (fun _ _ => rfl)) pa_nil))))))
        pss_nil)
      (pss_cons (ps_if (PW.pt (pw_or (pt_cmpR op_eq (pv 5) pe_int (nomark _)) (pw_or1 (pt_cmpR op_eq (pv 5) pe_int (nomark _)))))
        (pss_one (ps_expr (pe_bm PySem.F.plainAttrs_list PySem.F.slot_list_append PySem.F.type_list_append mt_append (pv 10) (pa_cons (pe_op op_mod (pe_op op_mod (pe_op op_fdiv (pe_callTy call_int1 (by rfl) T.m_int (by decide +kernel) (pa_cons (pv 1) pa_nil)) pe_int) pe_int) (pv 3)) pa_nil))))
        pss_nil)
      (pss_cons (ps_if (pt_cmpR op_eq (pv 5) pe_int (nomark _))
        (pss_one (ps_expr (pe_bm PySem.F.plainAttrs_list PySem.F.slot_list_append PySem.F.type_list_append mt_append (pv 10) (pa_cons (pe_op op_mod (pe_op op_mod (pe_op op_fdiv (pe_callTy call_int1 (by rfl) T.m_int (by decide +kernel) (pa_cons (pv 1) pa_nil)) pe_int) pe_int) (pv 3)) pa_nil))))
        pss_nil)
      (pss_cons (ps_if (pt_cmpR op_eq (pv 5) pe_int (nomark _))
        (pss_one (ps_setLc (i := 10) (own := [("_law_j", 8)]) (g := gName 8) (tt := _) rfl sc_next.nd rfl rfl (sw_true rfl rfl rfl (by decide +kernel)) (pi_range1 (by rfl) T.m_range (pa_cons (pv 3) pa_nil)) (blkOk_by (own := [("_law_j", 8)]) (N := N_next) (sc := defScope s_next) (by decide +kernel)) (fun _ _ _ _ _ => pg_name (i := 8) sc_next.nd rfl (Or.inl rfl)) (fun _ _ _ _ _ => (pts_one (pt_cmpR op_gt (pe_op op_mod (pe_op op_fdiv (pe_callTy call_int1 (by rfl) T.m_int (by decide +kernel) (pa_cons (pv 1) pa_nil)) pe_int) pe_int) pe_int (nomark _)))) (fun _ _ _ _ _ => (pv 8))))
        pss_nil)
      (pss_cons (ps_set (i := 11) sc_next.nd rfl (Or.inl rfl) (pe_lst pa_nil))
      (pss_cons (ps_for PassesOwn.never rfl (pi_list (pv 10)) (pg_name (i := 8) sc_next.nd rfl (Or.inl rfl))
        (pss_one (ps_if (pt_cmpR (show OpR _ _ (rIn K true) from op_notIn_seq) (pe_ix (show IxR _ (rIxL K) from ix_list) (pv 9) (pv 8) (fun _ _ => rfl)) (pv 11) (by rfl))
          (pss_one (ps_expr (pe_bm PySem.F.plainAttrs_list PySem.F.slot_list_append PySem.F.type_list_append mt_append (pv 11) (pa_cons (pe_ix (show IxR _ (rIxL K) from ix_list) (pv 9) (pv 8) (fun _ _ => rfl)) pa_nil))))
          pss_nil)))
      (pss_one (ps_ret (pe_tup (pa_cons pe_str (pa_cons (pv 7) (pa_cons (pe_callTy call_tuple_of (by rfl) T.m_tuple (by decide +kernel) (pa_cons (pv 11) pa_nil)) pa_nil))))))))))))))))))))), ?_⟩
    have hk := Int.emod_nonneg hd (show (8 : Int) ≠ 0 by decide)
    have hk8 := Int.emod_lt_of_pos hd (show (0 : Int) < 8 by decide)
    refine ⟨_, rfl, .inl ⟨_, rfl, _, _, rfl, rfl, (by show (0 : Int) < 8; decide), _, _, rfl, rfl, ?_⟩⟩
    refine ⟨_, rfl, .inl ⟨_, rfl, _, _, rfl, rfl, ⟨by decide, by decide⟩, ?_⟩⟩
    refine ⟨_, rfl, .inl ⟨_, rfl, _, _, rfl, rfl, (by show (0 : Int) < 16; decide), ?_⟩⟩
    refine ⟨_, rfl, s, _, rfl, (by have := DGet.k (k := .inr "run") x.s; rwa [st_run] at this), ?_⟩
    have shR : SeqAt.shaped (.list (tD L.run)) = true := shp_txts (n := 1000) fun y hy => (nameB_sht8 (rn y hy)).le (by decide)
    have sh0 : SeqAt.shaped (.list (tD [])) = true := shp_txts (n := 1000) fun y hy => nomatch hy
    refine ⟨_, rfl, by show 0 ≤ sizeLine; decide, fun b nb => ?_⟩
    have s1 : Same H (upd H b (.lst [])) := same_upd nb
    have e1 : (upd H b (.lst [])) b = some (.lst (([] : List Str).map V.str)) := upd_same
    generalize upd H b (.lst []) = H1 at s1 e1 ⊢
    refine ⟨.list (tD L.run), .list (tD []), .lst (.inl (.inl (s1 _ _ x.r))) (dp_txts _), .lst (.inl (.inl e1)) (dp_txts []), shR, sh0, _, rfl, ?_⟩
    rw [eqv_list]
    have dU : ∀ {H2 : Hp}, Same H H2 → DGet H2 s (.str "used") (some (.int (L.used : Int))) := fun s2 => by
      have := DGet.k (k := .inr "used") (s2 _ _ x.s)
      rwa [st_used] at this
    refine iteB (fun hA => ?_) (fun hA => ?_)
    · have hA : L.run = [] := of_decide_eq_true hA
      refine iteB (fun _ => ?_) (fun h => absurd h (by decide))
      refine ⟨_, rfl, s, _, rfl, dU s1, _, _, rfl, rfl, _, rfl, iteB (fun hu => ?_) (fun hu => ?_)⟩
      · have hu : L.used < 12 := by have := of_decide_eq_true hu; omega
        refine ⟨_, rfl, s, _, rfl, dU s1, _, rfl, (L.used : Int), hd / 8, rfl, by omega, by omega, by omega, by omega, fun H3 s3 => ⟨by show 2 ≤ sizeLine; decide, fun a na => ?_⟩⟩
        exact q _ a _ (.bg hu) (s1.trans (s3.trans (same_upd na))) ⟨_, .inl (.inl upd_same), .cons rfl (.cons rfl .nil)⟩
      · refine ⟨_, rfl, by show 0 ≤ sizeLine; decide, fun b2 nb2 => ?_⟩
        have s2 : Same H1 (upd H1 b2 (.lst [])) := same_upd nb2
        have e2 : (upd H1 b2 (.lst [])) b2 = some (.lst (([] : List Str).map V.str)) := upd_same
        generalize upd H1 b2 (.lst []) = H2 at s2 e2 ⊢
        have s02 := s1.trans s2
        refine ⟨.list (tD L.run), .list (tD []), .lst (.inl (.inl (s02 _ _ x.r))) (dp_txts _), .lst (.inl (.inl e2)) (dp_txts []), shR, sh0, _, rfl, ?_⟩
        rw [eqv_list, decide_eq_true hA]
        refine iteB (fun _ => ?_) (fun h => absurd h (by decide))
        exact qn H2 s02
    have hA : L.run ≠ [] := of_decide_eq_false hA
    refine ⟨_, rfl, _, _, rfl, rfl, _, rfl, iteB (fun hk4 => ?_) (fun hk4 => ?_)⟩
    refine ⟨_, rfl, lr, _, rfl, .inl (.inl (.inl (s1 _ _ x.r))), _, _, rfl, rfl, _, rfl, iteB (fun hl5 => ?_) (fun hl5 => ?_)⟩
    refine ⟨_, rfl, s, _, rfl, dU s1, _, _, rfl, rfl, _, rfl, iteB (fun hu => ?_) (fun hu => ?_)⟩
    have hu : L.used < 12 := by have := of_decide_eq_true hu; omega
    refine ⟨_, rfl, s, _, rfl, dU s1, _, rfl, (L.used : Int), hd / 8, rfl, by omega, by omega, by omega, by omega, fun H3 s3 => ⟨by show 2 ≤ sizeLine; decide, fun a na => ?_⟩⟩
    exact q _ a _ (.bg hu) (s1.trans (s3.trans (same_upd na))) ⟨_, .inl (.inl upd_same), .cons rfl (.cons rfl .nil)⟩
    refine ⟨_, rfl, by show 0 ≤ sizeLine; decide, fun b2 nb2 => ?_⟩
    have s2 : Same H1 (upd H1 b2 (.lst [])) := same_upd nb2
    have e2 : (upd H1 b2 (.lst [])) b2 = some (.lst (([] : List Str).map V.str)) := upd_same
    generalize upd H1 b2 (.lst []) = H2 at s2 e2 ⊢
    have s1 := s1.trans s2
    refine ⟨.list (tD L.run), .list (tD []), .lst (.inl (.inl (s1 _ _ x.r))) (dp_txts _), .lst (.inl (.inl e2)) (dp_txts []), shR, sh0, _, rfl, ?_⟩
    rw [eqv_list, decide_eq_false hA]
    refine iteB (fun h => absurd h (by decide)) (fun _ => ?_)
    clear hu hl5 hk4 e2
    rotate_left
    clear hl5 hk4
    revert s1
    generalize H1 = H2
    intro s1
    rotate_left
    refine iteB (fun h => absurd h (by decide)) (fun _ => ?_)
    clear hk4
    revert s1
    generalize H1 = H2
    intro s1
    rotate_left
    all_goals
      have rl : 0 < (L.run.map V.str).length := by rw [List.length_map]; exact List.length_pos_iff.mpr hA
      obtain ⟨z, hz, az⟩ : ∃ z, z ∈ L.run ∧ atI (L.run.map V.str) (d / 16 % 8 % (((L.run.map V.str).length : Nat) : Int)) = some (.str z) := by
        exact atI_mem (Int.emod_nonneg _ (by omega)) (by have := Int.emod_lt_of_pos (d / 16 % 8) (show (0 : Int) < (((L.run.map V.str).length : Nat) : Int) by omega); rw [List.length_map] at this ⊢; exact this)
      refine ⟨_, rfl, _, rfl, .inl ⟨_, rfl, _, _, rfl, rfl, ⟨by decide, by decide⟩, _, _, rfl, rfl, (by show (0 : Int) < 8; decide), _, rfl, lr, _, rfl, .inl (.inl (.inl (s1 _ _ x.r))), _, _, rfl, rfl, (by show (0 : Int) < (((L.run.map V.str).length : Nat) : Int); omega), lr, _, _, _, rfl, rfl, .inl (.inl (s1 _ _ x.r)), az, ?_⟩⟩
      refine ⟨_, rfl, rfl, _, rfl, ifI (fun k15 => ?_) (fun k15 => ?_)⟩
      · exact ⟨_, rfl, by show 2 ≤ sizeLine; decide, fun a na => q _ a _ (.qt hz) (s1.trans (same_upd na)) ⟨_, .inl (.inl upd_same), .cons rfl (.cons rfl .nil)⟩⟩
      refine ⟨_, rfl, 1 + hd % 8, rfl, by omega, by omega, fun D nD => ?_⟩
      refine lc_range (lo := 0) (n := (1 + hd % 8).toNat) (fun i Hz => Same H2 Hz ∧ Hz D = some (.lst (((List.range i).map fun (j : Nat) => nf (j : Int) (hd / 8 / 32 + 1)).map V.str))) ⟨same_upd nD, upd_same⟩ ?_ ?_
      · rintro i Hz hi ⟨sz, dz⟩
        refine ⟨rfl, _, rfl, _, rfl, _, _, rfl, rfl, ⟨by decide, by decide⟩, _, _, rfl, rfl, (0 + (i : Int)), hd / 8 / 32 + 1, rfl, by omega, by omega, by omega, by omega, fun H3 s3 => ?_⟩
        refine ⟨_, s3 _ _ dz, by rw [List.length_map, List.length_map, List.length_range]; exact sz8 (by omega), same_mut (sz.trans s3) nD, ?_⟩
        rw [upd_same, List.range_succ, List.map_append, List.map_append, Int.zero_add]
        rfl
      rintro H3 ⟨s3, d3⟩
      have d3 : H3 D = some (.lst ((thingsV nf hd).map V.str)) := d3
      have at_ : ∀ p : Int, 0 ≤ p → p < 1 + hd % 8 → ∃ t, t ∈ thingsV nf hd ∧ atI ((thingsV nf hd).map V.str) p = some (.str t) := fun p p0 p1 => by
        exact atI_mem p0 (by unfold thingsV; rw [List.length_map, List.length_range]; omega)
      have pm : ∀ e : Int, 0 ≤ e % (1 + hd % 8) ∧ e % (1 + hd % 8) < 1 + hd % 8 := fun e => ⟨Int.emod_nonneg _ (by omega), Int.emod_lt_of_pos _ (by omega)⟩
      have mp : (0 : Int) < 1 + hd % 8 := by omega
      refine ⟨_, rfl, .inl ⟨_, rfl, _, _, rfl, rfl, ⟨by decide, by decide⟩, _, _, rfl, rfl, (by show (0 : Int) < 8; decide), _, rfl, _, _, rfl, rfl, mp, by show 1 ≤ sizeLine; decide, fun D2 nD2 => ?_⟩⟩
      have s4 : Same H3 (upd H3 D2 (.lst [V.int (d / 128 % 8 % (1 + hd % 8))])) := same_upd nD2
      have e4 : (upd H3 D2 (.lst [V.int (d / 128 % 8 % (1 + hd % 8))])) D2 = some (.lst ([d / 128 % 8 % (1 + hd % 8)].map V.int)) := upd_same
      generalize upd H3 D2 (.lst [V.int (d / 128 % 8 % (1 + hd % 8))]) = H4 at s4 e4 ⊢
      refine ⟨_, rfl, _, _, rfl, rfl, _, rfl, iteB (fun k10 => ?_) (fun k10 => ?_)⟩
      · obtain ⟨t, ht, at0'⟩ := at_ _ (pm (d / 128 % 8)).1 (pm (d / 128 % 8)).2
        refine ⟨_, rfl, _, rfl, _, rfl, D2, _, ((0 : Nat) : Int), _, rfl, rfl, .inl (.inl e4), atI_nat rfl, D, _, _, _, rfl, rfl, .inl (.inl (s4 _ _ d3)), at0', by show 3 ≤ sizeLine; decide, fun a na => ?_⟩
        exact q _ a _ (.rd hz ht) (s1.trans (s3.trans (s4.trans (same_upd na)))) ⟨_, .inl (.inl upd_same), .cons rfl (.cons rfl (.cons rfl .nil))⟩
      refine ⟨_, rfl, rfl, _, rfl, ifI (fun k12 => ?_) (fun k12 => ?_)⟩
      refine iteB (fun _ => ?_) (fun h => absurd h (by decide))
      refine ⟨_, rfl, .inl ⟨rfl, _, .inl (.inl e4)⟩, _, rfl, .inl ⟨_, rfl, _, _, rfl, rfl, ⟨by decide, by decide⟩, _, _, rfl, rfl, (by show (0 : Int) < 8; decide), _, rfl, _, _, rfl, rfl, mp, D2, _, _, rfl, rfl, e4, by rw [List.length_map]; show 1 < sizeLine; decide, ?_⟩⟩
      have s5 : Same H3 (upd H4 D2 (.lst ([d / 128 % 8 % (1 + hd % 8)].map V.int ++ [V.int (d / 1024 % 8 % (1 + hd % 8))]))) := same_mut s4 nD2
      have e5 : (upd H4 D2 (.lst ([d / 128 % 8 % (1 + hd % 8)].map V.int ++ [V.int (d / 1024 % 8 % (1 + hd % 8))]))) D2 = some (.lst ([d / 128 % 8 % (1 + hd % 8), d / 1024 % 8 % (1 + hd % 8)].map V.int)) := upd_same
      generalize upd H4 D2 (.lst ([d / 128 % 8 % (1 + hd % 8)].map V.int ++ [V.int (d / 1024 % 8 % (1 + hd % 8))])) = H5 at s5 e5 ⊢
      have b5 : ∀ p ∈ [d / 128 % 8 % (1 + hd % 8), d / 1024 % 8 % (1 + hd % 8)], 0 ≤ p ∧ p < 1 + hd % 8 := fun p hp => by
        rcases List.mem_cons.mp hp with rfl | hp
        · exact pm _
        · rw [List.mem_singleton.mp hp]; exact pm _
      have l5 : [d / 128 % 8 % (1 + hd % 8), d / 1024 % 8 % (1 + hd % 8)].length ≤ 8 := by show 2 ≤ 8; decide
      generalize [d / 128 % 8 % (1 + hd % 8), d / 1024 % 8 % (1 + hd % 8)] = ps at e5 b5 l5
      refine ⟨_, rfl, rfl, _, rfl, ifI (fun k13 => absurd k12 (by omega)) (fun k13 => ?_)⟩
      refine ⟨_, rfl, rfl, _, rfl, ifI (fun k14 => absurd k12 (by omega)) (fun k14 => ?_)⟩
      clear e4 s4 k13 k14 k12
      rotate_left
      refine ⟨_, rfl, rfl, _, rfl, ifI (fun k13 => ?_) (fun k13 => ?_)⟩
      refine ⟨_, rfl, .inl ⟨rfl, _, .inl (.inl e4)⟩, _, rfl, .inl ⟨_, rfl, _, _, rfl, rfl, ⟨by decide, by decide⟩, _, _, rfl, rfl, (by show (0 : Int) < 8; decide), _, rfl, _, _, rfl, rfl, mp, D2, _, _, rfl, rfl, e4, by rw [List.length_map]; show 1 < sizeLine; decide, ?_⟩⟩
      have s5 : Same H3 (upd H4 D2 (.lst ([d / 128 % 8 % (1 + hd % 8)].map V.int ++ [V.int (d / 1024 % 8 % (1 + hd % 8))]))) := same_mut s4 nD2
      have e5 : (upd H4 D2 (.lst ([d / 128 % 8 % (1 + hd % 8)].map V.int ++ [V.int (d / 1024 % 8 % (1 + hd % 8))]))) D2 = some (.lst ([d / 128 % 8 % (1 + hd % 8), d / 1024 % 8 % (1 + hd % 8)].map V.int)) := upd_same
      generalize upd H4 D2 (.lst ([d / 128 % 8 % (1 + hd % 8)].map V.int ++ [V.int (d / 1024 % 8 % (1 + hd % 8))])) = H5 at s5 e5 ⊢
      refine ⟨_, rfl, rfl, _, rfl, ifI (fun _ => ?_) (fun k => absurd k13 k)⟩
      refine ⟨_, rfl, .inl ⟨rfl, _, .inl (.inl e5)⟩, _, rfl, .inl ⟨_, rfl, _, _, rfl, rfl, ⟨by decide, by decide⟩, _, _, rfl, rfl, (by show (0 : Int) < 8; decide), _, rfl, _, _, rfl, rfl, mp, D2, _, _, rfl, rfl, e5, by rw [List.length_map]; show 2 < sizeLine; decide, ?_⟩⟩
      have s5' : Same H3 (upd H5 D2 (.lst ([d / 128 % 8 % (1 + hd % 8), d / 1024 % 8 % (1 + hd % 8)].map V.int ++ [V.int (d / 8192 % 8 % (1 + hd % 8))]))) := same_mut s5 nD2
      have e5' : (upd H5 D2 (.lst ([d / 128 % 8 % (1 + hd % 8), d / 1024 % 8 % (1 + hd % 8)].map V.int ++ [V.int (d / 8192 % 8 % (1 + hd % 8))]))) D2 = some (.lst ([d / 128 % 8 % (1 + hd % 8), d / 1024 % 8 % (1 + hd % 8), d / 8192 % 8 % (1 + hd % 8)].map V.int)) := upd_same
      clear s5 e5
      generalize upd H5 D2 (.lst ([d / 128 % 8 % (1 + hd % 8), d / 1024 % 8 % (1 + hd % 8)].map V.int ++ [V.int (d / 8192 % 8 % (1 + hd % 8))])) = H5 at s5' e5' ⊢
      have s5 := s5'
      have e5 := e5'
      clear s5' e5'
      have b5 : ∀ p ∈ [d / 128 % 8 % (1 + hd % 8), d / 1024 % 8 % (1 + hd % 8), d / 8192 % 8 % (1 + hd % 8)], 0 ≤ p ∧ p < 1 + hd % 8 := fun p hp => by
        rcases List.mem_cons.mp hp with rfl | hp
        · exact pm _
        · rcases List.mem_cons.mp hp with rfl | hp
          · exact pm _
          · rw [List.mem_singleton.mp hp]; exact pm _
      have l5 : [d / 128 % 8 % (1 + hd % 8), d / 1024 % 8 % (1 + hd % 8), d / 8192 % 8 % (1 + hd % 8)].length ≤ 8 := by show 3 ≤ 8; decide
      generalize [d / 128 % 8 % (1 + hd % 8), d / 1024 % 8 % (1 + hd % 8), d / 8192 % 8 % (1 + hd % 8)] = ps at e5 b5 l5
      refine ⟨_, rfl, rfl, _, rfl, ifI (fun k14 => absurd k13 (by omega)) (fun k14 => ?_)⟩
      clear e4 s4 k13 k14 k12
      rotate_left
      refine ⟨_, rfl, rfl, _, rfl, ifI (fun k => absurd k k13) (fun _ => ?_)⟩
      refine ⟨_, rfl, rfl, _, rfl, ifI (fun k14 => ?_) (fun k14 => ?_)⟩
      refine ⟨_, rfl, 1 + hd % 8, rfl, by omega, by omega, fun D2 nD2 => ?_⟩
      refine lc_range (lo := 0) (n := (1 + hd % 8).toNat) (fun i Hz => ∃ ps : List Int, Same H4 Hz ∧ Hz D2 = some (.lst (ps.map V.int)) ∧ (∀ p ∈ ps, 0 ≤ p ∧ p < 1 + hd % 8) ∧ ps.length ≤ i) ⟨[], same_upd nD2, upd_same, (fun _ h => nomatch h), Nat.le_refl _⟩ ?_ ?_
      rintro i Hz hi ⟨ps, sz, dz, bz, lz⟩
      refine ⟨rfl, _, rfl, .inl ⟨_, rfl, _, _, rfl, rfl, ⟨by decide, by decide⟩, _, _, rfl, rfl, (by show (0 : Int) < 8; decide), _, _, rfl, rfl, _, rfl, iteB (fun _ => ?_) (fun _ => ?_)⟩⟩
      refine ⟨_, rfl, _, dz, by rw [List.length_map]; exact sz8 (by omega), ps ++ [0 + (i : Int)], same_mut sz nD2, by rw [upd_same, List.map_append]; rfl, fun p hp => ?_, by rw [List.length_append]; exact Nat.succ_le_succ lz⟩
      rcases List.mem_append.mp hp with hp | hp
      exact bz p hp
      rw [List.mem_singleton.mp hp]
      omega
      exact ⟨ps, sz, dz, bz, by omega⟩
      rintro H5 ⟨ps, sz, e5, b5, l5⟩
      have l5 : ps.length ≤ 8 := by omega
      have s5 := s4.trans sz
      clear sz e4 s4 k12 k13 k14
      rotate_left
      have b5 : ∀ p ∈ [d / 128 % 8 % (1 + hd % 8)], 0 ≤ p ∧ p < 1 + hd % 8 := fun p hp => by rw [List.mem_singleton.mp hp]; exact pm _
      have l5 : [d / 128 % 8 % (1 + hd % 8)].length ≤ 8 := by show 1 ≤ 8; decide
      generalize [d / 128 % 8 % (1 + hd % 8)] = ps at e4 b5 l5
      have s5 := s4
      have e5 := e4
      clear s4 e4 k12 k13 k14
      revert s5 e5
      generalize H4 = H5
      intro s5 e5
      rotate_left
      all_goals
        refine ⟨by show 0 ≤ sizeLine; decide, fun D5 nD5 => ?_⟩
        have s6 : Same H5 (upd H5 D5 (.lst [])) := same_upd nD5
        refine ⟨_, rfl, D2, rfl, ⟨_, .inl (.inl (s6 _ _ e5))⟩, ?_⟩
        refine for_list (K := K) (a := D2) (xs := ps.map V.int) (fun i σ Hz => ∃ (x8 : Option V) (ts : List Str), σ = [some (.ref s), some (.int d), some (.int hd), some (.int (1 + hd % 8)), some (.int (hd / 8)), some (.int (d % 16)), some (.ref lr), some (.str z), x8, some (.ref D), some (.ref D2), some (.ref D5)] ∧ Same H5 Hz ∧ Hz D5 = some (.lst (ts.map V.str)) ∧ ts.Nodup ∧ (∀ t ∈ ts, t ∈ thingsV nf hd) ∧ ts.length ≤ i)
          ⟨_, [], rfl, s6, upd_same, List.nodup_nil, (fun _ h => nomatch h), Nat.le_refl _⟩ (fun i σ Hz _ ⟨_, _, _, sz, _⟩ => .inl (.inl (sz _ _ e5))) ?_ ?_
        · rintro i v σ Hz hv ⟨x8, ts, rfl, sz, dz, tn, tt, tl⟩
          rw [List.getElem?_map] at hv
          obtain ⟨p, hp, rfl⟩ := Option.map_eq_some_iff.mp hv
          obtain ⟨p0, p1⟩ := b5 p (List.mem_of_getElem? hp)
          have il := (List.getElem?_eq_some_iff.mp hp).1
          obtain ⟨t, ht, at1⟩ := at_ p p0 p1
          have dD := (s5.trans sz) _ _ d3
          refine ⟨_, rfl, _, rfl, D, _, _, _, rfl, rfl, .inl (.inl dD), at1, _, rfl, D5, _, rfl, .inl (.inl (.inl dz)), rfl, txt_flat ts, _, rfl, ?_⟩
          rw [if_pos rfl, inV_txt]
          refine iteB (fun h => ?_) (fun h => ?_)
          · have hn : t ∉ ts := by simpa using h
            refine ⟨_, rfl, .inl ⟨rfl, _, .inl (.inl dz)⟩, _, rfl, _, rfl, D, _, _, _, rfl, rfl, .inl (.inl dD), at1, D5, _, _, rfl, rfl, dz, by rw [List.length_map]; exact sz8 (by omega), ?_⟩
            refine ⟨_, ts ++ [t], rfl, same_mut sz nD5, by rw [upd_same, List.map_append]; rfl, List.nodup_append.mpr ⟨tn, List.pairwise_singleton _ _, fun a ha b hb e => hn (by rw [← List.mem_singleton.mp hb, ← e]; exact ha)⟩, fun y hy => ?_, by rw [List.length_append]; exact Nat.succ_le_succ tl⟩
            rcases List.mem_append.mp hy with hy | hy
            · exact tt y hy
            · rw [List.mem_singleton.mp hy]; exact ht
          · exact ⟨_, ts, rfl, sz, dz, tn, tt, by omega⟩
        · rintro σ Hz ⟨x8, ts, rfl, sz, dz, tn, tt, tl⟩
          refine ⟨_, rfl, _, rfl, D5, _, rfl, .inl ⟨.inl (.inl dz), fun l nl => ⟨by show 3 ≤ sizeLine; decide, fun a na => ?_⟩⟩⟩
          refine q _ a _ (.cl hz tt tn) (s1.trans (s3.trans (s5.trans (sz.trans ((same_upd nl).trans (same_upd na)))))) ⟨_, .inl (.inl upd_same), .cons rfl (.cons rfl (.cons ⟨l, rfl, .inl (.inl ((upd_ne (fun c => by rw [← c, upd_same] at na; cases na)).trans upd_same))⟩ .nil))⟩
end
end Kx

namespace Kx
open PySem PySem.Spec PyProof.Rows L2 NdefX Kr Ke Kn Kz Ky Kg StX
/-! ### what the law knows of the keeper -/
structure Rl (nf : Int → Int → Str) (hd : Int) (k : Nat) (L : Lst) (W : Web) (left : List Str) : Prop where
  w : WebOk W
  ln : ∀ z, z ∈ W.line ↔ z ∈ L.out.map (·.1)
  on : (L.out.map (·.1)).Nodup
  rn : ∀ e ∈ L.out, e.2.Nodup
  run : ∀ z, z ∈ L.run ↔ z ∈ W.line ∧ z ∉ W.ended
  rnd : L.run.Nodup
  el : L.ends.length = W.ended.length
  aw : ∀ z t, tw W z t = some wWrite ↔ (z, t, 2) ∈ L.acts
  ar : ∀ z t, (tw W z t).isSome = true ↔ ∃ l, (z, t, l) ∈ L.acts
  al : ∀ x ∈ L.acts, (x.2.2 = 1 ∨ x.2.2 = 2) ∧ x.1 ∈ W.line ∧ x.2.1 ∈ thingsV nf hd
  a1 : ∀ x ∈ L.acts, x.1 ∈ L.run → x.2.2 = 1
  pr : ∀ a b, [a, b] ∈ W.prs ↔ (a, b) ∈ oArcs L.out
  anti : ∀ a b, [a, b] ∈ W.prs → [b, a] ∉ W.prs
  bt : ∀ a b, [a, b] ∈ W.prs ↔ btM a b L.acts
  us : L.used ≤ 12
  nm : ∀ z ∈ W.line ++ left, ∃ j : Nat, j < L.used ∧ z = nf (j : Int) (hd / 8)
  nn : (W.line ++ left).Nodup
  ac : L.acts.length ≤ k + 8 * L.ends.length
theorem rl0 (nf : Int → Int → Str) (hd : Int) : Rl nf hd 0 lst0 web0 [] where
  w := web0_ok
  ln := fun _ => Iff.rfl
  on := List.nodup_nil
  rn := fun _ h => nomatch h
  run := fun z => ⟨(fun h => nomatch h), (fun h => nomatch h.1)⟩
  rnd := List.nodup_nil
  el := rfl
  aw := fun z t => ⟨(fun h => nomatch h), (fun h => nomatch h)⟩
  ar := fun z t => ⟨(fun h => nomatch h), (fun ⟨_, h⟩ => nomatch h)⟩
  al := fun _ h => nomatch h
  a1 := fun _ h => nomatch h
  pr := fun a b => ⟨(fun h => nomatch h), (fun h => nomatch h)⟩
  anti := fun _ _ h => nomatch h
  bt := fun a b => ⟨(fun h => nomatch h), (fun h => h.elim)⟩
  us := by show 0 ≤ 12; decide
  nm := fun _ h => nomatch h
  nn := List.nodup_nil
  ac := Nat.le_refl _
section
variable {nf : Int → Int → Str} {hd : Int} {k : Nat} {L : Lst} {W : Web} {left : List Str} (r : Rl nf hd k L W left)
include r
theorem Rl.hit (u : Stp) (z : Str) : (∃ x ∈ L.acts, x.1 = z ∧ hitA u x = true) ↔ z ∈ W.line ∧ clB W u z = true := by
  cases u with
  | bg y => exact ⟨fun ⟨x, _, _, h⟩ => by unfold hitA at h; simp at h, fun h => by have := h.2; cases this⟩
  | qt y => exact ⟨fun ⟨x, _, _, h⟩ => by unfold hitA at h; simp at h, fun h => by have := h.2; cases this⟩
  | rd y t =>
    show _ ↔ z ∈ W.line ∧ (!decide (z = y) && decide (tw W z t = some wWrite)) = true
    constructor
    · rintro ⟨⟨x1, x2, x3⟩, hx, rfl, h⟩
      have h : (!decide (x1 = y) && (decide (x2 = t) && decide (x3 = 2))) = true := h
      rw [Bool.and_eq_true, Bool.and_eq_true, decide_eq_true_iff, decide_eq_true_iff] at h
      obtain ⟨h1, rfl, rfl⟩ := h
      exact ⟨(r.al _ hx).2.1, by rw [Bool.and_eq_true]; exact ⟨h1, decide_eq_true ((r.aw _ _).mpr hx)⟩⟩
    · rintro ⟨_, h⟩
      rw [Bool.and_eq_true, decide_eq_true_iff] at h
      refine ⟨_, (r.aw _ _).mp h.2, rfl, ?_⟩
      show (!decide (z = y) && (decide (t = t) && decide (2 = 2))) = true
      rw [h.1, decide_eq_true rfl, decide_eq_true rfl]
      rfl
  | cl y ts =>
    show _ ↔ z ∈ W.line ∧ (!decide (z = y) && ts.any fun t => (tw W z t).isSome) = true
    constructor
    · rintro ⟨⟨x1, x2, x3⟩, hx, rfl, h⟩
      have h : (!decide (x1 = y) && decide (x2 ∈ ts)) = true := h
      rw [Bool.and_eq_true, decide_eq_true_iff] at h
      exact ⟨(r.al _ hx).2.1, by rw [Bool.and_eq_true]; exact ⟨h.1, List.any_eq_true.mpr ⟨x2, h.2, (r.ar _ _).mpr ⟨x3, hx⟩⟩⟩⟩
    · rintro ⟨_, h⟩
      rw [Bool.and_eq_true] at h
      obtain ⟨t, ht, h2⟩ := List.any_eq_true.mp h.2
      obtain ⟨l, hl⟩ := (r.ar _ _).mp h2
      refine ⟨_, hl, rfl, ?_⟩
      show (!decide (z = y) && decide (t ∈ ts)) = true
      rw [h.1, decide_eq_true ht]
      rfl
theorem Rl.hurt (u : Stp) (z : Str) : z ∈ hurtW W u ↔ z ∈ hitsL L u := by
  unfold hurtW hitsL
  rw [List.mem_filter, ← r.hit, List.mem_map]
  exact ⟨fun ⟨x, h1, h2, h3⟩ => ⟨x, List.mem_filter.mpr ⟨h1, h3⟩, h2⟩, fun ⟨x, h1, h2⟩ => ⟨x, (List.mem_filter.mp h1).1, h2, (List.mem_filter.mp h1).2⟩⟩
theorem Rl.arc (a : Str × Str) : a ∈ arcs W.prs ↔ a ∈ oArcs L.out := by
  unfold arcs
  rw [List.mem_map]
  constructor
  · rintro ⟨q, hq, rfl⟩
    obtain ⟨x, y, rfl, _⟩ := r.w.pk q hq
    exact (r.pr x y).mp hq
  · intro h
    exact ⟨[a.1, a.2], (r.pr a.1 a.2).mpr h, rfl⟩
/-- both ask the same of the arcs -/
theorem Rl.now (u : Stp) : NoW (arcs W.prs) u.pr (hurtW W u) ↔ NoW (oArcs L.out) u.pr (hitsL L u) :=
  ⟨NoW.sub r.arc (r.hurt u), NoW.sub (fun a => (r.arc a).symm) (fun z => (r.hurt u z).symm)⟩
theorem Rl.l12 : W.line.length + left.length ≤ L.used := by
  have h := nd_len (W.line ++ left) ((List.range L.used).map fun (j : Nat) => nf (j : Int) (hd / 8)) r.nn fun z hz => by
    obtain ⟨j, hj, e⟩ := r.nm z hz
    exact List.mem_map.mpr ⟨j, List.mem_range.mpr hj, e.symm⟩
  rw [List.length_append, List.length_map, List.length_range] at h
  exact h
theorem Rl.th8 : (thingsV nf hd).length ≤ 8 := by
  unfold thingsV
  rw [List.length_map, List.length_range]
  have := Int.emod_lt_of_pos hd (show (0 : Int) < 8 by decide)
  have := Int.emod_nonneg hd (show (8 : Int) ≠ 0 by decide)
  omega
theorem Rl.tof8 (z : Str) : (tof W z).length ≤ 8 := by
  have h := nd_len ((tof W z).map (·.1)) (thingsV nf hd) (tof_ok r.w z).1 fun t ht => by
    have : (tw W z t).isSome = true := by
      unfold tw
      cases e : valA (tof W z) t with
      | none => exact absurd ht (valA_none.mp e)
      | some v => rfl
    obtain ⟨l, hl⟩ := (r.ar z t).mp this
    exact (r.al _ hl).2.2
  rw [List.length_map] at h
  exact Nat.le_trans h r.th8
/-- at most 66 arcs -/
theorem Rl.p66 : W.prs.length ≤ 66 := by
  have l := r.l12
  have u := r.us
  have h := nd_len (W.prs ++ W.prs.map List.reverse) (W.line.flatMap fun a => (W.line.erase a).map fun b => [a, b]) (List.nodup_append.mpr ⟨r.w.pn, nodup_map_inj (fun a b h => by have := congrArg List.reverse h; simpa using this) r.w.pn, fun p hp q hq e => by
      obtain ⟨q', hq', rfl⟩ := List.mem_map.mp hq
      obtain ⟨a, b, rfl, _⟩ := r.w.pk q' hq'
      rw [e] at hp
      exact r.anti a b hq' hp⟩) fun q hq => by
    rcases List.mem_append.mp hq with hq | hq
    · obtain ⟨a, b, rfl, ha, hb, ne⟩ := r.w.pk q hq
      exact List.mem_flatMap.mpr ⟨a, ha, List.mem_map.mpr ⟨b, (List.mem_erase_of_ne (Ne.symm ne)).mpr hb, rfl⟩⟩
    · obtain ⟨q', hq', rfl⟩ := List.mem_map.mp hq
      obtain ⟨a, b, rfl, ha, hb, ne⟩ := r.w.pk q' hq'
      exact List.mem_flatMap.mpr ⟨b, hb, List.mem_map.mpr ⟨a, (List.mem_erase_of_ne ne).mpr ha, rfl⟩⟩
  have h2 : (W.line.flatMap fun a => (W.line.erase a).map fun b => [a, b]).length ≤ W.line.length * (W.line.length - 1) := flat_len fun a ha => by
    rw [List.length_map, List.length_erase_of_mem ha]
    exact Nat.le_refl _
  have h3 : W.line.length * (W.line.length - 1) ≤ 12 * 11 := Nat.mul_le_mul (by omega) (by omega)
  rw [List.length_append, List.length_map] at h
  omega
end
end Kx

namespace Kx
open PySem PySem.Spec PyProof.Rows L2 NdefX Kr Ke Kn Kz Ky Kg StX
/-! ### one step of both -/
theorem outF_nil (l : List (Str × List Str)) : outF [] l = l := by
  unfold outF
  rw [List.filter_eq_self.mpr (fun _ _ => by simp)]
  have : ∀ e ∈ l, (e.1, e.2.filter fun y => !decide (y ∈ ([] : List Str))) = e := fun e _ => by
    rw [List.filter_eq_self.mpr (fun _ _ => by simp)]
  rw [List.map_congr_left this]
  exact List.map_id' _
theorem outF_arcs {gone : List Str} {l : List (Str × List Str)} {a b : Str} : (a, b) ∈ oArcs (outF gone l) ↔ (a, b) ∈ oArcs l ∧ a ∉ gone ∧ b ∉ gone := by
  rw [oArcs_mem, oArcs_mem]
  unfold outF
  constructor
  · rintro ⟨r, hr, hb⟩
    obtain ⟨e, he, eq⟩ := List.mem_map.mp hr
    injection eq with e1 e2
    obtain ⟨h1, h2⟩ := List.mem_filter.mp he
    rw [← e2] at hb
    obtain ⟨h3, h4⟩ := List.mem_filter.mp hb
    exact ⟨⟨e.2, by rw [← e1]; exact h1, h3⟩, by rw [← e1]; simpa using h2, by simpa using h4⟩
  · rintro ⟨⟨r, hr, hb⟩, h1, h2⟩
    exact ⟨_, List.mem_map.mpr ⟨(a, r), List.mem_filter.mpr ⟨hr, by simpa using h1⟩, rfl⟩, List.mem_filter.mpr ⟨hb, by simpa using h2⟩⟩
theorem outF_nd {gone : List Str} {l : List (Str × List Str)} (h : ∀ e ∈ l, e.2.Nodup) : ∀ e ∈ outF gone l, e.2.Nodup := fun e he => by
  unfold outF at he
  obtain ⟨u, hu, rfl⟩ := List.mem_map.mp he
  exact (h u (List.mem_filter.mp hu).1).filter _
theorem put_arcs {l : List (Str × List Str)} (n : (l.map (·.1)).Nodup) {one : Str} {r r' : List Str} (h : valA l one = some r) {a b : Str} : (a, b) ∈ oArcs (putA l one r') ↔ if a = one then b ∈ r' else (a, b) ∈ oArcs l := by
  have n' := putA_nd n one r'
  have val : ∀ {m : List (Str × List Str)}, (m.map (·.1)).Nodup → ((a, b) ∈ oArcs m ↔ ∃ q, valA m a = some q ∧ b ∈ q) := fun {m} nm => by
    rw [oArcs_mem]
    exact ⟨fun ⟨q, hq, hb⟩ => ⟨q, valA_at nm hq, hb⟩, fun ⟨q, hq, hb⟩ => ⟨q, valA_mem hq, hb⟩⟩
  rw [val n', valA_put]
  by_cases c : a = one
  · rw [if_pos c, if_pos c]
    exact ⟨fun ⟨q, e, hb⟩ => by injection e with e; rw [e]; exact hb, fun hb => ⟨r', rfl, hb⟩⟩
  · rw [if_neg c, if_neg c, val n]
theorem val_arcs {l : List (Str × List Str)} (n : (l.map (·.1)).Nodup) {one : Str} {r : List Str} (h : valA l one = some r) {b : Str} : (one, b) ∈ oArcs l ↔ b ∈ r := by
  rw [oArcs_mem]
  refine ⟨fun ⟨q, hq, hb⟩ => ?_, fun hb => ⟨r, valA_mem h, hb⟩⟩
  have := valA_at n hq
  rw [h] at this
  injection this with this
  exact this ▸ hb
theorem addN_arcs {l : List (Str × List Str)} (n : (l.map (·.1)).Nodup) {name one : Str} (hk : one ∈ l.map (·.1)) {a b : Str} : (a, b) ∈ oArcs (addN name l one) ↔ (a, b) ∈ oArcs l ∨ (b = name ∧ a = one) := by
  cases e : valA l one with
  | none => exact absurd hk (valA_none.mp e)
  | some r =>
    have ea : addN name l one = if name ∈ r then l else putA l one (r ++ [name]) := by unfold addN; rw [e]
    rw [ea]
    by_cases m : name ∈ r
    · rw [if_pos m]
      exact ⟨.inl, fun h => h.elim id fun ⟨h1, h2⟩ => by rw [h1, h2]; exact (val_arcs n e).mpr m⟩
    · rw [if_neg m, put_arcs n e]
      by_cases c : a = one
      · subst c
        rw [if_pos rfl, List.mem_append, List.mem_singleton, val_arcs n e]
        simp
      · rw [if_neg c]
        simp [c]
theorem addN_nd {l : List (Str × List Str)} (h : ∀ e ∈ l, e.2.Nodup) {name one : Str} : ∀ e ∈ addN name l one, e.2.Nodup := by
  cases ev : valA l one with
  | none =>
    have ea : addN name l one = l := by unfold addN; rw [ev]
    rw [ea]
    exact h
  | some r =>
    have ea : addN name l one = if name ∈ r then l else putA l one (r ++ [name]) := by unfold addN; rw [ev]
    rw [ea]
    by_cases m : name ∈ r
    · rw [if_pos m]
      exact h
    · rw [if_neg m]
      intro e he
      rcases putA_in he with rfl | he
      · exact List.nodup_append.mpr ⟨h _ (valA_mem ev), List.pairwise_singleton _ _, fun x hx y hy e' => m (by rw [← List.mem_singleton.mp hy, ← e']; exact hx)⟩
      · exact h e he
theorem fold_arcs {name : Str} : ∀ (g : List Str) {l : List (Str × List Str)}, (l.map (·.1)).Nodup → (∀ y ∈ g, y ∈ l.map (·.1)) → ∀ {a b : Str}, (a, b) ∈ oArcs (g.foldl (addN name) l) ↔ (a, b) ∈ oArcs l ∨ (b = name ∧ a ∈ g)
  | [], l, _, _, a, b => by simp
  | y :: g, l, n, h, a, b => by
    rw [List.foldl_cons, fold_arcs g (by rw [addN_keys]; exact n) (fun z hz => by rw [addN_keys]; exact h z (List.mem_cons_of_mem _ hz)), addN_arcs n (h y List.mem_cons_self), List.mem_cons]
    constructor
    · rintro ((h | ⟨h1, h2⟩) | ⟨h1, h2⟩)
      · exact .inl h
      · exact .inr ⟨h1, .inl h2⟩
      · exact .inr ⟨h1, .inr h2⟩
    · rintro (h | ⟨h1, h2 | h2⟩)
      · exact .inl (.inl h)
      · exact .inl (.inr ⟨h1, h2⟩)
      · exact .inr ⟨h1, h2⟩
theorem fold_nd {name : Str} : ∀ (g : List Str) {l : List (Str × List Str)}, (∀ e ∈ l, e.2.Nodup) → ∀ e ∈ g.foldl (addN name) l, e.2.Nodup
  | [], l, h => h
  | y :: g, l, h => fun e he => fold_nd g (addN_nd (name := name) (one := y) h) e he
theorem tof_put {W : Web} {z : Str} {U : List (Str × Str)} {line ended : List Str} {P : List (List Str)} (y : Str) : tof ⟨line, ended, putA W.tch z U, P⟩ y = if y = z then U else tof W y := by
  unfold tof
  show (valA (putA W.tch z U) y).getD [] = _
  rw [valA_put]
  by_cases c : y = z
  · rw [if_pos c, if_pos c]; rfl
  · rw [if_neg c, if_neg c]
theorem tcl_val (ts : List Str) : ∀ (U : List (Str × Str)) (t : Str), valA (tcl U ts) t = if t ∈ ts then some wWrite else valA U t := by
  induction ts with
  | nil => exact fun U t => by simp [tcl]
  | cons y r ih =>
    intro U t
    show valA (tcl (putA U y wWrite) r) t = _
    rw [ih, valA_put]
    by_cases c : t ∈ r
    · rw [if_pos c, if_pos (List.mem_cons_of_mem _ c)]
    · rw [if_neg c]
      by_cases e : t = y
      · rw [if_pos e, if_pos (e ▸ List.mem_cons_self)]
      · rw [if_neg e, if_neg (fun h => (List.mem_cons.mp h).elim e c)]
theorem drP_mem {W : Web} {s : Stp} {c : List Str} {a b : Str} : [a, b] ∈ drP W s c ↔ [a, b] ∈ W.prs ∨ (b = s.pr ∧ a ∈ c) := by
  unfold drP
  rw [List.mem_append, List.mem_filter, List.mem_map]
  constructor
  · rintro (h | ⟨⟨o, ho, e⟩, _⟩)
    · exact .inl h
    · injection e with e1 e2
      injection e2 with e2
      exact .inr ⟨e2.symm, e1 ▸ ho⟩
  · rintro (h | ⟨h1, h2⟩)
    · exact .inl h
    · by_cases m : [a, b] ∈ W.prs
      · exact .inl m
      · exact .inr ⟨⟨a, h2, by rw [h1]⟩, by simpa using m⟩
end Kx

namespace Kx
open PySem PySem.Spec PyProof.Rows L2 NdefX Kr Ke Kn Kz Ky Kg StX
/-! ### the relation goes on -/
section
variable {nf : Int → Int → Str} {hd : Int} {k : Nat} {L : Lst} {W : Web} {left : List Str}
theorem gin {u : Stp} {g : List Str} (r : Rl nf hd k L W left) (hg : HitOf L u g) : ∀ y ∈ g, y ∈ (outF (goneL u) L.out).map (·.1) := fun y hy => by
  obtain ⟨act, ha, rfl, hh⟩ := (hg.m y).mp hy
  rw [outF_keys]
  refine List.mem_filter.mpr ⟨(r.ln _).mp (r.al act ha).2.1, ?_⟩
  cases u with
  | qt z => unfold hitA at hh; simp at hh
  | bg z => rfl
  | rd z t => rfl
  | cl z ts => rfl
theorem gc {u : Stp} {g c : List Str} (r : Rl nf hd k L W left) (hg : HitOf L u g) (cl : ClashOf W u c) (z : Str) : z ∈ g ↔ z ∈ c := by rw [hg.m, r.hit, cl.m]
theorem nil_g {u : Stp} {g : List Str} (hg : HitOf L u g) (h : ∀ x, hitA u x = false) : g = [] := List.eq_nil_iff_forall_not_mem.mpr fun z hz => by
  obtain ⟨x, _, _, hh⟩ := (hg.m z).mp hz
  rw [h x] at hh
  cases hh
/-- the arcs behind a read or a close -/
theorem anti_dr (r : Rl nf hd k L W left) {u : Stp} {c : List Str} (cl : ClashOf W u c) (nw : NoW (arcs W.prs) u.pr (hurtW W u)) : ∀ a b, [a, b] ∈ drP W u c → [b, a] ∉ drP W u c := by
  have hc : ∀ z, z ∈ c → z ∈ hurtW W u := fun z hz => by
    unfold hurtW
    exact List.mem_filter.mpr ((cl.m z).mp hz)
  have no : u.pr ∉ c := fun h => nw [u.pr] u.pr .one (hc _ h)
  have far : ∀ z, z ∈ c → [u.pr, z] ∉ W.prs := fun z hz h => nw ([u.pr] ++ [z]) z (.snoc .one (List.mem_map.mpr ⟨_, h, rfl⟩)) (hc z hz)
  intro a b h h'
  rcases drP_mem.mp h with h | ⟨h1, h2⟩
  · rcases drP_mem.mp h' with h' | ⟨h1', h2'⟩
    · exact r.anti a b h h'
    · exact far b h2' (h1' ▸ h)
  · rcases drP_mem.mp h' with h' | ⟨h1', h2'⟩
    · exact far a h2 (h1 ▸ h')
    · exact no (h1' ▸ h2)
theorem dr_arcs (r : Rl nf hd k L W left) {u : Stp} {g c : List Str} (hg : HitOf L u g) (cl : ClashOf W u c) (hu : goneL u = []) (a b : Str) : [a, b] ∈ drP W u c ↔ (a, b) ∈ oArcs (g.foldl (addN u.pr) (outF (goneL u) L.out)) := by
  rw [drP_mem, fold_arcs g (by rw [outF_keys]; exact r.on.filter _) (gin r hg), hu, outF_nil, r.pr, gc r hg cl]
theorem fold_keys0 {u : Stp} {g : List Str} (hu : goneL u = []) : (g.foldl (addN u.pr) (outF (goneL u) L.out)).map (·.1) = L.out.map (·.1) := by rw [fold_keys, hu, outF_nil]
theorem step_rd (r : Rl nf hd k L W left) {z t : Str} {g c : List Str} (o : StOk W (.rd z t)) (du : t ∈ thingsV nf hd) (hg : HitOf L (.rd z t) g) (cl : ClashOf W (.rd z t) c) (nw : NoW (arcs W.prs) z (hurtW W (.rd z t))) : Rl nf hd (k + 1) (tkL L (.rd z t) g) (aftW W (.rd z t) c) left := by
  obtain ⟨zl, ze⟩ := o.run (fun _ h => nomatch h)
  have zl : z ∈ W.line := zl
  have ze : z ∉ W.ended := ze
  have zr : z ∈ L.run := (r.run z).mpr ⟨zl, ze⟩
  have tw' : ∀ y t', tw (aftW W (.rd z t) c) y t' = if y = z ∧ t' = t then some wRead else tw W y t' := fun y t' => by
    show valA (tof (rdW W z t _) y) t' = _
    unfold rdW
    rw [tof_put]
    by_cases e : y = z
    · subst e
      rw [if_pos rfl, valA_put]
      by_cases e' : t' = t
      · rw [if_pos e', if_pos ⟨rfl, e'⟩]
      · rw [if_neg e', if_neg (fun h => e' h.2)]
        rfl
    · rw [if_neg e, if_neg (fun h => e h.1)]
      rfl
  have am : ∀ x, x ∈ (tkL L (.rd z t) g).acts ↔ x ∈ L.acts ∨ x = (z, t, 1) := fun x => by
    show x ∈ L.acts ++ [(z, t, 1)] ↔ _
    rw [List.mem_append, List.mem_singleton]
  have rw_ne : ¬ (some wRead = some wWrite) := by
    intro h
    injection h with h
    exact absurd h (by decide +kernel)
  have ok' : (tkL L (.rd z t) g).out.map (·.1) = L.out.map (·.1) := fold_keys0 (u := .rd z t) (g := g) (L := L) rfl
  refine ⟨aft_web r.w o cl, fun y => by rw [ok']; exact r.ln y, by rw [ok']; exact r.on, ?_, r.run, r.rnd, r.el, fun y t' => ?_, fun y t' => ?_, fun x hx => ?_, fun x hx hr => ?_, dr_arcs r hg cl rfl, anti_dr r cl nw, fun a b => ?_, r.us, r.nm, r.nn, ?_⟩
  · exact fold_nd g (outF_nd r.rn)
  · rw [tw', am]
    by_cases e : y = z ∧ t' = t
    · rw [if_pos e]
      refine ⟨fun h => absurd h rw_ne, fun h => ?_⟩
      rcases h with h | h
      · have := r.a1 _ h (by rw [e.1]; exact zr)
        cases this
      · injection h with _ h
        injection h with _ h
        cases h
    · rw [if_neg e, r.aw]
      refine ⟨.inl, fun h => h.elim id fun h => ?_⟩
      injection h with h1 h2
      injection h2 with h2 h3
      cases h3
  · rw [tw']
    by_cases e : y = z ∧ t' = t
    · rw [if_pos e]
      exact ⟨fun _ => ⟨1, (am _).mpr (.inr (by rw [e.1, e.2]))⟩, fun _ => rfl⟩
    · rw [if_neg e, r.ar]
      refine ⟨fun ⟨l, h⟩ => ⟨l, (am _).mpr (.inl h)⟩, fun ⟨l, h⟩ => ?_⟩
      rcases (am _).mp h with h | h
      · exact ⟨l, h⟩
      · injection h with h1 h2
        injection h2 with h2 h3
        exact absurd ⟨h1, h2⟩ e
  · rcases (am x).mp hx with h | rfl
    · exact r.al x h
    · exact ⟨.inl rfl, zl, du⟩
  · rcases (am x).mp hx with h | rfl
    · exact r.a1 x h hr
    · rfl
  · show [a, b] ∈ drP W (.rd z t) c ↔ btM a b (L.acts ++ [(z, t, 1)])
    rw [drP_mem, btM_app, r.bt, cl.m, ← r.hit]
    constructor
    · rintro (h | ⟨h1, x, hx, h2, h3⟩)
      · exact .inl h
      · refine .inr (.inr ⟨x, hx, _, List.mem_singleton.mpr rfl, h2, h1.symm, ?_⟩)
        have h3 : (!decide (x.1 = z) && (decide (x.2.1 = t) && decide (x.2.2 = 2))) = true := h3
        rw [Bool.and_eq_true, Bool.and_eq_true, decide_eq_true_iff, decide_eq_true_iff] at h3
        unfold pairA
        rw [h3.1, decide_eq_true h3.2.1, h3.2.2]
        rfl
    · rintro (h | h | ⟨x, hx, y, hy, h1, h2, h3⟩)
      · exact .inl h
      · exact (h.elim (fun ⟨_, _, hy, _⟩ => nomatch hy) fun h => h.elim)
      · rw [List.mem_singleton.mp hy] at h2 h3
        refine .inr ⟨h2.symm, x, hx, h1, ?_⟩
        unfold pairA at h3
        rw [Bool.and_eq_true, Bool.and_eq_true, decide_eq_true_iff, decide_eq_true_iff] at h3
        show (!decide (x.1 = z) && (decide (x.2.1 = t) && decide (x.2.2 = 2))) = true
        have h4 : x.2.2 + 1 > 2 := h3.2.2
        have h5 := (r.al x hx).1
        rw [h3.2.1, decide_eq_true h3.1, decide_eq_true (by omega)]
        rfl
  · show (L.acts ++ [(z, t, 1)]).length ≤ k + 1 + 8 * L.ends.length
    have := r.ac
    rw [List.length_append]
    show L.acts.length + 1 ≤ _
    omega
end
end Kx

namespace Kx
open PySem PySem.Spec PyProof.Rows L2 NdefX Kr Ke Kn Kz Ky Kg StX
section
variable {nf : Int → Int → Str} {hd : Int} {k : Nat} {L : Lst} {W : Web} {left left' : List Str}
theorem step_bg (r : Rl nf hd k L W left) {z : Str} {g c : List Str} (o : StOk W (.bg z)) (hg : HitOf L (.bg z) g) (cl : ClashOf W (.bg z) c) (u12 : L.used < 12)
    (nm' : ∀ y ∈ (W.line ++ [z]) ++ left', ∃ j : Nat, j < L.used + 1 ∧ y = nf (j : Int) (hd / 8)) (nn' : ((W.line ++ [z]) ++ left').Nodup) : Rl nf hd (k + 1) (tkL L (.bg z) g) (aftW W (.bg z) c) left' := by
  have hn := o.bg z rfl
  have g0 : g = [] := nil_g hg fun x => by unfold hitA; simp
  subst g0
  have eo : (tkL L (.bg z) []).out = L.out ++ [(z, [])] := by
    show outF [] L.out ++ [(z, [])] = _
    rw [outF_nil]
  have zk : z ∉ L.out.map (·.1) := fun h => hn ((r.ln z).mpr h)
  have tw' : ∀ y t', tw (aftW W (.bg z) c) y t' = if y = z then none else tw W y t' := fun y t' => by
    show valA (tof (begW W z) y) t' = _
    unfold begW
    rw [tof_put]
    by_cases e : y = z
    · rw [if_pos e, if_pos e]; rfl
    · rw [if_neg e, if_neg e]; rfl
  have za : ∀ x ∈ L.acts, x.1 ≠ z := fun x hx e => hn (e ▸ (r.al x hx).2.1)
  refine ⟨aft_web r.w o cl, fun y => ?_, ?_, fun e he => ?_, fun y => ?_, ?_, r.el, fun y t' => ?_, fun y t' => ?_, fun x hx => ⟨(r.al x hx).1, List.mem_append_left _ (r.al x hx).2.1, (r.al x hx).2.2⟩, fun x hx hr => ?_, fun a b => ?_, r.anti, r.bt, by show L.used + 1 ≤ 12; omega, nm', nn', Nat.le_trans r.ac (by show k + 8 * L.ends.length ≤ k + 1 + 8 * L.ends.length; omega)⟩
  · rw [eo, List.map_append, List.mem_append]
    show y ∈ W.line ++ [z] ↔ _
    rw [List.mem_append, r.ln]
    exact Iff.rfl
  · rw [eo, List.map_append]
    exact List.nodup_append.mpr ⟨r.on, List.pairwise_singleton _ _, fun a ha b hb e => zk (by rw [show z = b from (List.mem_singleton.mp hb).symm, ← e]; exact ha)⟩
  · rw [eo] at he
    rcases List.mem_append.mp he with he | he
    · exact r.rn e he
    · rw [List.mem_singleton.mp he]
      exact List.nodup_nil
  · show y ∈ L.run ++ [z] ↔ y ∈ W.line ++ [z] ∧ y ∉ W.ended
    rw [List.mem_append, List.mem_append, r.run, List.mem_singleton]
    constructor
    · rintro (⟨h1, h2⟩ | rfl)
      · exact ⟨.inl h1, h2⟩
      · exact ⟨.inr rfl, fun h => hn (r.w.el _ h)⟩
    · rintro ⟨h1 | h1, h2⟩
      · exact .inl ⟨h1, h2⟩
      · exact .inr h1
  · exact List.nodup_append.mpr ⟨r.rnd, List.pairwise_singleton _ _, fun a ha b hb e => hn (by rw [← List.mem_singleton.mp hb, ← e]; exact ((r.run a).mp ha).1)⟩
  · rw [tw']
    by_cases e : y = z
    · rw [if_pos e]
      exact ⟨(fun h => nomatch h), fun h => absurd e (za _ h)⟩
    · rw [if_neg e]
      exact r.aw y t'
  · rw [tw']
    by_cases e : y = z
    · rw [if_pos e]
      exact ⟨(fun h => nomatch h), fun ⟨l, h⟩ => absurd e (za _ h)⟩
    · rw [if_neg e]
      exact r.ar y t'
  · rcases List.mem_append.mp (show x.1 ∈ L.run ++ [z] from hr) with h | h
    · exact r.a1 x hx h
    · exact absurd (List.mem_singleton.mp h) (za x hx)
  · show [a, b] ∈ W.prs ↔ _
    rw [r.pr, eo, oArcs_mem, oArcs_mem]
    refine exists_congr fun q => ?_
    rw [List.mem_append]
    refine ⟨fun ⟨h1, h2⟩ => ⟨.inl h1, h2⟩, fun ⟨h1, h2⟩ => ⟨h1.elim id fun h => ?_, h2⟩⟩
    have := List.mem_singleton.mp h
    injection this with _ h3
    rw [h3] at h2
    cases h2
theorem valA_mapf {β : Type} (f : Str → β) (l : List Str) (y : Str) : valA (l.map fun z => (z, f z)) y = if y ∈ l then some (f y) else none := by
  induction l with
  | nil => rfl
  | cons a r ih =>
    rw [List.map_cons, valA_cons, ih]
    by_cases e : a = y
    · rw [if_pos e, if_pos (e ▸ List.mem_cons_self)]
      show some (f a) = _
      rw [e]
    · rw [if_neg e]
      by_cases h : y ∈ r
      · rw [if_pos h, if_pos (List.mem_cons_of_mem _ h)]
      · rw [if_neg h, if_neg (fun h' => (List.mem_cons.mp h').elim (fun c => e c.symm) h)]
theorem step_qt (r : Rl nf hd k L W left) {z : Str} {g c : List Str} (o : StOk W (.qt z)) (hg : HitOf L (.qt z) g) (cl : ClashOf W (.qt z) c)
    (nm' : ∀ y ∈ (aftW W (.qt z) c).line ++ left', ∃ j : Nat, j < L.used ∧ y = nf (j : Int) (hd / 8)) (nn' : ((aftW W (.qt z) c).line ++ left').Nodup) : Rl nf hd (k + 1) (tkL L (.qt z) g) (aftW W (.qt z) c) left' := by
  obtain ⟨zl, ze⟩ := o.run (fun _ h => nomatch h)
  have zl : z ∈ W.line := zl
  have ze : z ∉ W.ended := ze
  have g0 : g = [] := nil_g hg fun x => by unfold hitA; simp
  subst g0
  have eo : (tkL L (.qt z) []).out = outF [z] L.out := rfl
  have fl : ∀ y, y ∈ W.line.filter (fun n => !decide (n ∈ [z])) ↔ y ∈ W.line ∧ y ≠ z := fun y => by
    rw [List.mem_filter]
    simp
  have eL : ∀ y, y ∈ (aftW W (.qt z) c).line ↔ y ∈ W.line ∧ y ≠ z := fl
  have eE : (aftW W (.qt z) c).ended = W.ended := List.filter_eq_self.mpr fun y hy => by
    have : y ≠ z := fun e => ze (e ▸ hy)
    simp [this]
  have tw' : ∀ y t', tw (aftW W (.qt z) c) y t' = if y = z then none else tw W y t' := fun y t' => by
    show valA ((valA ((W.line.filter fun n => !decide (n ∈ [z])).map fun z => (z, tof W z)) y).getD []) t' = _
    rw [valA_mapf]
    by_cases e : y = z
    · rw [if_pos e, if_neg (fun h => ((fl y).mp h).2 e)]; rfl
    · rw [if_neg e]
      by_cases h : y ∈ W.line
      · rw [if_pos ((fl y).mpr ⟨h, e⟩)]; rfl
      · rw [if_neg (fun h' => h ((fl y).mp h').1)]
        have : tof W y = [] := by
          unfold tof
          rw [valA_none.mpr (fun h' => h ((r.w.tk y).mp h'))]
          rfl
        unfold tw
        rw [this]
        rfl
  have am : ∀ x, x ∈ (tkL L (.qt z) []).acts ↔ x ∈ L.acts ∧ x.1 ≠ z := fun x => by
    show x ∈ L.acts.filter (fun x => !decide (x.1 = z)) ↔ _
    rw [List.mem_filter]
    simp
  have pm : ∀ a b, [a, b] ∈ (aftW W (.qt z) c).prs ↔ [a, b] ∈ W.prs ∧ a ≠ z ∧ b ≠ z := fun a b => by
    show [a, b] ∈ W.prs.filter (fun q => !decide (z ∈ q)) ↔ _
    rw [List.mem_filter]
    have : (!decide (z ∈ [a, b])) = true ↔ a ≠ z ∧ b ≠ z := by
      rw [Bool.not_eq_true', decide_eq_false_iff_not, List.mem_cons, List.mem_singleton, not_or]
      exact and_congr ⟨fun h e => h e.symm, fun h e => h e.symm⟩ ⟨fun h e => h e.symm, fun h e => h e.symm⟩
    rw [this]
  have rm : ∀ y, y ∈ (tkL L (.qt z) []).run ↔ y ∈ L.run ∧ y ≠ z := fun y => by
    show y ∈ L.run.filter (fun n => !decide (n = z)) ↔ _
    rw [List.mem_filter]
    simp
  refine ⟨aft_web r.w o cl, fun y => ?_, ?_, outF_nd r.rn, fun y => ?_, r.rnd.filter _, by rw [eE]; exact r.el, fun y t' => ?_, fun y t' => ?_, fun x hx => ?_, fun x hx hr => ?_, fun a b => ?_, fun a b h h' => ?_, fun a b => ?_, r.us, nm', nn', ?_⟩
  · rw [eL, eo, outF_keys, List.mem_filter, r.ln]
    simp
  · rw [eo, outF_keys]
    exact r.on.filter _
  · rw [rm, eL, eE, r.run]
    exact ⟨fun ⟨⟨a, b⟩, c⟩ => ⟨⟨a, c⟩, b⟩, fun ⟨⟨a, c⟩, b⟩ => ⟨⟨a, b⟩, c⟩⟩
  · rw [tw', am]
    by_cases e : y = z
    · rw [if_pos e]
      exact ⟨(fun h => nomatch h), fun h => absurd e h.2⟩
    · rw [if_neg e, r.aw]
      exact ⟨fun h => ⟨h, e⟩, fun h => h.1⟩
  · rw [tw']
    by_cases e : y = z
    · rw [if_pos e]
      exact ⟨(fun h => nomatch h), fun ⟨l, h⟩ => absurd e ((am _).mp h).2⟩
    · rw [if_neg e, r.ar]
      exact ⟨fun ⟨l, h⟩ => ⟨l, (am _).mpr ⟨h, e⟩⟩, fun ⟨l, h⟩ => ⟨l, ((am _).mp h).1⟩⟩
  · obtain ⟨h1, h2⟩ := (am x).mp hx
    exact ⟨(r.al x h1).1, (eL _).mpr ⟨(r.al x h1).2.1, h2⟩, (r.al x h1).2.2⟩
  · exact r.a1 x ((am x).mp hx).1 ((rm _).mp hr).1
  · rw [pm, eo, outF_arcs, r.pr, List.mem_singleton, List.mem_singleton]
  · exact r.anti a b ((pm a b).mp h).1 ((pm b a).mp h').1
  · rw [pm, r.bt]
    show _ ↔ btM a b (L.acts.filter fun x => !decide (x.1 = z))
    rw [btM_filt]
  · show (L.acts.filter fun x => !decide (x.1 = z)).length ≤ k + 1 + 8 * L.ends.length
    have h1 := List.length_filter_le (fun x : Act => !decide (x.1 = z)) L.acts
    have h2 := r.ac
    omega
end
end Kx

namespace Kx
open PySem PySem.Spec PyProof.Rows L2 NdefX Kr Ke Kn Kz Ky Kg StX
section
variable {nf : Int → Int → Str} {hd : Int} {k : Nat} {L : Lst} {W : Web} {left : List Str}
theorem step_cl (r : Rl nf hd k L W left) {z : Str} {ts : List Str} {g c : List Str} (o : StOk W (.cl z ts)) (du : ∀ t ∈ ts, t ∈ thingsV nf hd) (l8 : ts.length ≤ 8) (hg : HitOf L (.cl z ts) g) (cl : ClashOf W (.cl z ts) c) (nw : NoW (arcs W.prs) z (hurtW W (.cl z ts))) : Rl nf hd (k + 1) (tkL L (.cl z ts) g) (aftW W (.cl z ts) c) left := by
  obtain ⟨zl, ze⟩ := o.run (fun _ h => nomatch h)
  have zl : z ∈ W.line := zl
  have ze : z ∉ W.ended := ze
  have zr : z ∈ L.run := (r.run z).mpr ⟨zl, ze⟩
  have eL : ∀ y, y ∈ (aftW W (.cl z ts) c).line ↔ y ∈ W.line := fun y => by
    show y ∈ (W.line.filter fun n => !decide (n = z)) ++ [z] ↔ _
    rw [List.mem_append, List.mem_filter, List.mem_singleton]
    by_cases e : y = z
    · simp [e, zl]
    · simp [e]
  have pL : (aftW W (.cl z ts) c).line.Perm W.line := (List.perm_ext_iff_of_nodup (aft_web r.w o cl).nd r.w.nd).mpr eL
  have tw' : ∀ y t', tw (aftW W (.cl z ts) c) y t' = if y = z ∧ t' ∈ ts then some wWrite else tw W y t' := fun y t' => by
    show valA (tof (clW W z ts _) y) t' = _
    unfold clW
    rw [tof_put]
    by_cases e : y = z
    · subst e
      rw [if_pos rfl, tcl_val]
      by_cases e' : t' ∈ ts
      · rw [if_pos e', if_pos ⟨rfl, e'⟩]
      · rw [if_neg e', if_neg (fun h => e' h.2)]
        rfl
    · rw [if_neg e, if_neg (fun h => e h.1)]
      rfl
  have am : ∀ x, x ∈ (tkL L (.cl z ts) g).acts ↔ x ∈ L.acts ∨ ∃ t ∈ ts, x = (z, t, 2) := fun x => by
    show x ∈ L.acts ++ ts.map (fun t => (z, t, 2)) ↔ _
    rw [List.mem_append, List.mem_map]
    exact or_congr Iff.rfl ⟨fun ⟨t, h, e⟩ => ⟨t, h, e.symm⟩, fun ⟨t, h, e⟩ => ⟨t, h, e.symm⟩⟩
  have rm : ∀ y, y ∈ (tkL L (.cl z ts) g).run ↔ y ∈ L.run ∧ y ≠ z := fun y => by
    show y ∈ L.run.filter (fun n => !decide (n = z)) ↔ _
    rw [List.mem_filter]
    simp
  have em : ∀ y, y ∈ (aftW W (.cl z ts) c).ended ↔ y ∈ W.ended ∨ y = z := fun y => by
    show y ∈ W.ended ++ [z] ↔ _
    rw [List.mem_append, List.mem_singleton]
  have ok' : (tkL L (.cl z ts) g).out.map (·.1) = L.out.map (·.1) := fold_keys0 (u := .cl z ts) (g := g) (L := L) rfl
  have own : ∀ a b (m : List Str), ¬ btM a b (m.map fun t => (z, t, 2)) := fun a b m => by
    induction m with
    | nil => exact fun h => h
    | cons t m ih =>
      rintro (⟨_, y, hy, _, h⟩ | h)
      · obtain ⟨t', _, rfl⟩ := List.mem_map.mp hy
        unfold pairA at h
        simp at h
      · exact ih h
  refine ⟨aft_web r.w o cl, fun y => by rw [ok', eL]; exact r.ln y, by rw [ok']; exact r.on, ?_, fun y => ?_, r.rnd.filter _, ?_, fun y t' => ?_, fun y t' => ?_, fun x hx => ?_, fun x hx hr => ?_, dr_arcs r hg cl rfl, anti_dr r cl nw, fun a b => ?_, r.us, fun y hy => ?_, ?_, ?_⟩
  · exact fold_nd g (outF_nd r.rn)
  · rw [rm, eL, em, r.run, not_or]
    exact ⟨fun ⟨⟨a, b⟩, c⟩ => ⟨a, b, c⟩, fun ⟨a, b, c⟩ => ⟨⟨a, b⟩, c⟩⟩
  · show (L.ends ++ [z]).length = (W.ended ++ [z]).length
    rw [List.length_append, List.length_append, r.el]
  · rw [tw', am]
    by_cases e : y = z ∧ t' ∈ ts
    · rw [if_pos e]
      exact ⟨fun _ => .inr ⟨t', e.2, by rw [e.1]⟩, fun _ => rfl⟩
    · rw [if_neg e, r.aw]
      refine ⟨.inl, fun h => h.elim id fun ⟨t, ht, h⟩ => ?_⟩
      injection h with h1 h2
      injection h2 with h2 h3
      exact absurd ⟨h1, h2 ▸ ht⟩ e
  · rw [tw']
    by_cases e : y = z ∧ t' ∈ ts
    · rw [if_pos e]
      exact ⟨fun _ => ⟨2, (am _).mpr (.inr ⟨t', e.2, by rw [e.1]⟩)⟩, fun _ => rfl⟩
    · rw [if_neg e, r.ar]
      refine ⟨fun ⟨l, h⟩ => ⟨l, (am _).mpr (.inl h)⟩, fun ⟨l, h⟩ => ?_⟩
      rcases (am _).mp h with h | ⟨t, ht, h⟩
      · exact ⟨l, h⟩
      · injection h with h1 h2
        injection h2 with h2 h3
        exact absurd ⟨h1, h2 ▸ ht⟩ e
  · rcases (am x).mp hx with h | ⟨t, ht, rfl⟩
    · exact ⟨(r.al x h).1, (eL _).mpr (r.al x h).2.1, (r.al x h).2.2⟩
    · exact ⟨.inr rfl, (eL _).mpr zl, du t ht⟩
  · obtain ⟨h1, h2⟩ := (rm _).mp hr
    rcases (am x).mp hx with h | ⟨t, ht, rfl⟩
    · exact r.a1 x h h1
    · exact absurd rfl h2
  · show [a, b] ∈ drP W (.cl z ts) c ↔ btM a b (L.acts ++ ts.map fun t => (z, t, 2))
    rw [drP_mem, btM_app, r.bt, cl.m, ← r.hit]
    constructor
    · rintro (h | ⟨h1, x, hx, h2, h3⟩)
      · exact .inl h
      · have h3 : (!decide (x.1 = z) && decide (x.2.1 ∈ ts)) = true := h3
        rw [Bool.and_eq_true, decide_eq_true_iff] at h3
        refine .inr (.inr ⟨x, hx, (z, x.2.1, 2), List.mem_map.mpr ⟨_, h3.2, rfl⟩, h2, h1.symm, ?_⟩)
        have h5 := (r.al x hx).1
        unfold pairA
        show (decide (x.2.1 = x.2.1) && (!decide (x.1 = z) && decide (x.2.2 + 2 > 2))) = true
        rw [h3.1, decide_eq_true rfl, decide_eq_true (by omega)]
        rfl
    · rintro (h | h | ⟨x, hx, y, hy, h1, h2, h3⟩)
      · exact .inl h
      · exact absurd h (own a b ts)
      · obtain ⟨t, ht, rfl⟩ := List.mem_map.mp hy
        refine .inr ⟨h2.symm, x, hx, h1, ?_⟩
        unfold pairA at h3
        rw [Bool.and_eq_true, Bool.and_eq_true, decide_eq_true_iff, decide_eq_true_iff] at h3
        show (!decide (x.1 = z) && decide (x.2.1 ∈ ts)) = true
        rw [h3.2.1, h3.1, decide_eq_true ht]
        rfl
  · refine r.nm y ?_
    rcases List.mem_append.mp hy with h | h
    · exact List.mem_append_left _ ((eL y).mp h)
    · exact List.mem_append_right _ h
  · exact ((pL.append_right left).nodup_iff).mpr r.nn
  · show (L.acts ++ ts.map fun t => (z, t, 2)).length ≤ k + 1 + 8 * (L.ends ++ [z]).length
    have := r.ac
    rw [List.length_append, List.length_append, List.length_map]
    show L.acts.length + ts.length ≤ k + 1 + 8 * (L.ends.length + 1)
    omega
end
end Kx

namespace Kx
open PySem PySem.Spec PyProof.Rows L2 NdefX Kr Ke Kn Kz Ky Kg StX
/-! ### what another object's change leaves -/
theorem sqT_away {K : PySem.W.Frag} {s a : Addr} {H H' : Hp} {xs : List V} (o : Off s H H') (ne : a ≠ s) (h : SqT K H a xs) : SqT K H' a xs := by
  rcases h with (h | ⟨u, h⟩) | h
  · exact .inl (.inl (o _ _ h ne))
  · exact .inl (.inr ⟨u, o _ _ h ne⟩)
  · exact .inr h
theorem LsAv.away {av : Addr → Prop} {K : PySem.W.Frag} {H H' : Hp} {s b : Addr} {L : Lst} (x : LsAv av K H s L) (o : Off b H H') (h : ∀ c, av c → c ≠ b) (sb : s ≠ b) : LsAv av K H' s L := by
  obtain ⟨lr, le, la, lo, ka, ko, x, a⟩ := x
  exact ⟨lr, le, la, lo, ka, ko, ⟨o _ _ x.s sb, o _ _ x.r (h _ a.r), o _ _ x.e (h _ a.e), ⟨o _ _ x.a.l (h _ a.a), fun q hq => sqT_away o (h _ (a.ka q hq)) (x.a.t q hq)⟩, x.aw, ⟨o _ _ x.o.d (h _ a.o), fun e he => o _ _ (x.o.u e he) (h _ (a.ko e he))⟩, x.ow⟩, a⟩
theorem LsAv.offI {av : Addr → Prop} {K : PySem.W.Frag} {H H' : Hp} {s k C dx : Addr} {fs : List (Str × V)} {L : Lst} (x : LsAv av K H s L) (o : Off k H H') (ek : H k = some (.ins C dx fs)) : LsAv av K H' s L := by
  obtain ⟨lr, le, la, lo, ka, ko, x, a⟩ := x
  have nk : ∀ {b u}, H b = some u → (∀ C' dx' fs, u ≠ .ins C' dx' fs) → H' b = some u := fun {b u} hb ne => o b u hb fun e => by
    rw [e, ek] at hb
    injection hb with hb
    exact ne _ _ _ hb.symm
  exact ⟨lr, le, la, lo, ka, ko, ⟨nk x.s (fun _ _ _ z => nomatch z), nk x.r (fun _ _ _ z => nomatch z), nk x.e (fun _ _ _ z => nomatch z), ⟨nk x.a.l (fun _ _ _ z => nomatch z), fun q hq => o.sqT ek (x.a.t q hq)⟩, x.aw, ⟨nk x.o.d (fun _ _ _ z => nomatch z), fun e he => nk (x.o.u e he) (fun _ _ _ z => nomatch z)⟩, x.ow⟩, a⟩
theorem KpAv.away {av : Addr → Prop} {K : PySem.W.Frag} {CK C k b : Addr} {H H' : Hp} {W : Web} {n : Int} (x : KpAv av K CK C H k W n) (o : Off b H H') (h : ∀ c, av c → c ≠ b) (kb : k ≠ b) : KpAv av K CK C H' k W n := by
  obtain ⟨hd, ⟨dk, ek⟩, dx, ll, le, lt, lp, kt, kp, x, a⟩ := x
  exact ⟨hd, ⟨dk, o _ _ ek kb⟩, dx, ll, le, lt, lp, kt, kp, ⟨o _ _ x.p (h _ a.p), o _ _ x.l (h _ a.l), o _ _ x.e (h _ a.e), ⟨o _ _ x.t.d (h _ a.t), fun e he => o _ _ (x.t.u e he) (h _ (a.kt e he))⟩, x.tw, ⟨o _ _ x.r.l (h _ a.r), fun q hq => ⟨(x.r.t q hq).1, sqT_away o (h _ (a.kp q hq)) (x.r.t q hq).2⟩⟩, x.rw_⟩, a⟩
/-- a new one beside a fresh state, beside a fresh keeper -/
theorem LsAv.beside {av : Addr → Prop} {K : PySem.W.Frag} {H : Hp} {s l : Addr} (x : LsAv av K H s lst0) (hl : H l = none) (hs : ∀ b, av b → b ≠ s) : LsAv (fun b => b ≠ s ∧ b ≠ l) K H s lst0 := by
  obtain ⟨lr, le, la, lo, ka, ko, x, a⟩ := x
  have k0 : ka = [] := List.map_eq_nil_iff.mp x.aw
  have o0 : ko = [] := List.map_eq_nil_iff.mp x.ow
  subst k0 o0
  exact ⟨lr, le, la, lo, [], [], x, ⟨⟨hs _ a.r, ne_of_none x.r hl⟩, ⟨hs _ a.e, ne_of_none x.e hl⟩, ⟨hs _ a.a, ne_of_none x.a.l hl⟩, ⟨hs _ a.o, ne_of_none x.o.d hl⟩, (fun _ h => nomatch h), (fun _ h => nomatch h)⟩⟩
theorem KpAv.beside {av : Addr → Prop} {K : PySem.W.Frag} {CK C k s l : Addr} {H : Hp} {n : Int} (x : KpAv av K CK C H k web0 n) (hl : H l = none) (hs : ∀ b, av b → b ≠ s) : KpAv (fun b => b ≠ s ∧ b ≠ l) K CK C H k web0 n := by
  obtain ⟨hd, e, dx, ll, le, lt, lp, kt, kp, x, a⟩ := x
  have k0 : kt = [] := List.map_eq_nil_iff.mp x.tw
  have o0 : kp = [] := List.map_eq_nil_iff.mp x.rw_
  subst k0 o0
  exact ⟨hd, e, dx, ll, le, lt, lp, [], [], x, ⟨⟨hs _ a.p, ne_of_none x.p hl⟩, ⟨hs _ a.l, ne_of_none x.l hl⟩, ⟨hs _ a.e, ne_of_none x.e hl⟩, ⟨hs _ a.t, ne_of_none x.t.d hl⟩, ⟨hs _ a.r, ne_of_none x.r.l hl⟩, (fun _ h => nomatch h), (fun _ h => nomatch h)⟩⟩
theorem avN_off {H : Hp} {s l : Addr} {u v : HO} (hs : H s = some u) (hl : H l = some v) {b : Addr} (h : avN (fun b => b ≠ s ∧ b ≠ l) H b) : b ≠ s ∧ b ≠ l := h.elim id fun h => ⟨(fun e => by rw [e, hs] at h; cases h), (fun e => by rw [e, hl] at h; cases h)⟩
theorem pairs_P {l : List (Str × List Str)} {ns : List Str} {ps P : List (List Str)} (h : PairsOf l ns ps) (n : (l.map (·.1)).Nodup) (hp : ∀ a b, [a, b] ∈ P ↔ (a, b) ∈ oArcs l) : ps = pairsP ns P := by
  rw [h.eq]
  unfold pairsP rowP
  have e : ∀ a ∈ ns, ((ns.filter fun b => decide (b ∈ (valA l a).getD [])).map fun b => [a, b]) = (ns.filter fun b => decide ([a, b] ∈ P)).map fun b => [a, b] := fun a ha => by
    refine congrArg (fun f => (ns.filter f).map fun b => [a, b]) (funext fun b => ?_)
    obtain ⟨r, hr⟩ : ∃ r, valA l a = some r := by
      cases c : valA l a with
      | none => exact absurd (h.pm.mem_iff.mp ha) (valA_none.mp c)
      | some r => exact ⟨r, rfl⟩
    rw [hr]
    show decide (b ∈ r) = decide ([a, b] ∈ P)
    rw [decide_eq_decide, hp, val_arcs n hr]
  rw [List.flatMap_def, List.flatMap_def, List.map_congr_left e]
end Kx

namespace Kx
open PySem PySem.Spec PyProof.Rows L2 NdefX Kr Ke Kn Kz Ky Kg StX
/-! ### what is drawn may be asked -/
theorem isW_self (y : Str) : isW (.s y) y = true := by show decide (y = y) = true; exact decide_eq_true rfl
theorem isW_qb : isW (.s wQuit) wBegin = false := by show decide (wQuit = wBegin) = false; decide +kernel
theorem isW_rb : isW (.s wRead) wBegin = false := by show decide (wRead = wBegin) = false; decide +kernel
theorem isW_rq : isW (.s wRead) wQuit = false := by show decide (wRead = wQuit) = false; decide +kernel
theorem isW_cb : isW (.s wClose) wBegin = false := by show decide (wClose = wBegin) = false; decide +kernel
theorem isW_cq : isW (.s wClose) wQuit = false := by show decide (wClose = wQuit) = false; decide +kernel
theorem isW_cr : isW (.s wClose) wRead = false := by show decide (wClose = wRead) = false; decide +kernel
theorem stepB_ok {s : Stp} (hp : nameB s.pr = true) (ht : ∀ t ∈ s.ts, nameB t = true) (hn : s.ts.Nodup) : stepB s.ps = true := by
  cases s with
  | bg z =>
    show (nameB z && if (isW (.s wBegin) wBegin || isW (.s wBegin) wQuit) = true then decide ([].length = 0) else _) = true
    rw [isW_self, Bool.true_or, if_pos rfl, show nameB z = true from hp]
    rfl
  | qt z =>
    show (nameB z && if (isW (.s wQuit) wBegin || isW (.s wQuit) wQuit) = true then decide ([].length = 0) else _) = true
    rw [isW_self, Bool.or_true, if_pos rfl, show nameB z = true from hp]
    rfl
  | rd z t =>
    show (nameB z && if (isW (.s wRead) wBegin || isW (.s wRead) wQuit) = true then _ else if isW (.s wRead) wRead = true then decide ([Part.s t].length = 1) && nameB t else _) = true
    rw [isW_rb, isW_rq, if_neg (by decide), isW_self, if_pos rfl, show nameB z = true from hp, ht t List.mem_cons_self]
    rfl
  | cl z ts =>
    show (nameB z && if (isW (.s wClose) wBegin || isW (.s wClose) wQuit) = true then _ else if isW (.s wClose) wRead = true then _ else if isW (.s wClose) wClose = true then decide ([Part.t ts].length = 1) && (ts.all nameB && decide ts.Nodup) else false) = true
    rw [isW_cb, isW_cq, if_neg (by decide), isW_cr, if_neg (by decide), isW_self, if_pos rfl, show nameB z = true from hp, decide_eq_true (show ts.Nodup from hn), List.all_eq_true.mpr (show ∀ t ∈ ts, nameB t = true from ht)]
    rfl
section
variable {nf : Int → Int → Str} {hd : Int} {k : Nat} {L : Lst} {W : Web} {left : List Str}
theorem things_nm (NF : NmF nf) (h0 : 0 ≤ hd) : ∀ t ∈ thingsV nf hd, nameB t = true := fun t ht => by
  unfold thingsV at ht
  obtain ⟨j, hj, rfl⟩ := List.mem_map.mp ht
  have hj := List.mem_range.mp hj
  have := Int.emod_lt_of_pos hd (show (0 : Int) < 8 by decide)
  exact NF.ok (by omega) (by omega) (by omega)
theorem fresh_nm (NF : NmF nf) (r : Rl nf hd k L W left) (u12 : L.used < 12) : nf (L.used : Int) (hd / 8) ∉ W.line ++ left := fun h => by
  obtain ⟨j, hj, e⟩ := r.nm _ h
  have := NF.inj (by omega) (by omega) (by omega) (by omega) e
  omega
theorem drawn_ok (NF : NmF nf) (h0 : 0 ≤ hd) (r : Rl nf hd k L W left) {u : Stp} (d : Drawn nf hd L u) : StOk W u ∧ (∀ t ∈ u.ts, t ∈ thingsV nf hd) ∧ u.ts.length ≤ 8 := by
  have tn := things_nm NF h0
  cases d with
  | bg h => exact ⟨⟨fun z e => by injection e with e; rw [← e]; exact fun hm => fresh_nm NF r h (List.mem_append_left _ hm), NF.ok (by omega) (by omega) (by omega), fun h => absurd rfl (h _), (fun _ h => nomatch h)⟩, (fun _ h => nomatch h), by show 0 ≤ 8; decide⟩
  | qt hz => exact ⟨⟨(fun _ h => nomatch h), r.w.nm _ ((r.run _).mp hz).1, fun _ => (r.run _).mp hz, (fun _ h => nomatch h)⟩, (fun _ h => nomatch h), by show 0 ≤ 8; decide⟩
  | rd hz ht => exact ⟨⟨(fun _ h => nomatch h), r.w.nm _ ((r.run _).mp hz).1, fun _ => (r.run _).mp hz, fun t h => by rw [List.mem_singleton.mp h]; exact tn _ ht⟩, fun t h => by rw [List.mem_singleton.mp h]; exact ht, by show 1 ≤ 8; decide⟩
  | cl hz ht hn => exact ⟨⟨(fun _ h => nomatch h), r.w.nm _ ((r.run _).mp hz).1, fun _ => (r.run _).mp hz, fun t h => tn t (ht t h)⟩, ht, Nat.le_trans (nd_len _ _ hn ht) r.th8⟩
theorem now_nil {u : Stp} (h : ∀ z, clB W u z = false) : NoW (arcs W.prs) u.pr (hurtW W u) := fun p x _ hx => by
  unfold hurtW at hx
  have := (List.mem_filter.mp hx).2
  rw [h x] at this
  cases this
/-- a program begins by a name that is free -/
theorem go_bg (r : Rl nf hd k L W left) {z : Str} {lf : List Str} (nz : nameB z = true) (u12 : L.used < 12) (hj : ∃ j : Nat, j < L.used + 1 ∧ z = nf (j : Int) (hd / 8)) (pm : (z :: (W.line ++ lf)).Nodup) (sub : ∀ y ∈ lf, y ∈ left) {g c : List Str} (hg : HitOf L (.bg z) g) (cl : ClashOf W (.bg z) c) : Rl nf hd (k + 1) (tkL L (.bg z) g) (aftW W (.bg z) c) lf := by
  have hn := (List.nodup_cons.mp pm).1
  refine step_bg r ⟨fun y e => by injection e with e; rw [← e]; exact fun h => hn (List.mem_append_left _ h), nz, fun h => absurd rfl (h z), (fun _ h => nomatch h)⟩ hg cl u12 (fun y hy => ?_) ?_
  · rcases List.mem_append.mp hy with hy | hy
    · rcases List.mem_append.mp hy with hy | hy
      · obtain ⟨j, h, e⟩ := r.nm y (List.mem_append_left _ hy)
        exact ⟨j, by omega, e⟩
      · rw [List.mem_singleton.mp hy]
        exact hj
    · obtain ⟨j, h, e⟩ := r.nm y (List.mem_append_right _ (sub y hy))
      exact ⟨j, by omega, e⟩
  · refine (List.Perm.nodup_iff ?_).mpr pm
    rw [List.append_assoc]
    exact List.perm_middle
/-- a program quits -/
theorem go_qt (r : Rl nf hd k L W left) {z : Str} (hz : z ∈ L.run) (o : StOk W (.qt z)) {g c : List Str} (hg : HitOf L (.qt z) g) (cl : ClashOf W (.qt z) c) (both : Bool) : Rl nf hd (k + 1) (tkL L (.qt z) g) (aftW W (.qt z) c) (if both = true then left ++ [z] else left) := by
  have zl := ((r.run z).mp hz).1
  have fl : ∀ y, y ∈ (aftW W (.qt z) c).line ↔ y ∈ W.line ∧ y ≠ z := fun y => by
    show y ∈ W.line.filter (fun n => !decide (n ∈ [z])) ↔ _
    rw [List.mem_filter]
    simp
  have nn := List.nodup_append.mp r.nn
  have zn : z ∉ left := fun h => nn.2.2 z zl z h rfl
  refine step_qt r o hg cl (fun y hy => ?_) ?_
  · rcases List.mem_append.mp hy with hy | hy
    · exact r.nm y (List.mem_append_left _ ((fl y).mp hy).1)
    · cases both with
      | true =>
        rcases List.mem_append.mp (show y ∈ left ++ [z] from hy) with h | h
        · exact r.nm y (List.mem_append_right _ h)
        · rw [List.mem_singleton.mp h]
          exact r.nm z (List.mem_append_left _ zl)
      | false => exact r.nm y (List.mem_append_right _ hy)
  · refine List.nodup_append.mpr ⟨r.w.nd.filter _, ?_, fun x hx y hy e => ?_⟩
    · cases both with
      | true => exact List.nodup_append.mpr ⟨nn.2.1, List.pairwise_singleton _ _, fun a ha b hb e => zn (by rw [← List.mem_singleton.mp hb, ← e]; exact ha)⟩
      | false => exact nn.2.1
    · obtain ⟨h1, h2⟩ := (fl x).mp hx
      cases both with
      | true =>
        rcases List.mem_append.mp (show y ∈ left ++ [z] from hy) with h | h
        · exact nn.2.2 x h1 y h e
        · exact h2 (e.trans (List.mem_singleton.mp h))
      | false => exact nn.2.2 x h1 y hy e
theorem Rl.wait (r : Rl nf hd k L W left) : Rl nf hd (k + 1) L W left := { r with ac := Nat.le_trans r.ac (by omega) }
theorem run_en (r : Rl nf hd k L W left) {z : Str} (hz : z ∈ W.line) (he : z ∉ W.ended) : (W.ended.length : Int) + 1 ≤ 12 := by
  have h := nd_len (z :: W.ended) W.line (List.nodup_cons.mpr ⟨he, r.w.en⟩) fun y hy => by
    rcases List.mem_cons.mp hy with rfl | hy
    · exact hz
    · exact r.w.el y hy
  have := r.l12
  have := r.us
  rw [List.length_cons] at h
  omega
theorem bg_en (r : Rl nf hd k L W left) (u : L.used < 12) : (W.ended.length : Int) + 1 ≤ 12 := by
  have h := nd_len W.ended W.line r.w.en r.w.el
  have := r.l12
  omega
theorem drawn_en (NF : NmF nf) (h0 : 0 ≤ hd) (r : Rl nf hd k L W left) {u : Stp} (d : Drawn nf hd L u) : stepB u.ps = true ∧ (W.ended.length : Int) + 1 ≤ 12 := by
  obtain ⟨so, dt, _⟩ := drawn_ok NF h0 r d
  refine ⟨stepB_ok so.nm so.ts ?_, ?_⟩
  · cases d with
    | bg h => exact List.nodup_nil
    | qt hz => exact List.nodup_nil
    | rd hz ht => exact List.pairwise_singleton _ _
    | cl hz ht hn => exact hn
  · cases d with
    | bg h => exact bg_en r h
    | qt hz => exact run_en r ((r.run _).mp hz).1 ((r.run _).mp hz).2
    | rd hz ht => exact run_en r ((r.run _).mp hz).1 ((r.run _).mp hz).2
    | cl hz ht hn => exact run_en r ((r.run _).mp hz).1 ((r.run _).mp hz).2
end
end Kx

namespace Kx
open PySem PySem.Spec PyProof.Rows L2 NdefX Kr Ke Kn Kz Ky Kg StX
/-! ### a step beside the keeper's change; how many arcs -/
theorem PtAt.offI {K : PySem.W.Frag} {H H' : Hp} {k C dx : Addr} {fs : List (Str × V)} (o : Off k H H') (ek : H k = some (.ins C dx fs)) : ∀ {x : V} {p : Part}, PtAt K H x p → PtAt K H' x p
  | _, .s _, h => h
  | _, .t _, ⟨a, e, h⟩ => ⟨a, e, o.sqT ek h⟩
theorem StAt.offI {K : PySem.W.Frag} {H H' : Hp} {k C dx a : Addr} {fs : List (Str × V)} {ps : List Part} (h : StAt K H a ps) (o : Off k H H') (ek : H k = some (.ins C dx fs)) : StAt K H' a ps := let ⟨xs, e, p⟩ := h; ⟨xs, o.sqT ek e, Paired.mono (fun _ _ z => z.offI o ek) p⟩
theorem eqvT (xs ys : List (List Str)) : PyData.eqv (.list (tT xs)) (.list (tT ys)) = decide (xs = ys) := by
  simp only [PyData.eqv]
  exact eqv_tT _ _
section
variable {nf : Int → Int → Str} {hd : Int} {k : Nat} {L : Lst} {W : Web} {left : List Str}
theorem Rl.row12 (r : Rl nf hd k L W left) {e : Str × List Str} (he : e ∈ L.out) : e.2.length ≤ 12 := by
  have h := nd_len e.2 W.line (r.rn e he) fun y hy => by
    have := (r.pr e.1 y).mpr (oArcs_mem.mpr ⟨e.2, he, hy⟩)
    obtain ⟨a, b, eq, _, hb, _⟩ := r.w.pk _ this
    injection eq with _ eq
    injection eq with eq _
    exact eq ▸ hb
  have := r.l12
  have := r.us
  omega
theorem Rl.out12 (r : Rl nf hd k L W left) : L.out.length ≤ 12 := by
  have h := nd_len (L.out.map (·.1)) W.line r.on fun z hz => (r.ln z).mpr hz
  rw [List.length_map] at h
  have := r.l12
  have := r.us
  omega
theorem Rl.arcs400 (r : Rl nf hd k L W left) : (oArcs L.out).length ≤ 400 := by
  have h : (oArcs L.out).length ≤ L.out.length * 12 := by
    unfold oArcs
    refine flat_len fun e he => ?_
    rw [List.length_map]
    exact r.row12 he
  have := r.out12
  omega
end
end Kx

namespace Kx
open PySem PySem.Spec PyProof.Rows L2 NdefX Kr Ke Kn Kz Ky Kg StX
/-! ### _law_answer -/
abbrev s_answer : Stmt := topS 74
abbrev N_answer : List Str := ["_law_keeper", "_law_step"]
theorem sc_answer : FnScope N_answer ["_law_keeper", "_law_step"] (defScope s_answer) := ⟨rfl, rfl, rfl, by decide +kernel, rfl, by decide +kernel, by decide +kernel⟩
def spAnsK (K : PySem.W.Frag) (CK C : Addr) : Sp := fun vs H Q _ => ∃ (av : Addr → Prop) (k a : Addr) (W : Web) (n : Int) (s : Stp), vs = [.ref k, .ref a] ∧ KpAv av K CK C H k W n ∧ WebOk W ∧ W.line.length ≤ 20 ∧ (∀ z ∈ W.line, (tof W z).length ≤ 1000) ∧ StAt K H a s.ps ∧ stepB s.ps = true ∧ StOk W s ∧ s.ts.length ≤ 8 ∧ (W.ended.length : Int) + 1 ≤ n ∧ n ≤ 12 ∧
  (NoW (arcs W.prs) s.pr (hurtW W s) → ∀ c l Hm H', ClashOf W s c → H l = none → Off k H Hm → KpAv (avN av H) K CK C Hm k (aftW W s c) n → Hm l = none → Same Hm H' → H' l = some (.lst (c.map V.str)) → Q (.ref l) H') ∧
  (¬ NoW (arcs W.prs) s.pr (hurtW W s) → ∀ H', Same H H' → Q .non H')
section
variable {P : Program} {w : World} {K : PySem.W.Frag} {mg : Str → Option Value} {base : Heap} {C CK CS CT CN CF g : Addr} {gd : FuncData}
theorem ok_answer {f : Addr} {fd : FuncData} (F : Fun K "_law_answer" "_law_answer" s_answer f fd) (gF : mg "Refused" = some (.ref CF)) (eFF : PySem.W.exmOne K (.ref CF) (.ref CF) = some true) (co : CallO K CK g) (Fc : FnOk P w K mg base (L2.CX P w) 7 g gd ["self", "step"] (spKCall K CK C CS CT CN CF)) (hb : Binds K gd ["self", "step"] []) :
    FnOk P w K mg base CX0 8 f fd ["_law_keeper", "_law_step"] (spAnsK K CK C) := by
  refine F.ok sc_answer (fun vs H Q E h => ?_) (fun cdv A outer s H vs Q E hr h => ?_)
  · obtain ⟨av, k, a, W, n, s, rfl, _⟩ := h
    rfl
  · obtain ⟨av, k, a, W, n, s0, rfl, kp, wf, l20, hu, st, sb, ok, h8, ln, n12, ql, qr⟩ := h
    have kp0 := kp
    obtain ⟨hd, ⟨dk, ek⟩, hv⟩ := kp
    refine ⟨_, (pss_one (ps_try_only rfl rfl ⟨rfl, by decide, .inl gF⟩ takes0
        (fun W pn xe tk _ => pss_one (ps_ret (pe_callOS (pv 0) co Fc hb (hr.mono (by decide)) (fun σ => passAt tk σ) (pa_cons (pv 1) pa_nil))))
        (fun a oe cls d pn hzc hf => pss_one (ps_ret pe_non)))), ?_⟩
    have sm := sm_ps ok.nm ok.ts h8
    refine ⟨_, rfl, k, rfl, _, rfl, ⟨dk, _, ek⟩, av, k, a, s0.ps, W, n, rfl, kp0, wf, l20, hu, st, sm, fun h => absurd (h.symm.trans sb) Bool.false_ne_true, fun s1 e1 _ => ?_⟩
    obtain rfl : s0 = s1 := Stp.ps_inj e1
    refine ⟨fun ⟨z, e, hz⟩ => absurd hz (ok.bg z e), fun ⟨h1, h2⟩ => absurd (ok.run h1) h2, fun _ _ => ⟨by omega, ln, n12, ql, fun path d q H' sh nd nq s' ed eq => ?_⟩⟩
    refine ⟨true, eFF, fun _ x1 nx => ?_, fun e => Bool.noConfusion e⟩
    obtain ⟨⟨g, hg, wk⟩, _⟩ := sh
    exact qr (fun nw => nw path g wk hg) H' s'
end
/-! ### _law_again -/
theorem seq0 (y : V) (r : List V) : seqIndex? 0 (y :: r).length = some 0 := by
  rw [List.length_cons]
  simp [seqIndex?]
theorem sqT_offL {K : PySem.W.Frag} {s a : Addr} {ys : List V} {H H' : Hp} {xs : List V} (o : Off s H H') (hs : H s = some (.lst ys)) (h : SqT K H a xs) : SqT K H' a xs := by
  rcases h with (h | ⟨u, h⟩) | h
  · exact .inl (.inl (o _ _ h fun e => by rw [e, hs] at h; cases h))
  · exact .inl (.inr ⟨u, o _ _ h fun e => by rw [e, hs] at h; cases h⟩)
  · exact .inr h
abbrev s_again : Stmt := topS 77
abbrev N_again : List Str := ["_law_step", "_law_left"]
theorem sc_again : FnScope N_again ["_law_step", "_law_left"] (defScope s_again) := ⟨rfl, rfl, rfl, by decide +kernel, rfl, by decide +kernel, by decide +kernel⟩
/-- a name that quit begins again -/
def spAgain (K : PySem.W.Frag) : Sp := fun vs H Q _ => ∃ (a l : Addr) (u : Stp) (lf : List Str), vs = [.ref a, .ref l] ∧ StAt K H a u.ps ∧ H l = some (.lst (lf.map V.str)) ∧ lf.length ≤ 1000 ∧ (∀ z ∈ lf, nameB z = true) ∧
  (∀ z y r, u = .bg z → lf = y :: r → ∀ a' H', Off l H H' → H' l = some (.lst (r.map V.str)) → StAt K H' a' (Stp.bg y).ps → Q (.ref a') H') ∧
  (∀ z, u = .bg z → lf = [] → ∀ H', Same H H' → Q (.ref a) H') ∧
  (∀ z, u = .qt z → ∀ H', Off l H H' → H' l = some (.lst ((lf ++ [z]).map V.str)) → StAt K H' a u.ps → Q (.ref a) H') ∧
  ((∀ z, u ≠ .bg z) → (∀ z, u ≠ .qt z) → Q (.ref a) H)
section
variable {P : Program} {w : World} {K : PySem.W.Frag} {mg : Str → Option Value} {base : Heap}
theorem ok_again {f : Addr} {fd : FuncData} (F : Fun K "_law_again" "_law_again" s_again f fd) : FnOk P w K mg base CX0 1 f fd ["_law_step", "_law_left"] (spAgain K) := by
  refine F.ok sc_again (fun vs H Q E h => ?_) (fun cdv A outer s H vs Q E hr h => ?_)
  · obtain ⟨a, l, u, lf, rfl, _⟩ := h
    rfl
  · obtain ⟨a, l, u, lf, rfl, st, el, l1, ln, q1, q2, q3, q4⟩ := h
    obtain ⟨xs, hxs, hx0, hx1⟩ := sAt st
    refine ⟨_, (pss_cons (ps_if (PW.pt (pw_and (pt_cmpR op_eq (pe_ix (show IxR _ (rIxT K) from ix_tup) (pv 0) pe_int (fun _ _ => rfl)) pe_str (nomark _)) (pw_and1 (pt_cmpR (op_neD hr.units) (pv 1) (pe_lst pa_nil) (nomark _)))))
        (pss_one (ps_ret (pe_tup (pa_cons pe_str (pa_cons (pe_bm PySem.F.plainAttrs_list PySem.F.slot_list_pop PySem.F.type_list_pop mt_popAt (pv 1) (pa_cons pe_int pa_nil)) pa_nil)))))
        pss_nil)
      (pss_cons (ps_if (pt_cmpR op_eq (pe_ix (show IxR _ (rIxT K) from ix_tup) (pv 0) pe_int (fun _ _ => rfl)) pe_str (nomark _))
        (pss_one (ps_expr (pe_bm PySem.F.plainAttrs_list PySem.F.slot_list_append PySem.F.type_list_append mt_append (pv 1) (pa_cons (pe_ix (show IxR _ (rIxT K) from ix_tup) (pv 0) pe_int (fun _ _ => rfl)) pa_nil))))
        pss_nil)
      (pss_one (ps_ret (pv 0))))), ?_⟩
    have shL : SeqAt.shaped (.list (tD lf)) = true := shp_txts (n := 1000) fun y hy => (nameB_sht8 (ln y hy)).le (by decide)
    have sh0 : SeqAt.shaped (.list (tD [])) = true := shp_txts (n := 1000) fun y hy => nomatch hy
    refine ⟨_, rfl, a, xs, ((0 : Nat) : Int), _, rfl, rfl, hxs, atI_nat hx0, rfl, _, rfl, ?_⟩
    rw [strV]
    cases u with
    | bg z =>
      refine iteB (fun _ => ?_) (fun h => absurd wd_eq.1 (of_decide_eq_false h))
      refine ⟨_, rfl, by show 0 ≤ sizeLine; decide, fun b nb => ?_⟩
      have s1 : Same H (upd H b (.lst [])) := same_upd nb
      have e1 : (upd H b (.lst [])) b = some (.lst (([] : List Str).map V.str)) := upd_same
      generalize upd H b (.lst []) = H1 at s1 e1 ⊢
      refine ⟨.list (tD lf), .list (tD []), .lst (.inl (.inl (s1 _ _ el))) (dp_txts _), .lst (.inl (.inl e1)) (dp_txts []), shL, sh0, _, rfl, ?_⟩
      rw [eqv_list]
      cases lf with
      | nil =>
        refine iteB (fun h => absurd h (by decide)) (fun _ => ?_)
        refine ⟨_, rfl, a, xs, ((0 : Nat) : Int), _, rfl, rfl, Same.tupS s1 hxs, atI_nat hx0, rfl, _, rfl, ?_⟩
        rw [strV]
        refine iteB (fun h => absurd (of_decide_eq_true h) (by decide +kernel : ¬ (wBegin = ("quit" : Str)))) (fun _ => ?_)
        exact ⟨_, rfl, q2 z rfl rfl H1 s1⟩
      | cons y r =>
        refine iteB (fun _ => ?_) (fun h => absurd h (by simp))
        refine ⟨_, rfl, .inl ⟨rfl, _, .inl (.inl (s1 _ _ el))⟩, l, _, 0, 0, _, rfl, rfl, s1 _ _ el, by decide, by decide, seq0 _ _, rfl, by show 2 ≤ sizeLine; decide, fun a' na => ?_⟩
        refine q1 z y r rfl rfl a' _ ((Off.of s1).trans (Off.put.trans (Off.of (same_upd na)))) (same_upd na _ _ upd_same) ⟨_, .inl (.inl upd_same), .cons rfl (.cons rfl .nil)⟩
    | qt z =>
      refine iteB (fun h => absurd (of_decide_eq_true h) (by decide +kernel : ¬ (wQuit = ("begin" : Str)))) (fun _ => iteF ?_)
      refine ⟨_, rfl, a, xs, ((0 : Nat) : Int), _, rfl, rfl, hxs, atI_nat hx0, rfl, _, rfl, ?_⟩
      rw [strV]
      refine iteB (fun _ => ?_) (fun h => absurd wd_eq.2.1 (of_decide_eq_false h))
      refine ⟨_, rfl, .inl ⟨rfl, _, .inl (.inl el)⟩, _, rfl, a, xs, ((1 : Nat) : Int), _, rfl, rfl, hxs, atI_nat hx1, l, _, _, rfl, rfl, el, by rw [List.length_map]; exact sz8 (by omega), _, rfl, ?_⟩
      have e2 : (upd H l (.lst (lf.map V.str ++ [V.str z]))) l = some (.lst ((lf ++ [z]).map V.str)) := by rw [upd_same, List.map_append]; rfl
      exact q3 z rfl _ Off.put e2 ⟨_, sqT_offL Off.put el (st_qt st), .cons rfl (.cons rfl .nil)⟩
    | rd z t =>
      refine iteB (fun h => absurd (of_decide_eq_true h) (by decide +kernel : ¬ (wRead = ("begin" : Str)))) (fun _ => iteF ?_)
      refine ⟨_, rfl, a, xs, ((0 : Nat) : Int), _, rfl, rfl, hxs, atI_nat hx0, rfl, _, rfl, ?_⟩
      rw [strV]
      refine iteB (fun h => absurd (of_decide_eq_true h) (by decide +kernel : ¬ (wRead = ("quit" : Str)))) (fun _ => ?_)
      exact ⟨_, rfl, q4 (fun _ h => nomatch h) (fun _ h => nomatch h)⟩
    | cl z ts =>
      refine iteB (fun h => absurd (of_decide_eq_true h) (by decide +kernel : ¬ (wClose = ("begin" : Str)))) (fun _ => iteF ?_)
      refine ⟨_, rfl, a, xs, ((0 : Nat) : Int), _, rfl, rfl, hxs, atI_nat hx0, rfl, _, rfl, ?_⟩
      rw [strV]
      refine iteB (fun h => absurd (of_decide_eq_true h) (by decide +kernel : ¬ (wClose = ("quit" : Str)))) (fun _ => ?_)
      exact ⟨_, rfl, q4 (fun _ h => nomatch h) (fun _ h => nomatch h)⟩
end
end Kx

namespace Kx
open PySem PySem.Spec PyProof.Rows L2 NdefX Kr Ke Kn Kz Ky Kg StX
/-! ### _law_pairs -/
abbrev s_pairs : Stmt := topS 75
abbrev N_pairs : List Str := ["_law_state", "_law_names", "_law_pairs_here", "_law_one", "_law_two", "_law_name"]
theorem sc_pairs : FnScope N_pairs ["_law_state"] (defScope s_pairs) := ⟨rfl, rfl, rfl, by decide +kernel, rfl, by decide +kernel, by decide +kernel⟩
def spPairs (K : PySem.W.Frag) : Sp := fun vs H Q _ => ∃ (av : Addr → Prop) (s : Addr) (L : Lst), vs = [.ref s] ∧ LsAv av K H s L ∧ (L.out.map (·.1)).Nodup ∧ L.out.length < 64 ∧ ∀ (ns : List Str) (ps : List AL) (d : Addr) H', PairsOf L.out ns (ps.map (·.2)) → H d = none → Same H H' → PrsAt K H' d ps → Q (.ref d) H'
section
variable {P : Program} {w : World} {K : PySem.W.Frag} {mg : Str → Option Value} {base : Heap}
theorem ok_pairs {f : Addr} {fd : FuncData} (F : Fun K "_law_pairs" "_law_pairs" s_pairs f fd) (T : TxS mg) : FnOk P w K mg base CX0 1 f fd ["_law_state"] (spPairs K) := by
  refine F.ok sc_pairs (fun vs H Q E h => ?_) (fun cdv A outer s H vs Q E hr h => ?_)
  · obtain ⟨av, s, L, rfl, _⟩ := h
    rfl
  · obtain ⟨av, s, L, rfl, ⟨lr, le, la, lo, ka, ko, x, ax⟩, on, l64, q⟩ := h
    refine ⟨_, (pss_cons (ps_set (i := 1) sc_pairs.nd rfl (Or.inl rfl) (pe_callB cr_sortedS (by rfl) T.m_sorted (by decide +kernel) (pa_cons (pe_lock (pe_lc (own := [("_law_name", 5)]) (g := gName 5) (tt := tYes) rfl sc_pairs.nd (pi_keys (pe_dget (hu_of hr) (pv 0) pe_str (fun _ _ => rfl))) (blkOk_by (own := [("_law_name", 5)]) (N := N_pairs) (sc := defScope s_pairs) (by decide +kernel)) (fun _ _ _ _ _ => pg_name (i := 5) sc_pairs.nd rfl (Or.inl rfl)) (fun _ _ _ _ _ => pts_nil) (fun _ _ _ _ _ => (pe_callTy SkE.call_str_str (by rfl) T.m_str (by decide +kernel) (pa_cons (pv 5) pa_nil))))) pa_nil)))
      (pss_cons (ps_set (i := 2) sc_pairs.nd rfl (Or.inl rfl) (pe_lst pa_nil))
      (pss_cons (ps_for PassesOwn.never rfl (pi_list (pv 1)) (pg_name (i := 3) sc_pairs.nd rfl (Or.inl rfl))
        (pss_one (ps_for PassesOwn.never rfl (pi_list (pv 1)) (pg_name (i := 4) sc_pairs.nd rfl (Or.inl rfl))
          (pss_one (ps_if (pt_cmpR (show OpR _ _ (rIn K false) from op_in_seq) (pv 4) (pe_dget (hu_of hr) (pe_dget (hu_of hr) (pv 0) pe_str (fun _ _ => rfl)) (pv 3) (fun _ _ => rfl)) rfl)
            (pss_one (ps_expr (pe_bm PySem.F.plainAttrs_list PySem.F.slot_list_append PySem.F.type_list_append mt_append (pv 2) (pa_cons (pe_tup (pa_cons (pv 3) (pa_cons (pv 4) pa_nil))) pa_nil))))
            pss_nil)))))
      (pss_one (ps_ret (pv 2)))))), ?_⟩
    have kn : (ko.map (·.1)).Nodup := by rw [← koW_keys, x.ow]; exact on
    have kl : ko.length < 64 := by have := koW_len ko; rw [x.ow] at this; omega
    have sl : s ≠ lo := fun e => by
      have h1 := x.s
      rw [e, x.o.d] at h1
      injection h1 with h1
      injection h1 with h1
      exact stKV_ne h1
    refine ⟨lo, _, x.o.d, trivial, fun od => ?_⟩
    have fz : (upd H lo (.frz od (.dK (ko.map (entA fun a : OT => V.ref a.1))))) lo = some (.frz od (.dK (ko.map (entA fun a : OT => V.ref a.1)))) := upd_same
    have back : ∀ {H'}, Same (upd H lo (.frz od (.dK (ko.map (entA fun a : OT => V.ref a.1))))) H' → Same H (upd H' lo (.dK (ko.map (entA fun a : OT => V.ref a.1)))) := fun s => same_unlk x.o.d s
    have es : (upd H lo (.frz od (.dK (ko.map (entA fun a : OT => V.ref a.1))))) s = some (.dK (stKV lr le la lo L.used)) := by rw [upd_ne sl]; exact x.s
    generalize upd H lo (.frz od (.dK (ko.map (entA fun a : OT => V.ref a.1)))) = H2 at fz back es ⊢
    refine ⟨_, rfl, s, _, rfl, (by have := DGet.k (k := .inr "out") es; rwa [st_out] at this), lo, od, rfl, .inl ⟨_, fz, fun D nD => ?_⟩⟩
    refine lc_it walk_keys (fun i H' => Same H2 H' ∧ H' D = some (.lst (((ko.take i).map (·.1)).map V.str))) ⟨same_upd nD, upd_same⟩ (fun i H' _ ⟨s1, _⟩ => s1 _ _ fz) ?_ ?_
    · rintro i v Hy Hx hi ⟨s3, d3⟩ ⟨rfl, k0, v0, hkv, rfl⟩
      rw [List.length_map] at hi
      rw [List.getElem?_map] at hkv
      obtain ⟨e, he, eq⟩ := Option.map_eq_some_iff.mp hkv
      injection eq with e1 e2
      subst e1 e2
      refine ⟨rfl, _, rfl, e.1, rfl, ?_⟩
      refine ⟨_, d3, by rw [List.length_map, List.length_map, List.length_take]; exact sz8 (by omega), same_mut s3 nD, ?_⟩
      rw [upd_same, take_snoc he, List.map_append, List.map_append]
      rfl
    rintro H3 ⟨s3, d3⟩
    rw [List.length_map, List.take_length] at d3
    refine ⟨s3 _ _ fz, ?_⟩
    have sB := back s3
    have Dlo : D ≠ lo := fun e => by rw [e, fz] at nD; cases nD
    have dB : (upd H3 lo (.dK (ko.map (entA fun a : OT => V.ref a.1)))) D = some (.lst ((ko.map (·.1)).map V.str)) := by rw [upd_ne Dlo]; exact d3
    clear back fz es s3 d3
    generalize upd H3 lo (.dK (ko.map (entA fun a : OT => V.ref a.1))) = H4 at sB dB ⊢
    refine ⟨D, _, rfl, .inl (.inl dB), by rw [List.length_map]; exact kl, fun ns l pm so nl => ?_⟩
    have sl5 : Same H4 (upd H4 l (.lst (ns.map V.str))) := same_upd nl
    have el5 : (upd H4 l (.lst (ns.map V.str))) l = some (.lst (ns.map V.str)) := upd_same
    generalize upd H4 l (.lst (ns.map V.str)) = H5 at sl5 el5 ⊢
    have s05 := sB.trans sl5
    have nn : ∀ z ∈ ns, z ∈ ko.map (·.1) := fun z h => pm.mem_iff.mp h
    have nl64 : ns.length < 64 := by have := pm.length_eq; rw [List.length_map] at this; omega
    have pm2 : ns.Perm (L.out.map (·.1)) := by rw [← x.ow, koW_keys]; exact pm
    refine ⟨by show 0 ≤ sizeLine; decide, fun d nd => ?_⟩
    have s6 : Same H5 (upd H5 d (.lst [])) := same_upd nd
    let rowQ : Str → List (List Str) := fun a => (ns.filter fun b => decide (b ∈ (valA L.out a).getD [])).map fun b => [a, b]
    refine ⟨_, rfl, l, rfl, ⟨_, .inl (.inl (s6 _ _ el5))⟩, ?_⟩
    refine for_list (xs := ns.map V.str) (fun i σ Hx => ∃ (x3 x4 : Option V) (ps : List AL), σ = [some (.ref s), some (.ref l), some (.ref d), x3, x4, none] ∧ Same H5 Hx ∧ Nw Hx d ps ∧ ps.map (·.2) = (ns.take i).flatMap rowQ ∧ ps.length ≤ i * 64)
      ⟨none, none, [], rfl, s6, Nw.nil, rfl, Nat.zero_le _⟩ (fun i σ Hx _ ⟨_, _, _, _, sx, _⟩ => .inl (.inl (sx _ _ el5))) ?_ ?_
    · rintro i v σ Hx hv ⟨x3, x4, ps, rfl, sx, nw, pe, pl⟩
      obtain ⟨y, hy, rfl⟩ := strs_at hv
      have il := (List.getElem?_eq_some_iff.mp hy).1
      have ym := List.mem_of_getElem? hy
      obtain ⟨p0, ev⟩ : ∃ p0, valA ko y = some p0 := by
        cases c : valA ko y with
        | none => exact absurd (nn y ym) (valA_none.mp c)
        | some p => exact ⟨p, rfl⟩
      have hr : valA L.out y = some p0.2 := by rw [← x.ow, valA_koW, ev]; rfl
      have rowE : rowQ y = (ns.filter fun b => decide (b ∈ p0.2)).map fun b => [y, b] := by
        show (ns.filter fun b => decide (b ∈ (valA L.out y).getD [])).map (fun b => [y, b]) = _
        rw [hr]
        rfl
      refine ⟨_, rfl, l, rfl, ⟨_, .inl (.inl (sx _ _ el5))⟩, ?_⟩
      refine for_list (xs := ns.map V.str) (fun j σ Hz => ∃ (x4 : Option V) (ps' : List AL), σ = [some (.ref s), some (.ref l), some (.ref d), some (.str y), x4, none] ∧ Same H5 Hz ∧ Nw Hz d ps' ∧ ps'.map (·.2) = (ns.take i).flatMap rowQ ++ ((ns.take j).filter fun b => decide (b ∈ p0.2)).map (fun b => [y, b]) ∧ ps'.length ≤ i * 64 + j)
        ⟨x4, ps, rfl, sx, nw, by rw [pe]; exact (List.append_nil _).symm, by omega⟩ (fun j σ Hz _ ⟨_, _, _, sz, _⟩ => .inl (.inl (sz _ _ el5))) ?_ ?_
      · rintro j v σ Hz hv ⟨x4, ps', rfl, sz, nz, pe', pl'⟩
        obtain ⟨b, hb, rfl⟩ := strs_at hv
        have jl := (List.getElem?_eq_some_iff.mp hb).1
        have x5 := x.same (s05.trans sz)
        have row := x5.o.u _ (valA_mem ev)
        refine ⟨_, rfl, _, rfl, s, _, rfl, (by have := DGet.k (k := .inr "out") x5.s; rwa [st_out] at this), _, rfl, lo, _, rfl, (by have := DGet.k (k := .inr y) x5.o.d; rwa [valA_map, ev] at this), p0.1, _, rfl, .inl (.inl (.inl row)), rfl, txt_flat p0.2, _, rfl, ?_⟩
        rw [if_neg Bool.false_ne_true, inV_txt]
        refine iteB (fun h => ?_) (fun h => ?_)
        · refine ⟨_, rfl, .inl ⟨rfl, _, .inl (.inl nz.l)⟩, _, rfl, _, rfl, by show 2 ≤ sizeLine; decide, fun t nt => ?_⟩
          have n4 := nz.push (k := [y, b]) nt
          refine ⟨d, _, _, rfl, rfl, (upd_ne (ne_of_none nz.l nt)).trans nz.l, by rw [List.length_map]; exact sz8 (by omega), ?_⟩
          refine ⟨_, ps' ++ [(t, [y, b])], rfl, same_push (k := [y, b]) sz nd nt, n4, ?_, by rw [List.length_append]; show ps'.length + 1 ≤ _; omega⟩
          rw [List.map_append, pe', filt_yes (c := fun b => decide (b ∈ p0.2)) hb h, List.map_append, List.append_assoc]
          rfl
        · refine ⟨_, ps', rfl, sz, nz, ?_, by omega⟩
          rw [filt_no (c := fun b => decide (b ∈ p0.2)) hb h]
          exact pe'
      · rintro σ Hz ⟨x4, ps', rfl, sz, nz, pe', pl'⟩
        rw [List.length_map, List.take_length] at pe'
        rw [List.length_map] at pl'
        refine ⟨_, x4, ps', rfl, sz, nz, ?_, by rw [Nat.add_mul]; omega⟩
        rw [take_snoc hy, List.flatMap_append, List.flatMap_cons, List.flatMap_nil, List.append_nil, rowE]
        exact pe'
    · rintro σ Hx ⟨x3, x4, ps, rfl, sx, nw, pe, pl⟩
      rw [List.length_map, List.take_length] at pe
      have l2 : ∀ p ∈ ps, p.2.length = 2 := fun p hp => by
        have : p.2 ∈ ns.flatMap rowQ := pe ▸ List.mem_map.mpr ⟨p, hp, rfl⟩
        obtain ⟨a, _, h⟩ := List.mem_flatMap.mp this
        obtain ⟨b, _, h⟩ := List.mem_map.mp h
        rw [← h]
        rfl
      exact ⟨_, rfl, q ns ps d Hx ⟨pm2, so, pe⟩ (none_of s05 nd) (s05.trans sx) ⟨nw.l, fun p hp => ⟨l2 p hp, .inl (.inl (nw.t p hp))⟩⟩⟩
end
end Kx

namespace Kx
open PySem PySem.Spec PyProof.Rows L2 NdefX Kr Ke Kn Kz Ky Kg StX
/-! ### _law_by_times -/
/-- the pairs so far -/
structure BI (H Hx : Hp) (d : Addr) (ps : List AL) (c : List Str → Prop) (n : Nat) : Prop where
  s : Same H Hx
  l : Hx d = some (.lst (ps.map fun q => V.ref q.1))
  t : ∀ q ∈ ps, Hx q.1 = some (.tup (q.2.map V.str)) ∧ q.1 ≠ d
  n : ps.length ≤ n
  nd : (ps.map (·.2)).Nodup
  sh : ∀ q ∈ ps, q.2.length = 2 ∧ ∀ z ∈ q.2, Sht z 20
  m : ∀ q, q ∈ ps.map (·.2) ↔ c q
theorem BI.more {H Hx Hy : Hp} {d : Addr} {ps : List AL} {c c' : List Str → Prop} {n n' : Nat} (b : BI H Hx d ps c n) (s : Same Hx Hy) (hn : n ≤ n') (h : ∀ q, c q ↔ c' q) : BI H Hy d ps c' n' := ⟨b.s.trans s, s _ _ b.l, fun q hq => ⟨s _ _ (b.t q hq).1, (b.t q hq).2⟩, Nat.le_trans b.n hn, b.nd, b.sh, fun q => (b.m q).trans (h q)⟩
theorem BI.put {H Hx Hy : Hp} {d t : Addr} {ps : List AL} {c c' : List Str → Prop} {n : Nat} {a e : Str} (b : BI H Hx d ps c n) (s : Same Hx Hy) (nd : H d = none) (ht : Hy t = some (.tup [V.str a, V.str e])) (hd : t ≠ d) (ha : Sht a 20) (he : Sht e 20) (hn : ¬ c [a, e]) (h : ∀ q, c' q ↔ c q ∨ q = [a, e]) : BI H (upd Hy d (.lst ((ps.map fun q => V.ref q.1) ++ [.ref t]))) d (ps ++ [(t, [a, e])]) c' (n + 1) := by
  refine ⟨same_mut (b.s.trans s) nd, by rw [upd_same, List.map_append]; rfl, fun q hq => ?_, by rw [List.length_append]; exact Nat.succ_le_succ b.n, ?_, fun q hq => ?_, fun q => ?_⟩
  · rcases List.mem_append.mp hq with hq | hq
    · exact ⟨by rw [upd_ne (b.t q hq).2]; exact s _ _ (b.t q hq).1, (b.t q hq).2⟩
    · rw [List.mem_singleton.mp hq]
      exact ⟨by show (upd Hy d _) t = _; rw [upd_ne hd]; exact ht, hd⟩
  · rw [List.map_append]
    exact List.nodup_append.mpr ⟨b.nd, List.pairwise_singleton _ _, fun x hx y hy e' => hn ((b.m _).mp (by rw [show [a, e] = y from (List.mem_singleton.mp hy).symm, ← e']; exact hx))⟩
  · rcases List.mem_append.mp hq with hq | hq
    · exact b.sh q hq
    · rw [List.mem_singleton.mp hq]
      refine ⟨rfl, fun z hz => ?_⟩
      rcases List.mem_cons.mp hz with rfl | hz
      · exact ha
      · rw [List.mem_singleton.mp hz]; exact he
  · rw [List.map_append, List.mem_append, b.m, h]
    exact or_congr Iff.rfl List.mem_singleton
/-- what the acts from the i-th on, each with those behind it, add up to -/
def btc (ka : List AA) (i : Nat) (q : List Str) : Prop := ∃ a b, q = [a, b] ∧ ∃ j, j < i ∧ ∃ o, ka[j]? = some o ∧ o.2.1 = a ∧ ∃ y ∈ ka.drop (j + 1), y.2.1 = b ∧ pairA o.2 y.2 = true
def btd (ka : List AA) (o : AA) (i j : Nat) (q : List Str) : Prop := btc ka i q ∨ ∃ y ∈ (ka.drop (i + 1)).take j, q = [o.2.1, y.2.1] ∧ pairA o.2 y.2 = true
theorem btM_idx {a b : Str} : ∀ {ka : List AA}, btM a b (ka.map (·.2)) ↔ ∃ j o, ka[j]? = some o ∧ o.2.1 = a ∧ ∃ y ∈ ka.drop (j + 1), y.2.1 = b ∧ pairA o.2 y.2 = true
  | [] => ⟨fun h => h.elim, fun ⟨j, o, h, _⟩ => by simp at h⟩
  | x :: r => by
    show (x.2.1 = a ∧ ∃ y ∈ r.map (·.2), y.1 = b ∧ pairA x.2 y = true) ∨ btM a b (r.map (·.2)) ↔ _
    rw [btM_idx (ka := r)]
    constructor
    · rintro (⟨h1, y, hy, h2⟩ | ⟨j, o, h⟩)
      · obtain ⟨y', hy', rfl⟩ := List.mem_map.mp hy
        exact ⟨0, x, rfl, h1, y', hy', h2⟩
      · exact ⟨j + 1, o, by simpa using h⟩
    · rintro ⟨j, o, h⟩
      cases j with
      | zero =>
        obtain ⟨h0, h1, y, hy, h2⟩ := h
        have e : x = o := by simpa using h0
        subst e
        exact .inl ⟨h1, y.2, List.mem_map.mpr ⟨y, hy, rfl⟩, h2⟩
      | succ j => exact .inr ⟨j, o, by simpa using h⟩
abbrev s_byt : Stmt := topS 76
abbrev N_byt : List Str := ["_law_state", "_law_pairs_here", "_law_i", "_law_one", "_law_two", "_law_pair"]
theorem sc_byt : FnScope N_byt ["_law_state"] (defScope s_byt) := ⟨rfl, rfl, rfl, by decide +kernel, rfl, by decide +kernel, by decide +kernel⟩
structure BtOf (acts : List Act) (ps : List (List Str)) : Prop where
  nd : ps.Nodup
  m : ∀ q, q ∈ ps ↔ ∃ a b, q = [a, b] ∧ btM a b acts
def spByt (K : PySem.W.Frag) : Sp := fun vs H Q _ => ∃ (av : Addr → Prop) (s : Addr) (L : Lst), vs = [.ref s] ∧ LsAv av K H s L ∧ L.acts.length ≤ 300 ∧ (∀ x ∈ L.acts, Sht x.1 20) ∧ ∀ (ps : List AL) (d : Addr) H', BtOf L.acts (ps.map (·.2)) → H d = none → Same H H' → PrsAt K H' d ps → Q (.ref d) H'
section
variable {P : Program} {w : World} {K : PySem.W.Frag} {mg : Str → Option Value} {base : Heap}
theorem ok_byt {f : Addr} {fd : FuncData} (F : Fun K "_law_by_times" "_law_by_times" s_byt f fd) (T : TxS mg) : FnOk P w K mg base CX0 1 f fd ["_law_state"] (spByt K) := by
  refine F.ok sc_byt (fun vs H Q E h => ?_) (fun cdv A outer s H vs Q E hr h => ?_)
  · obtain ⟨av, s, L, rfl, _⟩ := h
    rfl
  · obtain ⟨av, s, L, rfl, ⟨lr, le, la, lo, ka, ko, x, ax⟩, l3, sh, q⟩ := h
    refine ⟨_, (pss_cons (ps_set (i := 1) sc_byt.nd rfl (Or.inl rfl) (pe_lst pa_nil))
      (pss_cons (ps_for PassesOwn.never rfl (pi_range1 (by rfl) T.m_range (pa_cons (pe_callB call_len_seq (by rfl) T.m_len (by decide +kernel) (pa_cons (pe_dget (hu_of hr) (pv 0) pe_str (fun _ _ => rfl)) pa_nil)) pa_nil)) (pg_name (i := 2) sc_byt.nd rfl (Or.inl rfl))
        (pss_cons (ps_set (i := 3) sc_byt.nd rfl (Or.inl rfl) (pe_ix (show IxR _ (rIxL K) from ix_list) (pe_dget (hu_of hr) (pv 0) pe_str (fun _ _ => rfl)) (pv 2) (fun _ _ => rfl)))
        (pss_one (ps_for PassesOwn.never rfl (pi_list (pe_slice sl_list (pe_dget (hu_of hr) (pv 0) pe_str (fun _ _ => rfl)) (po_some (pe_op op_add (pv 2) pe_int)) po_none)) (pg_name (i := 4) sc_byt.nd rfl (Or.inl rfl))
          (pss_cons (ps_set (i := 5) sc_byt.nd rfl (Or.inl rfl) (pe_tup (pa_cons (pe_ix (show IxR _ (rIxT K) from ix_tup) (pv 3) pe_int (fun _ _ => rfl)) (pa_cons (pe_ix (show IxR _ (rIxT K) from ix_tup) (pv 4) pe_int (fun _ _ => rfl)) pa_nil))))
          (pss_one (ps_if (PW.pt (pw_and (pt_cmpR op_eq (pe_ix (show IxR _ (rIxT K) from ix_tup) (pv 3) pe_int (fun _ _ => rfl)) (pe_ix (show IxR _ (rIxT K) from ix_tup) (pv 4) pe_int (fun _ _ => rfl)) (nomark _)) (pw_and (pt_cmpR op_ne (pe_ix (show IxR _ (rIxT K) from ix_tup) (pv 3) pe_int (fun _ _ => rfl)) (pe_ix (show IxR _ (rIxT K) from ix_tup) (pv 4) pe_int (fun _ _ => rfl)) (nomark _)) (pw_and1 (pt_cmpR op_gt (pe_op op_add (pe_ix (show IxR _ (rIxT K) from ix_tup) (pv 3) pe_int (fun _ _ => rfl)) (pe_ix (show IxR _ (rIxT K) from ix_tup) (pv 4) pe_int (fun _ _ => rfl))) pe_int (nomark _))))))
            (pss_one (ps_if (pt_cmpR (op_notInD (hu65k hr)) (pv 5) (pv 1) (by rfl))
              (pss_one (ps_expr (pe_bm PySem.F.plainAttrs_list PySem.F.slot_list_append PySem.F.type_list_append mt_append (pv 1) (pa_cons (pv 5) pa_nil))))
              pss_nil))
            pss_nil)))))))
      (pss_one (ps_ret (pv 1))))), ?_⟩
    have kl : ka.length = L.acts.length := by rw [← x.aw, List.length_map]
    have pl : (ka.map fun q : AA => V.ref q.1).length = ka.length := List.length_map _
    refine ⟨by show 0 ≤ sizeLine; decide, fun d nd => ?_⟩
    have s1 : Same H (upd H d (.lst [])) := same_upd nd
    have x1 := x.same s1
    refine ⟨_, rfl, s, _, rfl, (by have := DGet.k (k := .inr "acts") x1.s; rwa [st_acts] at this), la, _, rfl, .inl (.inl (.inl x1.a.l)), _, rfl, by omega, by omega, ?_⟩
    have shk : ∀ q ∈ ka, Sht q.2.1 20 := fun q hq => sh q.2 (by rw [← x.aw]; exact List.mem_map.mpr ⟨q, hq, rfl⟩)
    refine for_range (lo := 0) (n := ((((ka.map fun q : AA => V.ref q.1).length : Nat) : Int)).toNat) (fun i σ Hx => ∃ (x2 x3 x4 x5 : Option V) (ps : List AL), σ = [some (.ref s), some (.ref d), x2, x3, x4, x5] ∧ BI H Hx d ps (btc ka i) (i * 300))
      ⟨none, none, none, none, [], rfl, s1, upd_same, (fun _ h => nomatch h), Nat.zero_le _, List.nodup_nil, (fun _ h => nomatch h), fun q => ⟨(fun h => nomatch h), fun ⟨a, b, _, j, h, _⟩ => absurd h (Nat.not_lt_zero j)⟩⟩ ?_ ?_
    · rintro i σ Hx hi ⟨x2, x3, x4, x5, ps, rfl, bi⟩
      have hi' : i < ka.length := by omega
      have xx := x.same bi.s
      obtain ⟨o, eo⟩ : ∃ o, ka[i]? = some o := ⟨ka[i], List.getElem?_eq_getElem hi'⟩
      have om := List.mem_of_getElem? eo
      have ez : (0 : Int) + (i : Int) = ((i : Nat) : Int) := by omega
      have dg : DGet Hx s (.str "acts") (some (.ref la)) := by have := DGet.k (k := .inr "acts") xx.s; rwa [st_acts] at this
      refine ⟨_, rfl, s, _, rfl, dg, _, rfl, la, _, ((i : Nat) : Int), V.ref o.1, rfl, by rw [ez], .inl (.inl xx.a.l), atI_nat (by rw [List.getElem?_map, eo]; rfl), ?_⟩
      refine ⟨_, rfl, s, _, rfl, dg, _, rfl, _, _, rfl, rfl, _, rfl, ?_⟩
      have hc : cutV (ka.map fun q : AA => V.ref q.1) (some (0 + (i : Int) + 1)) none = (ka.drop (i + 1)).map fun q : AA => V.ref q.1 := by
        rw [show (0 : Int) + (i : Int) + 1 = ((i + 1 : Nat) : Int) by omega]
        unfold cutV
        rw [HT.sIx_nat, HT.sIx_none, List.length_map, Nat.min_eq_left (by omega), List.map_drop]
        exact List.take_of_length_le (by rw [List.length_drop, List.length_map]; exact Nat.le_refl _)
      refine ⟨la, _, rfl, .inl (.inl xx.a.l), fun c nc => ?_⟩
      have sc : Same Hx (upd Hx c (.lst (cutV (ka.map fun q : AA => V.ref q.1) (some (0 + (i : Int) + 1)) none))) := same_upd nc
      have ec : (upd Hx c (.lst (cutV (ka.map fun q : AA => V.ref q.1) (some (0 + (i : Int) + 1)) none))) c = some (.lst ((ka.drop (i + 1)).map fun q : AA => V.ref q.1)) := by rw [upd_same, hc]
      have cd : c ≠ d := fun e => by rw [e, bi.l] at nc; cases nc
      generalize upd Hx c (.lst (cutV (ka.map fun q : AA => V.ref q.1) (some (0 + (i : Int) + 1)) none)) = H2 at sc ec ⊢
      refine ⟨c, rfl, ⟨_, .inl (.inl ec)⟩, ?_⟩
      refine for_list (xs := (ka.drop (i + 1)).map fun q : AA => V.ref q.1) (fun j σ Hy => ∃ (x4 x5 : Option V) (ps : List AL), σ = [some (.ref s), some (.ref d), some (.int (0 + (i : Int))), some (.ref o.1), x4, x5] ∧ Hy c = some (.lst ((ka.drop (i + 1)).map fun q : AA => V.ref q.1)) ∧ BI H Hy d ps (btd ka o i j) (i * 300 + j))
        ⟨x4, x5, ps, rfl, ec, bi.more sc (by omega) fun q => ⟨.inl, fun h => h.elim id fun ⟨_, h, _⟩ => absurd h (by simp)⟩⟩ (fun j σ Hy _ ⟨_, _, _, _, ec, _⟩ => .inl (.inl ec)) ?_ ?_
      · rintro j v σ Hy hv ⟨x4, x5, ps, rfl, ec, bj⟩
        rw [List.getElem?_map] at hv
        obtain ⟨y, hy, rfl⟩ := Option.map_eq_some_iff.mp hv
        have jl := (List.getElem?_eq_some_iff.mp hy).1
        rw [List.length_drop] at jl
        have ym : y ∈ ka := List.mem_of_mem_drop (List.mem_of_getElem? hy)
        have xy := x.same bj.s
        have tO := xy.a.t o om
        have tY := xy.a.t y ym
        have tk := take_snoc hy
        refine ⟨_, rfl, o.1, _, ((0 : Nat) : Int), _, rfl, rfl, tO, atI_nat rfl, _, rfl, y.1, _, ((0 : Nat) : Int), _, rfl, rfl, tY, atI_nat rfl, by show 2 ≤ sizeLine; decide, fun t nt => ?_⟩
        have st : Same Hy (upd Hy t (.tup [V.str o.2.1, V.str y.2.1])) := same_upd nt
        have et : (upd Hy t (.tup [V.str o.2.1, V.str y.2.1])) t = some (.tup [V.str o.2.1, V.str y.2.1]) := upd_same
        have td : t ≠ d := fun e => by rw [e, bj.l] at nt; cases nt
        generalize upd Hy t (.tup [V.str o.2.1, V.str y.2.1]) = Hz at st et ⊢
        have tO := Same.tupS st tO
        have tY := Same.tupS st tY
        have step : ∀ q, btd ka o i (j + 1) q ↔ btd ka o i j q ∨ (q = [o.2.1, y.2.1] ∧ pairA o.2 y.2 = true) := fun q => by
          unfold btd
          rw [tk]
          constructor
          · rintro (h | ⟨y', h1, h2⟩)
            · exact .inl (.inl h)
            · rcases List.mem_append.mp h1 with h1 | h1
              · exact .inl (.inr ⟨y', h1, h2⟩)
              · rw [List.mem_singleton.mp h1] at h2
                exact .inr h2
          · rintro ((h | ⟨y', h1, h2⟩) | h)
            · exact .inl h
            · exact .inr ⟨y', List.mem_append_left _ h1, h2⟩
            · exact .inr ⟨y, List.mem_append_right _ (List.mem_singleton.mpr rfl), h⟩
        have skip : pairA o.2 y.2 = false → ∃ (x4 x5 : Option V) (ps : List AL), [some (V.ref s), some (V.ref d), some (V.int (0 + (i : Int))), some (V.ref o.1), some (V.ref y.1), some (V.ref t)] = [some (.ref s), some (.ref d), some (.int (0 + (i : Int))), some (.ref o.1), x4, x5] ∧ Hz c = some (.lst ((ka.drop (i + 1)).map fun q : AA => V.ref q.1)) ∧ BI H Hz d ps (btd ka o i (j + 1)) (i * 300 + (j + 1)) := fun hp =>
          ⟨_, _, ps, rfl, st _ _ ec, bj.more st (by omega) fun q => by rw [step, hp]; simp⟩
        refine ⟨_, rfl, o.1, _, ((1 : Nat) : Int), _, rfl, rfl, tO, atI_nat rfl, _, rfl, y.1, _, ((1 : Nat) : Int), _, rfl, rfl, tY, atI_nat rfl, rfl, _, rfl, ?_⟩
        rw [strV]
        refine iteB (fun h1 => ?_) (fun h1 => iteF (skip (by unfold pairA; rw [h1]; rfl)))
        refine ⟨_, rfl, o.1, _, ((0 : Nat) : Int), _, rfl, rfl, tO, atI_nat rfl, _, rfl, y.1, _, ((0 : Nat) : Int), _, rfl, rfl, tY, atI_nat rfl, rfl, _, rfl, ?_⟩
        rw [strV]
        refine iteB (fun h2 => ?_) (fun h2 => iteF (skip (by unfold pairA; rw [h2, Bool.false_and, Bool.and_false])))
        refine ⟨_, rfl, o.1, _, ((2 : Nat) : Int), _, rfl, rfl, tO, atI_nat rfl, _, rfl, y.1, _, ((2 : Nat) : Int), _, rfl, rfl, tY, atI_nat rfl, _, _, rfl, rfl, _, _, rfl, rfl, _, rfl, ?_⟩
        have i3 : decide ((2 : Int) < (o.2.2.2 : Int) + (y.2.2.2 : Int)) = decide (o.2.2.2 + y.2.2.2 > 2) := by
          rw [decide_eq_decide]
          omega
        refine iteB (fun h3 => ?_) (fun h3 => skip ?_)
        · have hp : pairA o.2 y.2 = true := by
            unfold pairA
            rw [h1, h2, Bool.true_and, Bool.true_and, ← i3]
            exact h3
          have il : i * 300 ≤ 299 * 300 := Nat.mul_le_mul_right 300 (by omega)
          have shp1 : SeqAt.shaped (.tuple (tD [o.2.1, y.2.1])) = true := shp_tup (n := 1000) fun z hz => by
            rcases List.mem_cons.mp hz with rfl | hz
            · exact (shk o om).le (by decide)
            · rw [List.mem_singleton.mp hz]; exact (shk y ym).le (by decide)
          have shp2 : SeqAt.shaped (.list (tT (ps.map (·.2)))) = true := shp_tT (n := 1000) fun g hg z hz => by
            obtain ⟨q', hq, rfl⟩ := List.mem_map.mp hg
            exact ((bj.sh q' hq).2 z hz).le (by decide)
          refine ⟨_, rfl, _, rfl, .tuple (tD [o.2.1, y.2.1]), tT (ps.map (·.2)), .tup (.inl (.inl et)) (dp_txts [o.2.1, y.2.1]), .lst (.inl (.inl (st _ _ bj.l))) (dp_tups fun q' hq => .inl (.inl (st _ _ (bj.t q' hq).1))), shp1, shp2, _, rfl, ?_⟩
          rw [any_tT]
          refine iteB (fun h => ?_) (fun h => ?_)
          · have hn : [o.2.1, y.2.1] ∉ ps.map (·.2) := by simpa using h
            refine ⟨_, rfl, .inl ⟨rfl, _, .inl (.inl (st _ _ bj.l))⟩, _, rfl, d, _, _, rfl, rfl, st _ _ bj.l, by rw [List.length_map]; exact Nat.lt_of_le_of_lt (show ps.length ≤ 100000 by have := bj.n; omega) (by decide), ?_⟩
            refine ⟨_, _, ps ++ [(t, [o.2.1, y.2.1])], rfl, (upd_ne cd).trans (st _ _ ec), bj.put st nd et td (shk o om) (shk y ym) (fun hc => hn ((bj.m _).mpr hc)) fun q => ?_⟩
            rw [step, hp]
            simp
          · have hm : [o.2.1, y.2.1] ∈ ps.map (·.2) := by simpa using h
            refine ⟨_, _, ps, rfl, st _ _ ec, bj.more st (by omega) fun q => ?_⟩
            rw [step]
            exact ⟨.inl, fun h => h.elim id fun ⟨e, _⟩ => e ▸ (bj.m _).mp hm⟩
        · unfold pairA
          rw [← i3]
          have h3 : decide ((2 : Int) < (o.2.2.2 : Int) + (y.2.2.2 : Int)) = false := h3
          rw [h3, Bool.and_false, Bool.and_false]
      · rintro σ Hy ⟨x4, x5, ps, rfl, ec, bj⟩
        refine ⟨_, _, _, _, ps, rfl, bj.more (Same.refl Hy) (by rw [List.length_map, List.length_drop, Nat.add_mul]; omega) fun q => ?_⟩
        unfold btd
        rw [List.length_map, List.take_length]
        constructor
        · rintro (⟨a, b, h1, j, h2, h3⟩ | ⟨y, hy, h1, h2⟩)
          · exact ⟨a, b, h1, j, by omega, h3⟩
          · exact ⟨_, _, h1, i, by omega, o, eo, rfl, y, hy, rfl, h2⟩
        · rintro ⟨a, b, h1, j, h2, o', h3, h4, y, hy, h5, h6⟩
          by_cases c : j < i
          · exact .inl ⟨a, b, h1, j, c, o', h3, h4, y, hy, h5, h6⟩
          · have ej : j = i := by omega
            subst ej
            rw [eo] at h3
            injection h3 with h3
            subst h3
            exact .inr ⟨y, hy, by rw [h1, h4, h5], h6⟩
    · rintro σ Hx ⟨x2, x3, x4, x5, ps, rfl, bi⟩
      refine ⟨_, rfl, q ps d Hx ⟨bi.nd, fun q' => ?_⟩ nd bi.s ⟨bi.l, fun q' hq => ⟨(bi.sh q' hq).1, .inl (.inl (bi.t q' hq).1)⟩⟩⟩
      rw [bi.m]
      unfold btc
      refine exists_congr fun a => exists_congr fun b => and_congr Iff.rfl ?_
      rw [← x.aw, btM_idx]
      refine ⟨fun ⟨j, _, o, h⟩ => ⟨j, o, h⟩, fun ⟨j, o, h⟩ => ⟨j, ?_, o, h⟩⟩
      have := (List.getElem?_eq_some_iff.mp h.1).1
      omega
end
end Kx

namespace Kx
open PySem PySem.Spec PyProof.Rows L2 NdefX Kr Ke Kn Kz Ky Kg StX
/-! ### the law -/
abbrev s_law : Stmt := topS 78
abbrev N_law : List Str := ["_law_script", "_law_pool", "_law_state", "_law_keeper", "_law_left", "_law_k", "_law_step", "_law_due", "_law_told", "_law_arcs", "_law_pair", "_law_name"]
theorem sc_law : FnScope N_law ["_law_script"] (defScope s_law) := ⟨rfl, rfl, rfl, by decide +kernel, rfl, by decide +kernel, by decide +kernel⟩
section
variable {P : Program} {w : World} {K : PySem.W.Frag} {mg : Str → Option Value} {base : Heap} {CK C : Addr} {mc : Value} {nf : Int → Int → Str}
def spLaw (K : PySem.W.Frag) : Sp := fun vs H Q _ => ∃ (a : Addr) (ns : List Int), vs = [.ref a] ∧ SqL K H a (ns.map V.int) ∧ ns.length ≤ 63 ∧ ∀ H', Q (.bl true) H'
/-- what stands between two turns -/
def TurnOk (K : PySem.W.Frag) (CK C : Addr) (nf : Int → Int → Str) (ms : List Int) (d0 : Int) (a p s k l : Addr) (i : Nat) (σ : L2.St) (Hx : Hp) : Prop := ∃ (x5 x6 x7 x8 x9 : Option V) (L : Lst) (W : Web) (left : List Str), σ = [some (V.ref a), some (V.ref p), some (V.ref s), some (V.ref k), some (V.ref l), x5, x6, x7, x8, x9, none, none] ∧ Hx p = some (.lst (ms.map V.int)) ∧ LsAv (fun b => b ≠ s ∧ b ≠ l) K Hx s L ∧ KpAv (fun b => b ≠ s ∧ b ≠ l) K CK C Hx k W 12 ∧ Hx l = some (.lst (left.map V.str)) ∧ Rl nf d0 i L W left
theorem ok_law {f : Addr} {fd : FuncData} (F : Fun K "law" "law" s_law f fd) (T : TxKp K mg CK mc) (NF : NmF nf) (Kp : KpC P w K mg base CK C 3) (Ma : MtC CX0 P w K mg base CK "arcs" 1 (spKArcs K CK C)) (C_draws_of : Cal P w K mg base "_law_draws_of" 1 (spDraws K)) (C_nth : Cal P w K mg base "_law_nth" 1 (spNth K)) (C_empty : Cal P w K mg base "_law_empty" 1 (spEmpty K))
    (C_next : Cal P w K mg base "_law_next_step" 2 (spNext K nf)) (C_again : Cal P w K mg base "_law_again" 1 (spAgain K)) (C_clashing : Cal P w K mg base "_law_clashing" 1 (spClashing K)) (C_answer : Cal P w K mg base "_law_answer" 8 (spAnsK K CK C)) (C_allows : Cal P w K mg base "_law_allows" 2 (spAllows K)) (C_taken : Cal P w K mg base "_law_taken" 2 (spTaken K)) (C_pairs : Cal P w K mg base "_law_pairs" 1 (spPairs K)) (C_byt : Cal P w K mg base "_law_by_times" 1 (spByt K)) :
    FnOk P w K mg base CX0 10 f fd ["_law_script"] (spLaw K) := by
  refine F.ok sc_law (fun vs H Q E h => ?_) (fun cdv A outer s H vs Q E hr h => ?_)
  · obtain ⟨a, ns, rfl, _⟩ := h
    rfl
  · obtain ⟨a, ns, rfl, hS, hlen, q⟩ := h
    refine ⟨_, (pss_cons (ps_set (i := 1) sc_law.nd rfl (Or.inl rfl) (pe_cal C_draws_of (hr.mono (by decide)) (by rfl) (pa_cons (pv 0) pa_nil)))
      (pss_cons (ps_set (i := 2) sc_law.nd rfl (Or.inl rfl) (pe_cal0 C_empty (hr.mono (by decide)) (by rfl)))
      (pss_cons (ps_set (i := 3) sc_law.nd rfl (Or.inl rfl) (pe_kp0 Kp (hr.mono (by decide)) (by rfl)))
      (pss_cons (ps_set (i := 4) sc_law.nd rfl (Or.inl rfl) (pe_lst pa_nil))
      (C8.pss_cut (ps_for PassesOwn.never rfl (pi_range1 (by rfl) T.m_range (pa_cons (pe_op op_mod (pe_callTy call_int1 (by rfl) T.m_int (by decide +kernel) (pa_cons (pe_ix (show IxR _ (rIxL K) from ix_list) (pv 1) pe_int (fun _ _ => rfl)) pa_nil)) pe_int) pa_nil)) (pg_name (i := 5) sc_law.nd rfl (Or.inl rfl))
        (pss_cons (ps_set (i := 6) sc_law.nd rfl (Or.inl rfl) (pe_cal C_next (hr.mono (by decide)) (by rfl) (pa_cons (pv 2) (pa_cons (pe_cal C_nth (hr.mono (by decide)) (by rfl) (pa_cons (pv 1) (pa_cons (pe_op op_add pe_int (pv 5)) pa_nil))) (pa_cons (pe_ix (show IxR _ (rIxL K) from ix_list) (pv 1) pe_int (fun _ _ => rfl)) pa_nil)))))
        (pss_cons (ps_if (pt_cmpR op_isN (pv 6) pe_non (nomark _))
          (pss_one ps_break)
          pss_nil)
        (C8.pss_cut (ps_if (pt_cmpR op_eq (pe_op op_mod (pe_callTy call_int1 (by rfl) T.m_int (by decide +kernel) (pa_cons (pe_ix (show IxR _ (rIxL K) from ix_list) (pv 1) pe_int (fun _ _ => rfl)) pa_nil)) pe_int) pe_int (nomark _))
          (pss_one (ps_set (i := 6) sc_law.nd rfl (Or.inl rfl) (pe_cal C_again (hr.mono (by decide)) (by rfl) (pa_cons (pv 6) (pa_cons (pv 4) pa_nil)))))
          pss_nil)
        (pss_cons (ps_set (i := 7) sc_law.nd rfl (Or.inl rfl) (pe_callB cr_sortedS (by rfl) T.m_sorted (by decide +kernel) (pa_cons (pe_lc (own := [("_law_name", 11)]) (g := gName 11) (tt := tYes) rfl sc_law.nd (pi_list (pe_cal C_clashing (hr.mono (by decide)) (by rfl) (pa_cons (pv 2) (pa_cons (pv 6) pa_nil)))) (blkOk_by (own := [("_law_name", 11)]) (N := N_law) (sc := defScope s_law) (by decide +kernel)) (fun _ _ _ _ _ => pg_name (i := 11) sc_law.nd rfl (Or.inl rfl)) (fun _ _ _ _ _ => pts_nil) (fun _ _ _ _ _ => (pe_callTy SkE.call_str_str (by rfl) T.m_str (by decide +kernel) (pa_cons (pv 11) pa_nil)))) pa_nil)))
        (C8.pss_cut (ps_set (i := 8) sc_law.nd rfl (Or.inl rfl) (pe_cal C_answer (hr.mono (by decide)) (by rfl) (pa_cons (pv 3) (pa_cons (pv 6) pa_nil))))
        (C8.pss_cut (ps_if (pt_val (pe_cal C_allows (hr.mono (by decide)) (by rfl) (pa_cons (pv 2) (pa_cons (pv 6) pa_nil))))
          (pss_cons (ps_if (PW.pt (pw_or (pt_not (pt_val (pe_callB call_isi (by rfl) T.m_isinstance (by decide +kernel) (pa_cons (pv 8) (pa_cons (pe_bltn (v := .ty "list") (by rfl) T.m_list (by decide +kernel) rfl) pa_nil))))) (pw_or1 (pt_cmpR (op_neD hr.units) (pv 8) (pv 7) (nomark _)))))
            (pss_one (ps_ret pe_bl))
            pss_nil)
          (pss_cons (ps_expr (pe_bm PySem.F.plainAttrs_list PySem.F.slot_list_append PySem.F.type_list_append mt_append (pv 8) (pa_cons pe_str pa_nil)))
          (pss_one (ps_expr (pe_cal C_taken (hr.mono (by decide)) (by rfl) (pa_cons (pv 2) (pa_cons (pv 6) pa_nil)))))))
          (pss_one (ps_if (pt_cmpR op_notN (pv 8) pe_non (nomark _))
            (pss_one (ps_ret pe_bl))
            pss_nil)))
        (pss_cons (ps_set (i := 9) sc_law.nd rfl (Or.inl rfl) (pe_md0 Ma (pv 3) T.insK.cl (hr.mono (by decide)) pass0))
        (pss_cons (ps_if (PW.pt (pw_or (pt_not (pt_val (pe_callB call_isi (by rfl) T.m_isinstance (by decide +kernel) (pa_cons (pv 9) (pa_cons (pe_bltn (v := .ty "list") (by rfl) T.m_list (by decide +kernel) rfl) pa_nil))))) (pw_or1 (pt_cmpR (op_neD hr.units) (pv 9) (pe_cal C_pairs (hr.mono (by decide)) (by rfl) (pa_cons (pv 2) pa_nil)) (nomark _)))))
          (pss_one (ps_ret pe_bl))
          pss_nil)
        (pss_one (ps_expr (pe_bm PySem.F.plainAttrs_list PySem.F.slot_list_append PySem.F.type_list_append mt_append (pv 9) (pa_cons (pe_tup (pa_cons pe_str (pa_cons pe_str pa_nil))) pa_nil)))))))))))))
      (pss_cons (ps_set (i := 7) sc_law.nd rfl (Or.inl rfl) (pe_cal C_byt (hr.mono (by decide)) (by rfl) (pa_cons (pv 2) pa_nil)))
      (pss_cons (ps_set (i := 9) sc_law.nd rfl (Or.inl rfl) (pe_md0 Ma (pv 3) T.insK.cl (hr.mono (by decide)) pass0))
      (pss_cons (ps_for PassesOwn.never rfl (pi_list (pv 7)) (pg_name (i := 10) sc_law.nd rfl (Or.inl rfl))
        (pss_one (ps_if (pt_cmpR (op_notInD (hu65k hr)) (pv 10) (pv 9) (by rfl))
          (pss_one (ps_ret pe_bl))
          pss_nil)))
      (pss_one (ps_ret (pe_cmpR op_eq (pe_callB call_len_seq (by rfl) T.m_len (by decide +kernel) (pa_cons (pv 9) pa_nil)) (pe_callB call_len_seq (by rfl) T.m_len (by decide +kernel) (pa_cons (pv 7) pa_nil)) (nomark _)))))))))))), ?_⟩
    refine ⟨_, rfl, a, ns, rfl, hS, hlen, fun H1 p ms sm np ep hP => ?_⟩
    clear sm np hS
    have hlo := hP.lo
    obtain ⟨r0a, r0b⟩ := (getD_rg hP.rg (i := 0) (by omega)).2
    obtain ⟨r1a, r1b⟩ := (getD_rg hP.rg (i := 1) (by omega)).2
    obtain ⟨r2a, r2b⟩ := (getD_rg hP.rg (i := 2) (by omega)).2
    have a0 : atI (ms.map V.int) 0 = some (.int (ms.getD 0 0)) := at_pool (by decide) (by omega)
    have a1 : atI (ms.map V.int) 1 = some (.int (ms.getD 1 0)) := at_pool (by decide) (by omega)
    have a2 : atI (ms.map V.int) 2 = some (.int (ms.getD 2 0)) := at_pool (by decide) (by omega)
    generalize ms.getD 0 0 = d0 at *
    generalize ms.getD 1 0 = d1 at *
    generalize ms.getD 2 0 = d2 at *
    refine ⟨rfl, fun s H2 n2 s2 ls => ?_⟩
    intro k H3 n3 s3 kp
    refine ⟨by show 0 ≤ sizeLine; decide, fun l n4 => ?_⟩
    have s4 : Same H3 (upd H3 l (.lst [])) := same_upd n4
    have e4 : (upd H3 l (.lst [])) l = some (.lst (([] : List Str).map V.str)) := upd_same
    generalize upd H3 l (.lst []) = H4 at s4 e4 ⊢
    have ls4 := ((ls.same s3).beside n4 fun b hb => hb.2).same s4
    have es2 : ∃ u, H2 s = some u := let ⟨_, _, _, _, _, _, x, _⟩ := ls; ⟨_, x.s⟩
    obtain ⟨u2, es2⟩ := es2
    have kp4 := (kp.beside (s := s) n4 fun b hb e => by rw [e, es2] at hb; cases hb).same s4
    have ep4 := s4 _ _ (s3 _ _ (s2 _ _ ep))
    have sk : s ≠ k := ne_of_none es2 n3
    have sl : s ≠ l := ne_of_none (s3 _ _ es2) n4
    have kl : k ≠ l := let ⟨_, ⟨_, e⟩, _⟩ := kp; ne_of_none e n4
    have pk : p ≠ k := ne_of_none (s2 _ _ ep) n3
    have ps : p ≠ s := ne_of_none ep n2
    have pl : p ≠ l := ne_of_none (s3 _ _ (s2 _ _ ep)) n4
    clear ls kp es2 ep s2 s3 s4 n2 n3 n4
    have m41 := Int.emod_lt_of_pos d1 (show (0 : Int) < 41 by decide)
    have m41' := Int.emod_nonneg d1 (show (41 : Int) ≠ 0 by decide)
    refine ⟨fun σ Hx => ∃ i, i ≤ 41 ∧ TurnOk K CK C nf ms d0 a p s k l i σ Hx, ?_, ?_⟩
    · refine ⟨_, rfl, p, _, 1, _, rfl, rfl, .inl (.inl ep4), a1, .inl ⟨_, rfl, _, _, rfl, rfl, (by show (0 : Int) < 41; decide), _, rfl, by omega, by omega, ?_⟩⟩
      refine for_range (lo := 0) (n := (d1 % 41).toNat) (TurnOk K CK C nf ms d0 a p s k l)
        ⟨none, none, none, none, none, lst0, web0, [], rfl, ep4, ls4, kp4, e4, rl0 nf d0⟩ ?_ (fun σ Hx h => ⟨_, by omega, h⟩)
      rintro i σ Hx hi ⟨x5, x6, x7, x8, x9, L, W, left, rfl, ep, ls, kp, el, r⟩
      have i41 : i < 41 := by omega
      rw [Int.zero_add]
      have dr := nthV_rg hP (k := 3 + (i : Int)) (by omega)
      have l12 := r.l12
      have u12 := r.us
      have lrun : L.run.length ≤ 12 := by
        have := nd_len L.run W.line r.rnd fun z hz => ((r.run z).mp hz).1
        omega
      refine ⟨_, rfl, _, rfl, _, rfl, _, _, rfl, rfl, p, ms, 3 + (i : Int), rfl, .inl (.inl ep), hP, by omega, by omega, ?_⟩
      generalize nthV ms (3 + (i : Int)) = dw at dr ⊢
      refine ⟨_, rfl, p, _, 0, _, rfl, rfl, .inl (.inl ep), a0, ?_⟩
      refine ⟨_, s, L, dw, d0, rfl, ls, dr.1, by have := dr.2; omega, r0a, by omega, by omega, fun z hz => r.w.nm z ((r.run z).mp hz).1, fun H5 s5 => ?_, fun u b H5 du s5 st => ?_⟩
      · refine ⟨_, rfl, rfl, _, rfl, ?_⟩
        refine iteB (fun _ => ?_) (fun h => absurd h (by decide))
        exact ⟨i, by omega, _, _, _, _, _, L, W, left, rfl, s5 _ _ ep, ls.same s5, kp.same s5, s5 _ _ el, r⟩
      · refine ⟨_, rfl, rfl, _, rfl, ?_⟩
        refine iteB (fun h => absurd h (by simp)) (fun _ => ?_)
        -- again or not: a step u' at b', the list of those that quit
        refine ⟨fun σ Hy => ∃ (b' : Addr) (u' : Stp) (lf : List Str), σ = [some (V.ref a), some (V.ref p), some (V.ref s), some (V.ref k), some (V.ref l), some (V.int (i : Int)), some (V.ref b'), x7, x8, x9, none, none] ∧ Hy p = some (.lst (ms.map V.int)) ∧ LsAv (fun b => b ≠ s ∧ b ≠ l) K Hy s L ∧ KpAv (fun b => b ≠ s ∧ b ≠ l) K CK C Hy k W 12 ∧ Hy l = some (.lst (lf.map V.str)) ∧ StAt K Hy b' u'.ps ∧ StOk W u' ∧ (∀ t ∈ u'.ts, t ∈ thingsV nf d0) ∧ u'.ts.length ≤ 8 ∧ stepB u'.ps = true ∧ (W.ended.length : Int) + 1 ≤ 12 ∧ (∀ g c, HitOf L u' g → ClashOf W u' c → NoW (arcs W.prs) u'.pr (hurtW W u') → Rl nf d0 (i + 1) (tkL L u' g) (aftW W u' c) lf) ∧ (¬ NoW (arcs W.prs) u'.pr (hurtW W u') → Rl nf d0 (i + 1) L W lf), ?_, ?_⟩
        · have ep5 := s5 _ _ ep
          have ls5 := ls.same s5
          have kp5 := kp.same s5
          have el5 := s5 _ _ el
          obtain ⟨so, dt, l8⟩ := drawn_ok NF r0a r du
          obtain ⟨sb, en⟩ := drawn_en NF r0a r du
          have nnA := List.nodup_append.mp r.nn
          have same : (∀ z, u ≠ .qt z ∨ True) → ∀ g c, HitOf L u g → ClashOf W u c → NoW (arcs W.prs) u.pr (hurtW W u) → Rl nf d0 (i + 1) (tkL L u g) (aftW W u c) left := fun _ g c hg cl nw => by
            cases du with
            | bg h => exact go_bg r so.nm h ⟨_, Nat.lt_succ_self _, rfl⟩ (List.nodup_cons.mpr ⟨fresh_nm NF r h, r.nn⟩) (fun _ h => h) hg cl
            | qt hz => exact go_qt r hz so hg cl false
            | rd hz ht => exact step_rd r so ht hg cl nw
            | cl hz ht hn => exact step_cl r so ht l8 hg cl nw
          refine ⟨_, rfl, p, _, 2, _, rfl, rfl, .inl (.inl ep5), a2, .inl ⟨_, rfl, _, _, rfl, rfl, (by show (0 : Int) < 2; decide), rfl, _, rfl, ?_⟩⟩
          refine iteB (fun _ => ?_) (fun _ => ?_)
          · have lf12 : left.length ≤ 12 := by omega
            refine ⟨_, rfl, _, rfl, b, l, u, left, rfl, st, el5, by omega, fun z hz => ?_, fun z y rr e1 e2 a' H6 o6 e6 st6 => ?_, fun z e1 e2 H6 s6 => ?_, fun z e1 H6 o6 e6 st6 => ?_, fun h1 h2 => ?_⟩
            · obtain ⟨j, hj, e⟩ := r.nm z (List.mem_append_right _ hz)
              rw [e]
              exact NF.ok (by omega) (by omega) (by omega)
            · subst e1 e2
              have u12' : L.used < 12 := by cases du with | bg h => exact h
              have ny : nameB y = true := by
                obtain ⟨j, hj, e⟩ := r.nm y (List.mem_append_right _ List.mem_cons_self)
                rw [e]
                exact NF.ok (by omega) (by omega) (by omega)
              have pm : (y :: (W.line ++ rr)).Nodup := (List.Perm.nodup_iff List.perm_middle).mp r.nn
              have yn : y ∉ W.line := fun h => (List.nodup_cons.mp pm).1 (List.mem_append_left _ h)
              refine ⟨a', .bg y, rr, rfl, o6 _ _ ep5 pl, ls5.away o6 (fun _ h => h.2) sl, kp5.away o6 (fun _ h => h.2) kl, e6, st6, ⟨fun z e => by injection e with e; rw [← e]; exact yn, ny, fun h => absurd rfl (h y), (fun _ h => nomatch h)⟩, (fun _ h => nomatch h), by show 0 ≤ 8; decide, stepB_ok ny (fun _ h => nomatch h) List.nodup_nil, bg_en r u12', fun g c hg cl nw => ?_, fun hn => absurd (now_nil fun _ => rfl) hn⟩
              obtain ⟨j, hj, e⟩ := r.nm y (List.mem_append_right _ List.mem_cons_self)
              exact go_bg r ny u12' ⟨j, by omega, e⟩ pm (fun x hx => List.mem_cons_of_mem _ hx) hg cl
            · exact ⟨b, u, left, rfl, s6 _ _ ep5, ls5.same s6, kp5.same s6, s6 _ _ el5, st.same s6, so, dt, l8, sb, en, same (fun _ => .inr trivial), fun _ => r.wait⟩
            · subst e1
              refine ⟨b, .qt z, left ++ [z], rfl, o6 _ _ ep5 pl, ls5.away o6 (fun _ h => h.2) sl, kp5.away o6 (fun _ h => h.2) kl, e6, st6, so, dt, l8, sb, en, fun g c hg cl nw => ?_, fun hn => absurd (now_nil fun _ => rfl) hn⟩
              have hz : z ∈ L.run := by cases du with | qt h => exact h
              exact go_qt r hz so hg cl true
            · exact ⟨b, u, left, rfl, ep5, ls5, kp5, el5, st, so, dt, l8, sb, en, same (fun _ => .inr trivial), fun _ => r.wait⟩
          · exact ⟨b, u, left, rfl, ep5, ls5, kp5, el5, st, so, dt, l8, sb, en, same (fun _ => .inr trivial), fun _ => r.wait⟩
        · rintro σ Hy ⟨b', u', lf, rfl, ep', ls', kp', el', st', so, dt, l8, sb, en, rgo, rno⟩
          have ac := r.ac
          rw [r.el] at ac
          have le12 : W.ended.length ≤ W.line.length := nd_len W.ended W.line r.w.en r.w.el
          obtain ⟨us, esy⟩ : ∃ u, Hy s = some u := let ⟨_, _, _, _, _, _, x, _⟩ := ls'; ⟨_, x.s⟩
          refine ⟨_, rfl, _, rfl, _, s, b', L, u', rfl, ls', st', by omega, fun due0 q0 H6 hg nd0 s6 e6 => ?_⟩
          have g12 : due0.length ≤ 12 := Nat.le_trans (nd_len due0 W.line hg.nd fun z hz => ((r.hit u' z).mp ((hg.m z).mp hz)).1) (by omega)
          refine ⟨q0, rfl, ⟨_, .inl (.inl e6)⟩, fun D nD => ?_⟩
          refine lc_list (K := K) (a := q0) (xs := due0.map V.str) (fun j H7 => Same H6 H7 ∧ H7 D = some (.lst ((due0.take j).map V.str))) ⟨same_upd nD, upd_same⟩ (fun j H7 _ ⟨s7, _⟩ => .inl (.inl (s7 _ _ e6))) ?_ ?_
          · rintro j v H7 hv ⟨s7, d7⟩
            obtain ⟨z, hz, rfl⟩ := strs_at hv
            refine ⟨rfl, _, rfl, z, rfl, _, d7, ?_, same_mut s7 nD, ?_⟩
            · rw [List.length_map, List.length_take]
              exact sz8 (by omega)
            · rw [upd_same, take_snoc hz, List.map_append]
              rfl
          rintro H7 ⟨s7, d7⟩
          rw [List.length_map, List.take_length] at d7
          refine ⟨D, due0, rfl, .inl (.inl d7), by omega, fun due dl pm sd ndl => ?_⟩
          have s8 : Same H7 (upd H7 dl (.lst (due.map V.str))) := same_upd ndl
          have ed : (upd H7 dl (.lst (due.map V.str))) dl = some (.lst (due.map V.str)) := upd_same
          show tSeq _ _ _ _ (upd H7 dl (.lst (due.map V.str)))
          generalize upd H7 dl (.lst (due.map V.str)) = H8 at s8 ed ⊢
          have s08 := s6.trans (s7.trans s8)
          have kp8 := kp'.same s08
          obtain ⟨hd8, ⟨dk8, ek8⟩, _⟩ := id kp8
          have es8 := s08 _ _ esy
          have ep8 := s08 _ _ ep'
          have el8 := s08 _ _ el'
          have ls8 := ls'.same s08
          have st8 := st'.same s08
          have dk : dl ≠ k := fun e => by rw [e, ek8] at ed; cases ed
          clear e6 nd0 s6 nD s7 d7 ndl s8 esy ep' el' ls' kp' st'
          refine ⟨fun σ Hx => ∃ (v8 : V) (Hm : Hp), σ = [some (V.ref a), some (V.ref p), some (V.ref s), some (V.ref k), some (V.ref l), some (V.int (i : Int)), some (V.ref b'), some (V.ref dl), some v8, x9, none, none] ∧ Same Hm Hx ∧ Hm p = some (.lst (ms.map V.int)) ∧ LsAv (fun b => b ≠ s ∧ b ≠ l) K Hm s L ∧ Hm dl = some (.lst (due.map V.str)) ∧ Hm l = some (.lst (lf.map V.str)) ∧ StAt K Hm b' u'.ps ∧ (∃ u, Hm s = some u) ∧
            ((NoW (arcs W.prs) u'.pr (hurtW W u') ∧ ∃ (t : Addr) (c : List Str), v8 = .ref t ∧ ClashOf W u' c ∧ Hm t = none ∧ Hx t = some (.lst (c.map V.str)) ∧ KpAv (fun b => b ≠ s ∧ b ≠ l) K CK C Hm k (aftW W u' c) 12) ∨ (¬ NoW (arcs W.prs) u'.pr (hurtW W u') ∧ v8 = .non ∧ KpAv (fun b => b ≠ s ∧ b ≠ l) K CK C Hm k W 12)), ?_, ?_⟩
          · refine ⟨_, rfl, _, rfl, _, k, b', W, 12, u', rfl, kp8, r.w, by omega, fun z _ => Nat.le_trans (r.tof8 z) (by decide), st8, sb, so, l8, en, by decide, ?_, ?_⟩
            · intro nw c t Hm H9 cl nt o9 kp9 nm s9 et
              refine ⟨_, Hm, rfl, s9, o9 _ _ ep8 pk, ls8.offI o9 ek8, o9 _ _ ed dk, o9 _ _ el8 kl.symm, st8.offI o9 ek8, ⟨_, o9 _ _ es8 sk⟩, .inl ⟨nw, t, c, rfl, cl, nm, et, kp9.mono fun b hb => avN_off es8 el8 hb⟩⟩
            · intro nn H9 s9
              exact ⟨_, H9, rfl, Same.refl H9, s9 _ _ ep8, ls8.same s9, s9 _ _ ed, s9 _ _ el8, st8.same s9, ⟨_, s9 _ _ es8⟩, .inr ⟨nn, rfl, kp8.same s9⟩⟩
          clear ls8 st8 kp8 es8 ep8 el8 ed ek8
          rintro σ Hx ⟨v8, Hm, rfl, sm, epm, lsm, edm, elm, stm, ⟨usm, esm⟩, alt⟩
          refine ⟨fun σ Hx => ∃ (x7 x8 : Option V) (L' : Lst) (W' : Web), σ = [some (V.ref a), some (V.ref p), some (V.ref s), some (V.ref k), some (V.ref l), some (V.int (i : Int)), some (V.ref b'), x7, x8, x9, none, none] ∧ Hx p = some (.lst (ms.map V.int)) ∧ LsAv (fun b => b ≠ s ∧ b ≠ l) K Hx s L' ∧ KpAv (fun b => b ≠ s ∧ b ≠ l) K CK C Hx k W' 12 ∧ Hx l = some (.lst (lf.map V.str)) ∧ Rl nf d0 (i + 1) L' W' lf, ?_, ?_⟩
          · refine ⟨_, rfl, _, rfl, _, s, b', L, u', rfl, lsm.same sm, stm.same sm, by omega, r.on, r.arcs400, fun now Hz sz => ?_, fun now Hz sz => ?_⟩
            · refine ⟨_, rfl, ?_⟩
              refine iteB (fun _ => ?_) (fun h => absurd h (by decide))
              have now' := (r.now u').mpr now
              rcases alt with ⟨_, t, c, rfl, cl, nt, et, kpm⟩ | ⟨nn, _⟩
              case inr => exact absurd now' nn
              have smz := sm.trans sz
              have etz := sz _ _ et
              have ec : c = due := sorted_same cl.so sd cl.nd (pm.nodup_iff.mpr hg.nd) fun z => by
                rw [cl.m, pm.mem_iff, hg.m]
                exact (r.hit u' z).symm
              subst ec
              have c12 : c.length ≤ 12 := by have := pm.length_eq; omega
              have shc : SeqAt.shaped (.list (tD c)) = true := shp_txts (n := 1000) fun z hz => (nameB_sht8 (r.w.nm z ((cl.m z).mp hz).1)).le (by decide)
              refine ⟨_, rfl, .ref t, .ty "list", .type "list", .type "list", true, rfl, .ty "list", .base (.lst etz), kit_ty (by decide +kernel), _, rfl, iteF ?_⟩
              refine ⟨_, rfl, _, rfl, .list (tD c), .list (tD c), .lst (.inl (.inl etz)) (dp_txts c), .lst (.inl (.inl (smz _ _ edm))) (dp_txts c), shc, shc, _, rfl, ?_⟩
              rw [eqv_list, decide_eq_true rfl]
              refine iteF ?_
              refine ⟨_, rfl, .inl ⟨rfl, _, .inl (.inl etz)⟩, t, _, _, rfl, rfl, etz, by rw [List.length_map]; exact sz8 (by omega), ?_⟩
              have st0 : ∀ o, Same Hm (upd Hz t o) := fun o => same_mut smz nt
              refine ⟨_, rfl, _, rfl, _, s, b', L, u', rfl, lsm.same (st0 _), stm.same (st0 _), by omega, by omega, by rw [r.el]; omega, by omega, r.on, by have := r.out12; omega, fun e he => by have := r.row12 he; omega, fun x hx => (r.ln _).mp (r.al x hx).2.1, fun z e h => so.bg z e ((r.ln z).mpr h), fun g Ht hgt off lst => ?_⟩
              exact ⟨_, _, tkL L u' g, aftW W u' c, rfl, off _ _ (st0 _ _ _ epm) ps, lst.mono fun b hb => avN_off (st0 _ _ _ esm) (st0 _ _ _ elm) hb, (kpm.same (st0 _)).away off (fun b hb => hb.1) sk.symm, off _ _ (st0 _ _ _ elm) sl.symm, rgo g c hgt cl now'⟩
            · refine ⟨_, rfl, ?_⟩
              refine iteB (fun h => absurd h (by decide)) (fun _ => ?_)
              have nn' : ¬ NoW (arcs W.prs) u'.pr (hurtW W u') := fun h => now ((r.now u').mp h)
              rcases alt with ⟨y, _⟩ | ⟨_, rfl, kpm⟩
              · exact absurd y nn'
              have smz := sm.trans sz
              refine ⟨_, rfl, rfl, _, rfl, ?_⟩
              refine iteB (fun h => absurd h (by decide)) (fun _ => ?_)
              exact ⟨_, _, L, W, rfl, smz _ _ epm, lsm.same smz, kpm.same smz, smz _ _ elm, rno nn'⟩
          · rintro σ H9 ⟨x7', x8', L', W', rfl, ep9, ls9, kp9, el9, r9⟩
            have p66 := r9.p66
            obtain ⟨hd9, ⟨dk9, ek9⟩, _⟩ := id kp9
            refine ⟨_, rfl, k, dk9, _, rfl, ek9, kpF_no (by decide +kernel) (by decide +kernel), _, k, W', 12, rfl, kp9, r9.w, by omega, fun La t H10 ao nt s10 pa => ?_⟩
            refine ⟨_, rfl, .ref t, .ty "list", .type "list", .type "list", true, rfl, .ty "list", .base (.lst pa.l), kit_ty (by decide +kernel), _, rfl, iteF ?_⟩
            refine ⟨_, rfl, _, rfl, _, s, L', rfl, ls9.same s10, r9.on, by have := r9.out12; omega, fun ns ps d H11 po nd s11 pa2 => ?_⟩
            have pa1 := pa.same s11
            have ew : ps.map (·.2) = La.map (·.2) := by
              rw [pairs_P po r9.on r9.pr]
              refine Asc.uniq (pairsP_asc (strictS po.so (po.pm.nodup_iff.mpr r9.on))) ao.so ao.nd fun z => ?_
              refine (pairsP_mem (fun p hp => ?_) z).trans (ao.m z).symm
              obtain ⟨x, y, e, hx, hy, _⟩ := r9.w.pk p hp
              exact ⟨x, y, e, po.pm.mem_iff.mpr ((r9.ln x).mp hx), po.pm.mem_iff.mpr ((r9.ln y).mp hy)⟩
            have shL : SeqAt.shaped (.list (tT (La.map (·.2)))) = true := shp_tT (n := 1000) fun g hg y hy => (r9.w.pq ((ao.m _).mp hg) hy).le (by decide)
            have lenL : La.length ≤ 66 := by
              have := (List.perm_ext_iff_of_nodup ao.nd r9.w.pn).mpr ao.m |>.length_eq
              rw [List.length_map] at this
              omega
            have dL : Dp K H11 (.ref t) (.list (tT (La.map (·.2)))) := .lst (.inl (.inl pa1.l)) (dp_tups fun u hu => (pa1.t u hu).2)
            have dP : Dp K H11 (.ref d) (.list (tT (ps.map (·.2)))) := .lst (.inl (.inl pa2.l)) (dp_tups fun u hu => (pa2.t u hu).2)
            refine ⟨_, _, dL, dP, shL, by rw [ew]; exact shL, _, rfl, ?_⟩
            rw [eqvT, ew, decide_eq_true rfl]
            refine iteF ?_
            refine ⟨_, rfl, .inl ⟨rfl, _, .inl (.inl pa1.l)⟩, by show 2 ≤ sizeLine; decide, fun q nq => ?_⟩
            have sf : ∀ o o', Same H9 (upd (upd H11 q o) t o') := fun o o' => same_mut ((s10.trans s11).trans (same_upd nq)) nt
            refine ⟨t, _, _, rfl, rfl, (upd_ne (ne_of_none pa1.l nq)).trans pa1.l, by rw [List.length_map]; exact sz8 (by omega), ?_⟩
            exact ⟨_, _, _, _, _, L', W', lf, rfl, sf _ _ _ _ ep9, ls9.same (sf _ _), kp9.same (sf _ _), sf _ _ _ _ el9, r9⟩
    · rintro σ Hx ⟨i, i41, x5, x6, x7, x8, x9, L, W, left, rfl, ep, ls, kp, el, r⟩
      have l12 := r.l12
      have u12 := r.us
      have le12 : W.ended.length ≤ W.line.length := nd_len W.ended W.line r.w.en r.w.el
      have p66 := r.p66
      have ac := r.ac
      rw [r.el] at ac
      refine ⟨_, rfl, _, s, L, rfl, ls, by omega, fun x hx => (nameB_sht8 (r.w.nm _ (r.al x hx).2.1)).le (by decide), fun ps d H1 bt nd s1 pa => ?_⟩
      have kp1 := kp.same s1
      obtain ⟨hd, ⟨dk, ek⟩, _⟩ := id kp1
      refine ⟨_, rfl, k, dk, _, rfl, ek, kpF_no (by decide +kernel) (by decide +kernel), _, k, W, 12, rfl, kp1, r.w, by omega, fun La l' H2 ao nl s2 pa2 => ?_⟩
      have mem : ∀ q, q ∈ ps.map (·.2) ↔ q ∈ La.map (·.2) := fun q => by
        rw [bt.m, ao.m]
        constructor
        · rintro ⟨x, y, rfl, h⟩
          exact (r.bt x y).mpr h
        · intro h
          obtain ⟨x, y, rfl, _⟩ := r.w.pk q h
          exact ⟨x, y, rfl, (r.bt x y).mp h⟩
      have len : ps.length = La.length := by
        have := ((List.perm_ext_iff_of_nodup bt.nd ao.nd).mpr mem).length_eq
        rwa [List.length_map, List.length_map] at this
      have pa3 := pa.same s2
      refine ⟨_, rfl, d, rfl, ⟨_, .inl (.inl pa3.l)⟩, ?_⟩
      refine for_list (xs := ps.map fun q => V.ref q.1) (fun j σ Hy => ∃ x10 : Option V, σ = [some (V.ref a), some (V.ref p), some (V.ref s), some (V.ref k), some (V.ref l), x5, x6, some (V.ref d), x8, some (V.ref l'), x10, none] ∧ Hy = H2)
        ⟨none, rfl, rfl⟩ (fun j σ Hy _ ⟨_, _, e⟩ => e ▸ .inl (.inl pa3.l)) ?_ ?_
      · rintro j v σ Hy hv ⟨x10, rfl, rfl⟩
        rw [List.getElem?_map] at hv
        obtain ⟨q', hq, rfl⟩ := Option.map_eq_some_iff.mp hv
        have qm := List.mem_of_getElem? hq
        have hm : q'.2 ∈ La.map (·.2) := (mem _).mp (List.mem_map.mpr ⟨q', qm, rfl⟩)
        refine ⟨_, rfl, _, rfl, PyData.tuple (tD q'.2), tT (La.map fun u : AL => u.2), .tup (pa3.t q' qm).2 (dp_txts q'.2), .lst (.inl (.inl pa2.l)) (dp_tups fun u hu => (pa2.t u hu).2), shp_tup (n := 1000) (fun y hy => (r.w.pq ((ao.m _).mp hm) hy).le (by decide)), shp_tT (n := 1000) (fun g hg y hy => (r.w.pq ((ao.m _).mp hg) hy).le (by decide)), _, rfl, ?_⟩
        rw [any_tT, decide_eq_true hm]
        exact iteF ⟨_, rfl, rfl⟩
      · rintro σ Hy ⟨x10, rfl, rfl⟩
        refine ⟨_, rfl, l', _, rfl, .inl (.inl (.inl pa2.l)), _, rfl, d, _, rfl, .inl (.inl (.inl pa3.l)), rfl, ?_⟩
        rw [List.length_map, List.length_map, len, decide_eq_true rfl]
        exact q _
end
end Kx

namespace Kx
open PySem PySem.Spec PyProof.Rows L2 NdefX Kr Ke Kn Kz Ky Kg StX
/-- a def of a class, as k_is finds it -/
structure Md (K : PySem.W.Frag) (C : Addr) (x qual : Str) (st : Stmt) (f : Addr) (fd : FuncData) : Prop where
  a : PySem.W.findIn K (.ref C) x = some (some (.ref f))
  i : PySem.W.isFn K (.ref f) = true
  F : Fun K x qual st f fd
theorem md_mk {K : PySem.W.Frag} {C : Addr} {x qual : Str} {st : Stmt} {f : Addr} {oc : Value} {od an : Option Addr} {osl : Array (Option Value)} {kV doc pm cdv ct : Value} (a : PySem.W.findIn K (.ref C) x = some (some (.ref f))) (i : PySem.W.isFn K (.ref f) = true)
    (l : K.lookup f = some ⟨oc, od, .func (PySem.W.fnOf x qual (defArgs st) (defBody st) (defScope st) .none kV doc pm an cdv ct), osl⟩)
    (c : PySem.W.codeIn K cdv qual = true) (k : PySem.W.keepIn K (.ref f) = true) : Md K C x qual st f (PySem.W.fnOf x qual (defArgs st) (defBody st) (defScope st) .none kV doc pm an cdv ct) := ⟨a, i, fun_mk l c k⟩
theorem cls_mk {K : PySem.W.Frag} {C : Addr} (h1 : PySem.W.plainGet K C Str.empty = true) (h2 : PySem.W.hasDictIn K C = true) (h3 : PySem.W.plainOver K C = true) (h4 : PySem.W.findIn K (.ref C) "__setattr__" = some (some (.builtin "object.__setattr__")))
    (h5 : PySem.W.findIn K (.ref C) "__class__" = some (some (.builtin "object.__class__"))) (h6 : PySem.W.specialIn K (.builtin "object.__class__") "__get__" = some (some (.builtin "getset_descriptor.__get__"))) (h7 : PySem.W.takesIn K (.builtin "object.__class__") = some true)
    (h8 : PySem.W.mroIn K C (.type "object") = some true) (h9 : PySem.W.kitOne K (.ref C) (.ref C) = some true) : C8.InsC K C := ⟨⟨h1, h2, h3, h4⟩, h5, h6, h7, h8, h9⟩
/-- the same, a keyword-only default behind it -/
structure MdD (K : PySem.W.Frag) (C : Addr) (x qual : Str) (st : Stmt) (kws : List (Str × V)) (f : Addr) (fd : FuncData) : Prop where
  a : PySem.W.findIn K (.ref C) x = some (some (.ref f))
  i : PySem.W.isFn K (.ref f) = true
  F : FunD K x qual (defArgs st) (defBody st) (defScope st) [] kws f fd
theorem mdD_mk {K : PySem.W.Frag} {C D : Addr} {x qual kx : Str} {kv : V} {ku : Value} {st : Stmt} {f : Addr} {oc : Value} {od an : Option Addr} {osl : Array (Option Value)} {doc pm cdv ct : Value} (a : PySem.W.findIn K (.ref C) x = some (some (.ref f))) (i : PySem.W.isFn K (.ref f) = true)
    (l : K.lookup f = some ⟨oc, od, .func (PySem.W.fnOf x qual (defArgs st) (defBody st) (defScope st) .none (.ref D) doc pm an cdv ct), osl⟩)
    (c : PySem.W.codeIn K cdv qual = true) (k : PySem.W.keepIn K (.ref f) = true) (e : PySem.W.nsIn K D kx = some (some ku)) (r : RelV kv ku) : MdD K C x qual st [(kx, kv)] f (PySem.W.fnOf x qual (defArgs st) (defBody st) (defScope st) .none (.ref D) doc pm an cdv ct) :=
  ⟨a, i, ⟨oc, od, .none, .ref D, doc, pm, an, cdv, ct, osl, rfl, l, c, .inl ⟨rfl, rfl⟩, .inr ⟨D, rfl, fun q hq => by rw [List.mem_singleton.mp hq]; exact ⟨ku, e, r⟩⟩⟩, k⟩
theorem all_mk {l : PySem.W.OpenLaw} {w : World} {K : PySem.W.Frag} {h : Heap} {mg : Str → Option Value} {fa CK C CS CT CN CR CF g0 g1 g2 g3 g4 f0 f1 f2 f3 f4 f5 f6 f7 f8 f9 f10 f11 f12 f13 f14 f15 f16 f17 f18 f19 f20 f21 h0 h1 h2 h3 h4 h5 h6 h7 h8 h9 h10 kh0  : Addr} {gd0 gd1 gd2 gd3 gd4 fd0 fd1 fd2 fd3 fd4 fd5 fd6 fd7 fd8 fd9 fd10 fd11 fd12 fd13 fd14 fd15 fd16 fd17 fd18 fd19 fd20 fd21 hd0 hd1 hd2 hd3 hd4 hd5 hd6 hd7 hd8 hd9 hd10 kd0  : FuncData} {u0 u1 u2 um : Value} (X : K.In h) (G : h.Ns mainGlobals mg) (hfa : mg "law" = some (.ref fa))
    (nCK : PySem.W.nsIn K mainGlobals "Keeper" = some (some (.ref CK)))
    (nC : PySem.W.nsIn K mainGlobals "Held" = some (some (.ref C)))
    (nCS : PySem.W.nsIn K mainGlobals "InvalidStep" = some (some (.ref CS)))
    (nCT : PySem.W.nsIn K mainGlobals "Taken" = some (some (.ref CT)))
    (nCN : PySem.W.nsIn K mainGlobals "NotRunning" = some (some (.ref CN)))
    (nCR : PySem.W.nsIn K mainGlobals "Ring" = some (some (.ref CR)))
    (nCF : PySem.W.nsIn K mainGlobals "Refused" = some (some (.ref CF)))
    (ei0 : Ei K l.prog CS "InvalidStep.__init__" s_isInit g0 gd0) (cl0 : ClsAt K CS) (bI0 : Binds K gd0 ["self", "step"] []) (x0 : fxB K CS ["step"] = true)
    (ei1 : Ei K l.prog CT "Taken.__init__" s_tkInit g1 gd1) (cl1 : ClsAt K CT) (bI1 : Binds K gd1 ["self", "program"] []) (x1 : fxB K CT ["program"] = true)
    (ei2 : Ei K l.prog CN "NotRunning.__init__" s_nrInit g2 gd2) (cl2 : ClsAt K CN) (bI2 : Binds K gd2 ["self", "program"] []) (x2 : fxB K CN ["program"] = true)
    (ei3 : Ei K l.prog CR "Ring.__init__" s_rgInit g3 gd3) (cl3 : ClsAt K CR) (bI3 : Binds K gd3 ["self", "programs"] []) (x3 : fxB K CR ["programs"] = true)
    (ei4 : Ei K l.prog CF "Refused.__init__" s_rfInit g4 gd4) (cl4 : ClsAt K CF) (bI4 : Binds K gd4 ["self", "step", "ring"] []) (x4 : fxB K CF ["step", "ring"] = true)
    (d0 : At K "law" s_law f0 fd0)
    (d1 : At K "_law_draws_of" s_draws_of f1 fd1)
    (d2 : At K "_law_nth" s_nth f2 fd2)
    (d3 : At K "_law_named" s_named f3 fd3)
    (d4 : At K "valid_name" s_valid_name f4 fd4)
    (d5 : At K "_is_name" s_iname f5 fd5)
    (d6 : At K "_are_different_names" s_dif f6 fd6)
    (d7 : At K "valid_step" s_valid_step f7 fd7)
    (d8 : At K "_onward" s_onward f8 fd8)
    (d9 : At K "shortest_path" s_shortest_path f9 fd9)
    (d10 : At K "_check_limit" s_cl f10 fd10)
    (d11 : At K "_within" s_wi f11 fd11)
    (d12 : At K "_law_empty" s_empty f12 fd12)
    (d13 : At K "_law_clashing" s_clashing f13 fd13)
    (d14 : At K "_law_reachable" s_reach f14 fd14)
    (d15 : At K "_law_allows" s_allows f15 fd15)
    (d16 : At K "_law_taken" s_taken f16 fd16)
    (d17 : At K "_law_next_step" s_next f17 fd17)
    (d18 : At K "_law_answer" s_answer f18 fd18)
    (d19 : At K "_law_again" s_again f19 fd19)
    (d20 : At K "_law_pairs" s_pairs f20 fd20)
    (d21 : At K "_law_by_times" s_byt f21 fd21)
    (y0 : ∀ (s : Shared) (v : Value), BindsTo s fd0 ⟨[v], []⟩ [("_law_script", v)])
    (y1 : Binds K fd1 ["_law_script"] [])
    (y2 : Binds K fd2 ["_law_pool", "_law_k"] [])
    (y3 : Binds K fd3 ["_law_k", "_law_style"] [])
    (y4 : Binds K fd4 ["text"] [])
    (y5 : Binds K fd5 ["part"] [])
    (y6 : Binds K fd6 ["part"] [])
    (y7 : Binds K fd7 ["step"] [])
    (y8 : Binds K fd8 ["arcs"] [])
    (y9 : Binds K fd9 ["arcs", "start", "goals"] [])
    (y10 : Binds K fd10 ["value"] [])
    (y11 : Binds K fd11 ["held", "limit"] [])
    (y12 : Binds K fd12 [] [])
    (y13 : Binds K fd13 ["_law_state", "_law_step"] [])
    (y14 : Binds K fd14 ["_law_out", "_law_start"] [])
    (y15 : Binds K fd15 ["_law_state", "_law_step"] [])
    (y16 : Binds K fd16 ["_law_state", "_law_step"] [])
    (y17 : Binds K fd17 ["_law_state", "_law_draw", "_law_head"] [])
    (y18 : Binds K fd18 ["_law_keeper", "_law_step"] [])
    (y19 : Binds K fd19 ["_law_step", "_law_left"] [])
    (y20 : Binds K fd20 ["_law_state"] [])
    (y21 : Binds K fd21 ["_law_state"] [])
    (m0 : Md K C "__init__" "Held.__init__" s_hInit h0 hd0) (mb0 : Binds K hd0 ["self", "line", "ended", "touches", "pairs"] [])
    (m1 : Md K C "_touched_any" "Held._touched_any" s_tany h1 hd1) (mb1 : Binds K hd1 ["self", "program", "things"] [])
    (m2 : Md K C "clashes" "Held.clashes" s_clashes h2 hd2) (mb2 : Binds K hd2 ["self", "step"] [])
    (m3 : Md K C "_drawn" "Held._drawn" s_drawn h3 hd3) (mb3 : Binds K hd3 ["self", "step"] [])
    (m4 : Md K C "_after_begin" "Held._after_begin" s_hbeg h4 hd4) (mb4 : Binds K hd4 ["self", "program"] [])
    (m5 : Md K C "_after_read" "Held._after_read" s_hread h5 hd5) (mb5 : Binds K hd5 ["self", "step"] [])
    (m6 : Md K C "_left" "Held._left" s_hleft h6 hd6) (mb6 : Binds K hd6 ["self", "gone", "pairs"] [])
    (m7 : Md K C "_after_close" "Held._after_close" s_hclose h7 hd7) (mb7 : Binds K hd7 ["self", "step"] [])
    (m8 : Md K C "after" "Held.after" s_hafter h8 hd8) (mb8 : Binds K hd8 ["self", "step"] [])
    (m9 : Md K CK "__call__" "Keeper.__call__" s_kcall h9 hd9) (mb9 : Binds K hd9 ["self", "step"] [])
    (m10 : Md K CK "arcs" "Keeper.arcs" s_karcs h10 hd10) (mb10 : Binds K hd10 ["self"] [])
    (km0 : MdD K CK "__init__" "Keeper.__init__" s_kpInit [("limit", .int 12)] kh0 kd0)
    (z0 : PySem.W.nsIn K mainGlobals "len" = some none)
    (z1 : PySem.W.nsIn K mainGlobals "abs" = some none)
    (z2 : PySem.W.nsIn K mainGlobals "int" = some none)
    (z3 : PySem.W.nsIn K mainGlobals "range" = some none)
    (z4 : PySem.W.nsIn K mainGlobals "isinstance" = some none)
    (z5 : PySem.W.nsIn K mainGlobals "str" = some none)
    (z6 : PySem.W.nsIn K mainGlobals "list" = some none)
    (z7 : PySem.W.nsIn K mainGlobals "all" = some none)
    (z8 : PySem.W.nsIn K mainGlobals "set" = some none)
    (z9 : PySem.W.nsIn K mainGlobals "sorted" = some none)
    (z10 : PySem.W.nsIn K mainGlobals "super" = some none)
    (z11 : PySem.W.nsIn K mainGlobals "ValueError" = some none)
    (z12 : PySem.W.nsIn K mainGlobals "tuple" = some none)
    (z13 : PySem.W.nsIn K mainGlobals "any" = some none)
    (z14 : PySem.W.nsIn K mainGlobals "dict" = some none)
    (c0 : PySem.W.nsIn K mainGlobals "LETTERS" = some (some u0)) (r0 : RelV (.str LET) u0)
    (c1 : PySem.W.nsIn K mainGlobals "DIGITS" = some (some u1)) (r1 : RelV (.str DIG) u1)
    (c2 : PySem.W.nsIn K mainGlobals "LONGEST_NAME" = some (some u2)) (r2 : RelV (.int 8) u2)
    (insC : C8.InsC K C) (mkC : PySem.W.makesIn K C = true) (kpC : PySem.W.keepIn K (.ref C) = true)
    (insCK : C8.InsC K CK) (mkCK : PySem.W.makesIn K CK = true) (kpCK : PySem.W.keepIn K (.ref CK) = true)
    (nC_line : PySem.W.findIn K (.ref C) "line" = some none)
    (nC_ended : PySem.W.findIn K (.ref C) "ended" = some none)
    (nC_touches : PySem.W.findIn K (.ref C) "touches" = some none)
    (nC_pairs : PySem.W.findIn K (.ref C) "pairs" = some none)
    (nCK__limit : PySem.W.findIn K (.ref CK) "_limit" = some none)
    (nCK__held : PySem.W.findIn K (.ref CK) "_held" = some none)
    (rd : PySem.W.readsIn K CK (.type "type") = true)
    (ga : PySem.W.specialIn K (.ref CK) "__getattribute__" = some (some (.builtin "type.__getattribute__")))
    (mo : PySem.W.findCls K (.ref CK) (.type "type") "MOST" = some (.val um))
    (mr : RelV (V.int 12) um)
    (opq : PySem.W.nsIn K cStatics "thirdparty.any" = some none)
    (hn : PySem.W.specialIn K (.builtin "object.__class__") "__get__" = some (some (.builtin "getset_descriptor.__get__")))
    (ht : PySem.W.takesIn K (.builtin "object.__class__") = some true)
    (eFF : PySem.W.exmOne K (.ref CF) (.ref CF) = some true)
    (fic : PySem.W.fnIn K h9 = true) :
    ∃ fd : FuncData, (∀ (s : Shared) (v : Value), BindsTo s fd ⟨[v], []⟩ [("_law_script", v)]) ∧ ∀ base : Heap, K.In base → base.Ns mainGlobals mg → FnOk l.prog w K mg base CX0 10 fa fd ["_law_script"] (spLaw K) := by
  have e := hfa.symm.trans (PySem.W.mg_of X G d0.a)
  cases e
  have fx0 := fx_of x0
  have S0 := fx0.supC cl0 opq
  have fx1 := fx_of x1
  have S1 := fx1.supC cl1 opq
  have fx2 := fx_of x2
  have S2 := fx2.supC cl2 opq
  have fx3 := fx_of x3
  have S3 := fx3.supC cl3 opq
  have fx4 := fx_of x4
  have S4 := fx4.supC cl4 opq
  have T : TxS mg := { m_len := (PySem.W.mg_none_of X G z0), m_abs := (PySem.W.mg_none_of X G z1), m_int := (PySem.W.mg_none_of X G z2), m_range := (PySem.W.mg_none_of X G z3), m_isinstance := (PySem.W.mg_none_of X G z4), m_str := (PySem.W.mg_none_of X G z5), m_list := (PySem.W.mg_none_of X G z6), m_all := (PySem.W.mg_none_of X G z7), m_set := (PySem.W.mg_none_of X G z8), m_sorted := (PySem.W.mg_none_of X G z9), m_tuple := (PySem.W.mg_none_of X G z12), c_LETTERS := gc_of X G c0 r0, c_DIGITS := gc_of X G c1 r1, c_LONGEST_NAME := gc_of X G c2 r2 }
  have TH : TxH K mg C := { T with insH := insC, nL := nC_line, nE := nC_ended, nT := nC_touches, nP := nC_pairs }
  have TK : TxKp K mg CK (.type "type") := { T with insK := insCK, nLi := nCK__limit, nHe := nCK__held, gK := (PySem.W.mg_of X G nCK), rd := ⟨rd, ga⟩, mo := ⟨um, mo, mr⟩ }
  obtain ⟨ia0, it0, cda0, cc0, kV0, doc0, pm0, ct0, an0, hfd0, hcd0, SF0⟩ := ei0
  obtain ⟨ia1, it1, cda1, cc1, kV1, doc1, pm1, ct1, an1, hfd1, hcd1, SF1⟩ := ei1
  obtain ⟨ia2, it2, cda2, cc2, kV2, doc2, pm2, ct2, an2, hfd2, hcd2, SF2⟩ := ei2
  obtain ⟨ia3, it3, cda3, cc3, kV3, doc3, pm3, ct3, an3, hfd3, hcd3, SF3⟩ := ei3
  obtain ⟨ia4, it4, cda4, cc4, kV4, doc4, pm4, ct4, an4, hfd4, hcd4, SF4⟩ := ei4
  obtain ⟨ds0, hv0, hb0⟩ := km0.F.binds0 (ps := ["self", "limit"]) 1 (by simp) rfl (fun D doc pm an cdv ct us ks h1 h2 => match us, h1, ks, h2 with | [_], _, [_], _ => ⟨_, _, _, _, _, _, rfl, rfl, rfl⟩)
  refine ⟨fd0, y0, fun base _ _ => ?_⟩
  have eS : ErC l.prog w K mg base "InvalidStep" CS ["self", "step"] (spErrD K CS "step") := ⟨⟨g0, gd0, ia0, it0, ok_isInit SF0 S0 (fx0.nf "step" (by decide +kernel)) (PySem.W.mg_none_of X G z10) hfd0 hcd0, bI0⟩, S0, (PySem.W.mg_of X G nCS)⟩
  have eT : ErC l.prog w K mg base "Taken" CT ["self", "program"] (spErr1 CT "program" 100000) := ⟨⟨g1, gd1, ia1, it1, ok_tkInit SF1 S1 (fx1.nf "program" (by decide +kernel)) (PySem.W.mg_none_of X G z10) hfd1 hcd1, bI1⟩, S1, (PySem.W.mg_of X G nCT)⟩
  have eN : ErC l.prog w K mg base "NotRunning" CN ["self", "program"] (spErr1 CN "program" 100000) := ⟨⟨g2, gd2, ia2, it2, ok_nrInit SF2 S2 (fx2.nf "program" (by decide +kernel)) (PySem.W.mg_none_of X G z10) hfd2 hcd2, bI2⟩, S2, (PySem.W.mg_of X G nCN)⟩
  have eR : MkE l.prog w K mg base "Ring" CR 1 ["self", "programs"] (cD K) g_Ring := ⟨⟨g3, gd3, ia3, it3, ok_rgInit SF3 S3 (fx3.nf "programs" (by decide +kernel)) (PySem.W.mg_none_of X G z10) hfd3 hcd3, bI3⟩, S3.oex, (PySem.W.mg_of X G nCR)⟩
  have eF : ErC l.prog w K mg base "Refused" CF ["self", "step", "ring"] (spErrD2 K CF "step" "ring") := ⟨⟨g4, gd4, ia4, it4, ok_rfInit SF4 S4 (fx4.nf "step" (by decide +kernel)) (fx4.nf "ring" (by decide +kernel)) (PySem.W.mg_none_of X G z10) hfd4 hcd4, bI4⟩, S4, (PySem.W.mg_of X G nCF)⟩
  have C1 : Cal l.prog w K mg base "_law_draws_of" 1 (spDraws K) := ⟨f1, fd1, _, ok_draws_of d1.F T.toTB, y1, PySem.W.mg_of X G d1.a, d1.F.kp⟩
  have C2 : Cal l.prog w K mg base "_law_nth" 1 (spNth K) := ⟨f2, fd2, _, ok_nth d2.F T.toTB, y2, PySem.W.mg_of X G d2.a, d2.F.kp⟩
  have C3 : Cal l.prog w K mg base "_law_named" 1 (spNamedG nameV) := ⟨f3, fd3, _, ok_named d3.F T, y3, PySem.W.mg_of X G d3.a, d3.F.kp⟩
  have V1 : Cal l.prog w K mg base "valid_name" 1 spName := ⟨f4, fd4, _, ok_valid_name d4.F T, y4, PySem.W.mg_of X G d4.a, d4.F.kp⟩
  have Cin : Cal l.prog w K mg base "_is_name" 2 (spPt K nmP) := ⟨f5, fd5, _, ok_iname d5.F T V1, y5, PySem.W.mg_of X G d5.a, d5.F.kp⟩
  have Cdi : Cal l.prog w K mg base "_are_different_names" 3 (spPt K difP) := ⟨f6, fd6, _, ok_dif d6.F T Cin, y6, PySem.W.mg_of X G d6.a, d6.F.kp⟩
  have Cvs : Cal l.prog w K mg base "valid_step" 4 (spStp K stepB) := ⟨f7, fd7, _, ok_valid_step d7.F T Cin Cdi, y7, PySem.W.mg_of X G d7.a, d7.F.kp⟩
  have Con : Cal l.prog w K mg base "_onward" 1 (spOnward K) := ⟨f8, fd8, _, ok_onward d8.F, y8, PySem.W.mg_of X G d8.a, d8.F.kp⟩
  have Csp : Cal l.prog w K mg base "shortest_path" 2 (spSP K) := ⟨f9, fd9, _, ok_shortest_path d9.F T Con, y9, PySem.W.mg_of X G d9.a, d9.F.kp⟩
  have Ccl : Cal l.prog w K mg base "_check_limit" 1 spCL := ⟨f10, fd10, _, ok_cl d10.F TK, y10, PySem.W.mg_of X G d10.a, d10.F.kp⟩
  have Cwi : Cal l.prog w K mg base "_within" 1 (spWi K C) := ⟨f11, fd11, _, ok_wi d11.F TH, y11, PySem.W.mg_of X G d11.a, d11.F.kp⟩
  have Hd : HdC l.prog w K mg base C 1 := ⟨⟨h0, hd0, ⟨mkC, m0.a, m0.i, kpC⟩, ok_hInit m0.F TH, mb0⟩, (PySem.W.mg_of X G nC)⟩
  have Mta : MtC (CX0) l.prog w K mg base C "_touched_any" 1 (spTAny K C) := ⟨⟨h1, hd1, _, ⟨m1.a, m1.i, m1.F.kp⟩, ok_tany m1.F TH (PySem.W.mg_none_of X G z13), mb1⟩⟩
  have Mc : MtC (CX0) l.prog w K mg base C "clashes" 2 (spClash K C) := ⟨⟨h2, hd2, _, ⟨m2.a, m2.i, m2.F.kp⟩, ok_clashes m2.F TH Mta, mb2⟩⟩
  have Md : MtC (L2.CX l.prog w) l.prog w K mg base C "_drawn" 4 (spDrawn K C CF) := ⟨⟨h3, hd3, _, ⟨m3.a, m3.i, m3.F.kp⟩, ok_drawn m3.F TH Mc Csp eF eR fx3.exC (PySem.W.mg_none_of X G z6), mb3⟩⟩
  have Mb : MtC (L2.CX l.prog w) l.prog w K mg base C "_after_begin" 3 (spHBeg K C CT) := ⟨⟨h4, hd4, _, ⟨m4.a, m4.i, m4.F.kp⟩, ok_hbeg m4.F TH Hd eT, mb4⟩⟩
  have Mr : MtC (L2.CX l.prog w) l.prog w K mg base C "_after_read" 5 (spHRead K C CF) := ⟨⟨h5, hd5, _, ⟨m5.a, m5.i, m5.F.kp⟩, ok_hread m5.F TH Hd Md, mb5⟩⟩
  have Ml : MtC (CX0) l.prog w K mg base C "_left" 3 (spHLeft K C) := ⟨⟨h6, hd6, _, ⟨m6.a, m6.i, m6.F.kp⟩, ok_hleft m6.F TH Hd (PySem.W.mg_none_of X G z14), mb6⟩⟩
  have Mcl : MtC (L2.CX l.prog w) l.prog w K mg base C "_after_close" 5 (spHClose K C CF) := ⟨⟨h7, hd7, _, ⟨m7.a, m7.i, m7.F.kp⟩, ok_hclose m7.F TH Hd (PySem.W.mg_none_of X G z14) Md, mb7⟩⟩
  have Ma : MtC (L2.CX l.prog w) l.prog w K mg base C "after" 6 (spHAfter K C CS CT CN CF) := ⟨⟨h8, hd8, _, ⟨m8.a, m8.i, m8.F.kp⟩, ok_hafter m8.F TH Cvs eS eN Mb Mr Mcl Ml, mb8⟩⟩
  have Kp : KpC l.prog w K mg base CK C 3 := ⟨⟨kh0, kd0, ds0, ⟨mkCK, km0.a, km0.i, kpCK⟩, ok_kpInit km0.F TK Hd Ccl, hv0, hb0⟩, (PySem.W.mg_of X G nCK)⟩
  have Mk : MtC (CX0) l.prog w K mg base CK "arcs" 1 (spKArcs K CK C) := ⟨⟨h10, hd10, _, ⟨m10.a, m10.i, m10.F.kp⟩, ok_karcs m10.F TK TH, mb10⟩⟩
  have Fc := ok_kcall (P := l.prog) (w := w) (base := base) (CS := CS) (CT := CT) (CN := CN) (CF := CF) m9.F TK TH Cwi Ma Mc
  have D1 : Cal l.prog w K mg base "_law_empty" 1 (spEmpty K) := ⟨f12, fd12, _, ok_empty d12.F, y12, PySem.W.mg_of X G d12.a, d12.F.kp⟩
  have D2 : Cal l.prog w K mg base "_law_clashing" 1 (spClashing K) := ⟨f13, fd13, _, ok_clashing d13.F, y13, PySem.W.mg_of X G d13.a, d13.F.kp⟩
  have D3 : Cal l.prog w K mg base "_law_reachable" 1 (spReach K) := ⟨f14, fd14, _, ok_reach d14.F T, y14, PySem.W.mg_of X G d14.a, d14.F.kp⟩
  have D4 : Cal l.prog w K mg base "_law_allows" 2 (spAllows K) := ⟨f15, fd15, _, ok_allows d15.F D3 D2, y15, PySem.W.mg_of X G d15.a, d15.F.kp⟩
  have D5 : Cal l.prog w K mg base "_law_taken" 2 (spTaken K) := ⟨f16, fd16, _, ok_taken d16.F D2, y16, PySem.W.mg_of X G d16.a, d16.F.kp⟩
  have D6 : Cal l.prog w K mg base "_law_next_step" 2 (spNext K nameV) := ⟨f17, fd17, _, ok_next d17.F T nmf_V C3, y17, PySem.W.mg_of X G d17.a, d17.F.kp⟩
  have D7 : Cal l.prog w K mg base "_law_answer" 8 (spAnsK K CK C) := ⟨f18, fd18, _, ok_answer d18.F (PySem.W.mg_of X G nCF) eFF ⟨m9.a, m9.i, fic⟩ Fc mb9, y18, PySem.W.mg_of X G d18.a, d18.F.kp⟩
  have D8 : Cal l.prog w K mg base "_law_again" 1 (spAgain K) := ⟨f19, fd19, _, ok_again d19.F, y19, PySem.W.mg_of X G d19.a, d19.F.kp⟩
  have D9 : Cal l.prog w K mg base "_law_pairs" 1 (spPairs K) := ⟨f20, fd20, _, ok_pairs d20.F T, y20, PySem.W.mg_of X G d20.a, d20.F.kp⟩
  have D10 : Cal l.prog w K mg base "_law_by_times" 1 (spByt K) := ⟨f21, fd21, _, ok_byt d21.F T, y21, PySem.W.mg_of X G d21.a, d21.F.kp⟩
  exact ok_law d0.F TK nmf_V Kp Mk C1 C2 D1 D6 D8 D2 D7 D4 D5 D9 D10
end Kx

open PySem PySem.W PyProof.Rows
set_option maxHeartbeats 0 in
theorem k18x : PySem.Challenge.rw_letforget_k18_clashes_and_arcs.Holds := by
  refine k18t ?_
  k_fill
  refine L2.walk_of (l := PySem.Challenge.rw_letforget_k18_clashes_and_arcs) (n := 63) (k := 10) (x := "_law_script") (CX := fun _ => L2.CX0) (sp := fun w => Kx.spLaw _) rfl (by decide) rfl ⟨rfl, by decide, by decide⟩ (fun w h Y => PySem.W.kIn_of Y) ?F (fun _ _ a ns hl _ hS => ⟨a, ns, rfl, hS, hl, fun _ => rfl⟩) (fun _ _ _ _ _ h => h)
  case F =>
    intro w mg fa h KX G hmg
    refine' Kx.all_mk (l := PySem.Challenge.rw_letforget_k18_clashes_and_arcs) KX G hmg ?nCK
      ?nC
      ?nCS
      ?nCT
      ?nCN
      ?nCR
      ?nCF
      (Kx.ei_mk ?ea0 ?et0 ?el0 ?ec0 ?elc0 ?evf0 ?eef0 ?ell0 rfl rfl rfl)
      (Kx.cls_at ?cl0 ?cb0)
      (.all fun us hl => match us, hl with | [_, _], _ => rfl)
      ?x0
      (Kx.ei_mk ?ea1 ?et1 ?el1 ?ec1 ?elc1 ?evf1 ?eef1 ?ell1 rfl rfl rfl)
      (Kx.cls_at ?cl1 ?cb1)
      (.all fun us hl => match us, hl with | [_, _], _ => rfl)
      ?x1
      (Kx.ei_mk ?ea2 ?et2 ?el2 ?ec2 ?elc2 ?evf2 ?eef2 ?ell2 rfl rfl rfl)
      (Kx.cls_at ?cl2 ?cb2)
      (.all fun us hl => match us, hl with | [_, _], _ => rfl)
      ?x2
      (Kx.ei_mk ?ea3 ?et3 ?el3 ?ec3 ?elc3 ?evf3 ?eef3 ?ell3 rfl rfl rfl)
      (Kx.cls_at ?cl3 ?cb3)
      (.all fun us hl => match us, hl with | [_, _], _ => rfl)
      ?x3
      (Kx.ei_mk ?ea4 ?et4 ?el4 ?ec4 ?elc4 ?evf4 ?eef4 ?ell4 rfl rfl rfl)
      (Kx.cls_at ?cl4 ?cb4)
      (.all fun us hl => match us, hl with | [_, _, _], _ => rfl)
      ?x4
      (Kx.at_mk ?a0 ?l0 ?e0 ?k0)
      (Kx.at_mk ?a1 ?l1 ?e1 ?k1)
      (Kx.at_mk ?a2 ?l2 ?e2 ?k2)
      (Kx.at_mk ?a3 ?l3 ?e3 ?k3)
      (Kx.at_mk ?a4 ?l4 ?e4 ?k4)
      (Kx.at_mk ?a5 ?l5 ?e5 ?k5)
      (Kx.at_mk ?a6 ?l6 ?e6 ?k6)
      (Kx.at_mk ?a7 ?l7 ?e7 ?k7)
      (Kx.at_mk ?a8 ?l8 ?e8 ?k8)
      (Kx.at_mk ?a9 ?l9 ?e9 ?k9)
      (Kx.at_mk ?a10 ?l10 ?e10 ?k10)
      (Kx.at_mk ?a11 ?l11 ?e11 ?k11)
      (Kx.at_mk ?a12 ?l12 ?e12 ?k12)
      (Kx.at_mk ?a13 ?l13 ?e13 ?k13)
      (Kx.at_mk ?a14 ?l14 ?e14 ?k14)
      (Kx.at_mk ?a15 ?l15 ?e15 ?k15)
      (Kx.at_mk ?a16 ?l16 ?e16 ?k16)
      (Kx.at_mk ?a17 ?l17 ?e17 ?k17)
      (Kx.at_mk ?a18 ?l18 ?e18 ?k18)
      (Kx.at_mk ?a19 ?l19 ?e19 ?k19)
      (Kx.at_mk ?a20 ?l20 ?e20 ?k20)
      (Kx.at_mk ?a21 ?l21 ?e21 ?k21)
      (fun s v => .of_eq rfl)
      (.all fun us hl => match us, hl with | [_], _ => rfl)
      (.all fun us hl => match us, hl with | [_, _], _ => rfl)
      (.all fun us hl => match us, hl with | [_, _], _ => rfl)
      (.all fun us hl => match us, hl with | [_], _ => rfl)
      (.all fun us hl => match us, hl with | [_], _ => rfl)
      (.all fun us hl => match us, hl with | [_], _ => rfl)
      (.all fun us hl => match us, hl with | [_], _ => rfl)
      (.all fun us hl => match us, hl with | [_], _ => rfl)
      (.all fun us hl => match us, hl with | [_, _, _], _ => rfl)
      (.all fun us hl => match us, hl with | [_], _ => rfl)
      (.all fun us hl => match us, hl with | [_, _], _ => rfl)
      (.all fun us hl => match us, hl with | [], _ => rfl)
      (.all fun us hl => match us, hl with | [_, _], _ => rfl)
      (.all fun us hl => match us, hl with | [_, _], _ => rfl)
      (.all fun us hl => match us, hl with | [_, _], _ => rfl)
      (.all fun us hl => match us, hl with | [_, _], _ => rfl)
      (.all fun us hl => match us, hl with | [_, _, _], _ => rfl)
      (.all fun us hl => match us, hl with | [_, _], _ => rfl)
      (.all fun us hl => match us, hl with | [_, _], _ => rfl)
      (.all fun us hl => match us, hl with | [_], _ => rfl)
      (.all fun us hl => match us, hl with | [_], _ => rfl)
      (Kx.md_mk ?ma0 ?mi0 ?ml0 ?me0 ?mk0)
      (.all fun us hl => match us, hl with | [_, _, _, _, _], _ => rfl)
      (Kx.md_mk ?ma1 ?mi1 ?ml1 ?me1 ?mk1)
      (.all fun us hl => match us, hl with | [_, _, _], _ => rfl)
      (Kx.md_mk ?ma2 ?mi2 ?ml2 ?me2 ?mk2)
      (.all fun us hl => match us, hl with | [_, _], _ => rfl)
      (Kx.md_mk ?ma3 ?mi3 ?ml3 ?me3 ?mk3)
      (.all fun us hl => match us, hl with | [_, _], _ => rfl)
      (Kx.md_mk ?ma4 ?mi4 ?ml4 ?me4 ?mk4)
      (.all fun us hl => match us, hl with | [_, _], _ => rfl)
      (Kx.md_mk ?ma5 ?mi5 ?ml5 ?me5 ?mk5)
      (.all fun us hl => match us, hl with | [_, _], _ => rfl)
      (Kx.md_mk ?ma6 ?mi6 ?ml6 ?me6 ?mk6)
      (.all fun us hl => match us, hl with | [_, _, _], _ => rfl)
      (Kx.md_mk ?ma7 ?mi7 ?ml7 ?me7 ?mk7)
      (.all fun us hl => match us, hl with | [_, _], _ => rfl)
      (Kx.md_mk ?ma8 ?mi8 ?ml8 ?me8 ?mk8)
      (.all fun us hl => match us, hl with | [_, _], _ => rfl)
      (Kx.md_mk ?ma9 ?mi9 ?ml9 ?me9 ?mk9)
      (.all fun us hl => match us, hl with | [_, _], _ => rfl)
      (Kx.md_mk ?ma10 ?mi10 ?ml10 ?me10 ?mk10)
      (.all fun us hl => match us, hl with | [_], _ => rfl)
      (Kx.mdD_mk ?kma0 ?kmi0 ?kml0 ?kme0 ?kmk0 ?kmn0 ?kmr0)
      ?z0
      ?z1
      ?z2
      ?z3
      ?z4
      ?z5
      ?z6
      ?z7
      ?z8
      ?z9
      ?z10
      ?z11
      ?z12
      ?z13
      ?z14
      ?c0
      ?r0
      ?c1
      ?r1
      ?c2
      ?r2
      (Kx.cls_mk ?ic1 ?ic2 ?ic3 ?ic4 ?ic5 ?ic6 ?ic7 ?ic8 ?ic9)
      ?mk_C
      ?kp_C
      (Kx.cls_mk ?jc1 ?jc2 ?jc3 ?jc4 ?jc5 ?jc6 ?jc7 ?jc8 ?jc9)
      ?mk_CK
      ?kp_CK
      ?F_nC_line
      ?F_nC_ended
      ?F_nC_touches
      ?F_nC_pairs
      ?F_nCK__limit
      ?F_nCK__held
      ?F_rd
      ?F_ga
      ?F_mo
      ?F_mr
      ?F_opq
      ?F_hn
      ?F_ht
      ?F_eFF
      ?F_fic
    (case nCK => k_is)
    (case nC => k_is)
    (case nCS => k_is)
    (case nCT => k_is)
    (case nCN => k_is)
    (case nCR => k_is)
    (case nCF => k_is)
    (case ea0 => k_is)
    (case et0 => k_is)
    (case el0 => k_is)
    (case ec0 => k_is)
    (case elc0 => k_is)
    (case evf0 => rfl)
    (case eef0 => first | rfl | decide +kernel)
    (case ell0 => k_is)
    (case cl0 => k_is)
    (case cb0 => first | rfl | decide +kernel)
    (case x0 => first | kernel_rfl | rfl)
    (case ea1 => k_is)
    (case et1 => k_is)
    (case el1 => k_is)
    (case ec1 => k_is)
    (case elc1 => k_is)
    (case evf1 => rfl)
    (case eef1 => first | rfl | decide +kernel)
    (case ell1 => k_is)
    (case cl1 => k_is)
    (case cb1 => first | rfl | decide +kernel)
    (case x1 => first | kernel_rfl | rfl)
    (case ea2 => k_is)
    (case et2 => k_is)
    (case el2 => k_is)
    (case ec2 => k_is)
    (case elc2 => k_is)
    (case evf2 => rfl)
    (case eef2 => first | rfl | decide +kernel)
    (case ell2 => k_is)
    (case cl2 => k_is)
    (case cb2 => first | rfl | decide +kernel)
    (case x2 => first | kernel_rfl | rfl)
    (case ea3 => k_is)
    (case et3 => k_is)
    (case el3 => k_is)
    (case ec3 => k_is)
    (case elc3 => k_is)
    (case evf3 => rfl)
    (case eef3 => first | rfl | decide +kernel)
    (case ell3 => k_is)
    (case cl3 => k_is)
    (case cb3 => first | rfl | decide +kernel)
    (case x3 => first | kernel_rfl | rfl)
    (case ea4 => k_is)
    (case et4 => k_is)
    (case el4 => k_is)
    (case ec4 => k_is)
    (case elc4 => k_is)
    (case evf4 => rfl)
    (case eef4 => first | rfl | decide +kernel)
    (case ell4 => k_is)
    (case cl4 => k_is)
    (case cb4 => first | rfl | decide +kernel)
    (case x4 => first | kernel_rfl | rfl)
    (case a0 => k_is)
    (case l0 => k_is)
    (case e0 => k_is)
    (case k0 => k_is)
    (case a1 => k_is)
    (case l1 => k_is)
    (case e1 => k_is)
    (case k1 => k_is)
    (case a2 => k_is)
    (case l2 => k_is)
    (case e2 => k_is)
    (case k2 => k_is)
    (case a3 => k_is)
    (case l3 => k_is)
    (case e3 => k_is)
    (case k3 => k_is)
    (case a4 => k_is)
    (case l4 => k_is)
    (case e4 => k_is)
    (case k4 => k_is)
    (case a5 => k_is)
    (case l5 => k_is)
    (case e5 => k_is)
    (case k5 => k_is)
    (case a6 => k_is)
    (case l6 => k_is)
    (case e6 => k_is)
    (case k6 => k_is)
    (case a7 => k_is)
    (case l7 => k_is)
    (case e7 => k_is)
    (case k7 => k_is)
    (case a8 => k_is)
    (case l8 => k_is)
    (case e8 => k_is)
    (case k8 => k_is)
    (case a9 => k_is)
    (case l9 => k_is)
    (case e9 => k_is)
    (case k9 => k_is)
    (case a10 => k_is)
    (case l10 => k_is)
    (case e10 => k_is)
    (case k10 => k_is)
    (case a11 => k_is)
    (case l11 => k_is)
    (case e11 => k_is)
    (case k11 => k_is)
    (case a12 => k_is)
    (case l12 => k_is)
    (case e12 => k_is)
    (case k12 => k_is)
    (case a13 => k_is)
    (case l13 => k_is)
    (case e13 => k_is)
    (case k13 => k_is)
    (case a14 => k_is)
    (case l14 => k_is)
    (case e14 => k_is)
    (case k14 => k_is)
    (case a15 => k_is)
    (case l15 => k_is)
    (case e15 => k_is)
    (case k15 => k_is)
    (case a16 => k_is)
    (case l16 => k_is)
    (case e16 => k_is)
    (case k16 => k_is)
    (case a17 => k_is)
    (case l17 => k_is)
    (case e17 => k_is)
    (case k17 => k_is)
    (case a18 => k_is)
    (case l18 => k_is)
    (case e18 => k_is)
    (case k18 => k_is)
    (case a19 => k_is)
    (case l19 => k_is)
    (case e19 => k_is)
    (case k19 => k_is)
    (case a20 => k_is)
    (case l20 => k_is)
    (case e20 => k_is)
    (case k20 => k_is)
    (case a21 => k_is)
    (case l21 => k_is)
    (case e21 => k_is)
    (case k21 => k_is)
    (case ma0 => k_is)
    (case mi0 => k_is)
    (case ml0 => k_is)
    (case me0 => k_is)
    (case mk0 => k_is)
    (case ma1 => k_is)
    (case mi1 => k_is)
    (case ml1 => k_is)
    (case me1 => k_is)
    (case mk1 => k_is)
    (case ma2 => k_is)
    (case mi2 => k_is)
    (case ml2 => k_is)
    (case me2 => k_is)
    (case mk2 => k_is)
    (case ma3 => k_is)
    (case mi3 => k_is)
    (case ml3 => k_is)
    (case me3 => k_is)
    (case mk3 => k_is)
    (case ma4 => k_is)
    (case mi4 => k_is)
    (case ml4 => k_is)
    (case me4 => k_is)
    (case mk4 => k_is)
    (case ma5 => k_is)
    (case mi5 => k_is)
    (case ml5 => k_is)
    (case me5 => k_is)
    (case mk5 => k_is)
    (case ma6 => k_is)
    (case mi6 => k_is)
    (case ml6 => k_is)
    (case me6 => k_is)
    (case mk6 => k_is)
    (case ma7 => k_is)
    (case mi7 => k_is)
    (case ml7 => k_is)
    (case me7 => k_is)
    (case mk7 => k_is)
    (case ma8 => k_is)
    (case mi8 => k_is)
    (case ml8 => k_is)
    (case me8 => k_is)
    (case mk8 => k_is)
    (case ma9 => k_is)
    (case mi9 => k_is)
    (case ml9 => k_is)
    (case me9 => k_is)
    (case mk9 => k_is)
    (case ma10 => k_is)
    (case mi10 => k_is)
    (case ml10 => k_is)
    (case me10 => k_is)
    (case mk10 => k_is)
    (case kma0 => k_is)
    (case kmi0 => k_is)
    (case kml0 => k_is)
    (case kme0 => k_is)
    (case kmk0 => k_is)
    (case kmn0 => k_is)
    (case kmr0 => exact ⟨_, rfl⟩)
    (case z0 => k_is)
    (case z1 => k_is)
    (case z2 => k_is)
    (case z3 => k_is)
    (case z4 => k_is)
    (case z5 => k_is)
    (case z6 => k_is)
    (case z7 => k_is)
    (case z8 => k_is)
    (case z9 => k_is)
    (case z10 => k_is)
    (case z11 => k_is)
    (case z12 => k_is)
    (case z13 => k_is)
    (case z14 => k_is)
    (case c0 => k_is)
    (case r0 => exact ⟨_, rfl⟩)
    (case c1 => k_is)
    (case r1 => exact ⟨_, rfl⟩)
    (case c2 => k_is)
    (case r2 => exact ⟨_, rfl⟩)
    (case ic1 => k_is)
    (case ic2 => k_is)
    (case ic3 => k_is)
    (case ic4 => k_is)
    (case ic5 => k_is)
    (case ic6 => k_is)
    (case ic7 => k_is)
    (case ic8 => k_is)
    (case ic9 => first | kernel_rfl | rfl)
    (case mk_C => k_is)
    (case kp_C => k_is)
    (case jc1 => k_is)
    (case jc2 => k_is)
    (case jc3 => k_is)
    (case jc4 => k_is)
    (case jc5 => k_is)
    (case jc6 => k_is)
    (case jc7 => k_is)
    (case jc8 => k_is)
    (case jc9 => first | kernel_rfl | rfl)
    (case mk_CK => k_is)
    (case kp_CK => k_is)
    (case F_nC_line => k_is)
    (case F_nC_ended => k_is)
    (case F_nC_touches => k_is)
    (case F_nC_pairs => k_is)
    (case F_nCK__limit => k_is)
    (case F_nCK__held => k_is)
    (case F_rd => k_is)
    (case F_ga => k_is)
    (case F_mo => k_is)
    (case F_mr => exact ⟨_, rfl⟩)
    (case F_opq => k_is)
    (case F_hn => k_is)
    (case F_ht => k_is)
    (case F_eFF => first | kernel_rfl | rfl)
    (case F_fic => k_is)
theorem PySem.Challenge.cw_letforget_k18_clashes_and_arcs_holds : PySem.Challenge.rw_letforget_k18_clashes_and_arcs.Holds := by
  exact k18x
