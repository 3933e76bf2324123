import PyProof.Rows.All
import Wide.All
import OpenK.AllK
import Wide.FinOn
import HandS.Base
import HandS.Call
import HandS.List
import HandS.Comp
import HandS.Ends
import HandS.Dict
import HandS.Iter
import HandS.Words
import HandS.WordsList
import HandS.WordsDict
import HandS.Exc
import HandS.TryOnly
import HandS.ExcOwn
import HandS.Lambda
import HandS.IsInst
import HandS.Wide
import PyProof.ReprRoads
import PyProof.ReprBulk
import PyProof.FitsInt
import HandS.Walk
import KE.GoesZip
import KE.GoesMore
import KE.GoesEnum
import HandS.Star
import HandS.TupAny
import HandS.TupMul
import KE.KEqDeep
import HandS.ExcIs
import HandS.ExcField
import HandS.ExcInit
import KE.KExcIs
import HandS.WordsExc
import HandS.ExcValue
import HandS.Gcd
import HandS.EndTab
import KE.KNest
import PySem.Challenge.RW_pointtally_k10_whole_adjoints_and_soluti
set_option Elab.async false
set_option linter.all false
set_option maxRecDepth 100000
set_option maxHeartbeats 4000000
set_option exponentiation.threshold 20000
/-! Promises that know that nothing is being shown around them (so that repr tells its whole text). -/
namespace Vk
open PySem PySem.Spec PyProof.Rows L2

/-- nothing is being shown -/
def Quiet (A : Around) : Prop := A.guards = some []
theorem Quiet.deeper {A : Around} (q : Quiet A) (env : Env) : Quiet (A.deeper env) := by
  unfold Quiet at q ⊢
  first
    | exact q
    | (show pushGuards _ A.guards = some []; rw [q]; rfl)
    | simpa [Around.deeper, Around.under, q] using q

/-- a def's promise where nothing is being shown -/
structure FnG (P : Program) (w : World) (K : PySem.W.Frag) (mg : Str → Option Value) (base : Heap) (k : Nat) (f : Addr) (fd : FuncData) (ps : List Str) (sp : Sp) : Prop where
  len : ∀ vs H Q E, sp vs H Q E → vs.length = ps.length
  run : ∀ (A : Around) (outer : List Env) (s : Shared) (H : Hp) (args : Args) (us : List Value) (vs : List V) (Q : VK) (E : XK),
    Quiet A → Room k A → Env0 P w K mg base A outer s H → BindsTo s fd args (ps.zip us) → Vals vs us → sp vs H Q E →
      codeAny (model P w) A (.call (.ref f) args) (CR CX0 outer P w H s Q E) s

section
variable {P : Program} {w : World} {K : PySem.W.Frag} {mg : Str → Option Value} {base : Heap}
/-- a body's end is the call's end -/
theorem endsG {N : List Str} {qual : Str} {scope : Scope} {f : Addr} {cdv : Value} {A : Around} {outer : List Env} {s s' : Shared} {H : Hp} {Q : VK} {E : XK} {fl : Flow}
    (h : SP (cxOf CX0 P w K mg base N qual scope f cdv A outer s H E) [] { nx := fun _ H' => Q .non H', rt := Q } fl s') :
    ∃ u, (match fl with | .ret v => v | _ => Value.none) = u ∧ CE outer P w H s Q u s' ∧ (fl = .next ∨ ∃ v, fl = .ret v) := by
  cases fl with
  | next =>
    obtain ⟨σ', H', J, q⟩ := h
    exact ⟨_, rfl, ⟨.non, H', J.os, J.bare, J.base, J.hok, rfl, q⟩, .inl rfl⟩
  | ret v =>
    obtain ⟨x, σ', H', J, rv, q⟩ := h
    exact ⟨_, rfl, ⟨x, H', J.os, J.bare, J.base, J.hok, rv, q⟩, .inr ⟨v, rfl⟩⟩
  | brk =>
    obtain ⟨_, _, _, q⟩ := h
    exact q.elim
  | cont =>
    obtain ⟨_, _, _, q⟩ := h
    exact q.elim
/-- a def, by its body: its code object is told -/
theorem fnG_of {x qual : Str} {st : Stmt} {f : Addr} {N ps : List Str} {k : Nat} {sp : Sp} {oc kV doc pm cdv ct : Value} {od an : Option Addr} {osl : Array (Option Value)}
    (lk : K.lookup f = some ⟨oc, od, .func (PySem.W.fnOf x qual (defArgs st) (defBody st) (defScope st) .none kV doc pm an cdv ct), osl⟩) (hcd : PySem.W.codeIn K cdv qual = true) (S : FnScope N ps (defScope st))
    (len : ∀ vs H Q E, sp vs H Q E → vs.length = ps.length)
    (hbody : ∀ (A : Around) (outer : List Env) (s : Shared) (H : Hp) (vs : List V) (Q : VK) (E : XK),
      Quiet A → Room k (A.deeper (envOfC qual (defScope st) s.heap.objs.size f cdv)) → sp vs H Q E →
        ∃ t, PSs (cxOf CX0 P w K mg base N qual (defScope st) f cdv A outer s H E).nox (defBody st) t ∧ t { nx := fun _ H' => Q .non H', rt := Q } (start N vs) H) :
    FnG P w K mg base (k + 1) f (PySem.W.fnOf x qual (defArgs st) (defBody st) (defScope st) .none kV doc pm an cdv ct) ps sp := by
  refine ⟨len, fun A outer s H args us vs Q E hG hr e0 hb r hsp => ?_⟩
  have inK : K.In s.heap := e0.mod.kin.keeps fun b o e => (e0.bs b o e).left
  have noL : s.heap.NoLimit := e0.mod.nolimit.keeps fun b o e => (e0.bs b o e).left
  have hpar : ∀ y ∈ ps.zip us, (defScope st).names.lookup y.1 = some .local ∨
      ((defScope st).names.lookup y.1 = some .cell ∧ ((cellsFrom (s.heap.objs.size + 1) (defScope st).names []).lookup y.1).isSome = true) := by
    rintro ⟨n, v⟩ hy
    cases S.par n (List.of_mem_zip hy).left with
    | inl q => exact .inl q
    | inr q => exact .inr ⟨q, PySem.W.cellsFrom_some _ _ _ (.inl q)⟩
  have bnd := hb
  refine codeAny_call_function hr.depth (inK _ _ lk) rfl S.co S.gen rfl
    (PySem.W.codeRec_of inK hcd) (bnd _ _ _ _ ?_)
  refine wpAny_newFunctionEnv_cells S.kind hpar
    fun env he s1 x => ?_
  subst he
  refine ⟨noL.keeps x.toInCall.keep,
    codeAny_func ?_⟩
  obtain ⟨t, ht, hq⟩ := hbody A outer s H vs Q E hG (hr.deeper _) hsp
  have J := inv_start (CX := CX0) (P := P) (w := w) (K := K) (mg := mg) (base := base) (qual := qual) (f := f) (cd := cdv) (E := E) S hr.hd e0 (len _ _ _ _ hsp) r x
  refine wpAny_mono (ht.nox.run [] s1 _ H _ J hq) (fun fl s' hs => ?_)
    (fun e s' hs => hs)
  obtain ⟨u, hu, hce, hfl⟩ := endsG hs
  rcases hfl with rfl | ⟨v, rfl⟩
  · obtain rfl := hu
    exact hce
  · obtain rfl := hu
    exact hce
/-- a def of the text, by its body -/
theorem okG {x qual : Str} {st : Stmt} {f : Addr} {fd : FuncData} {N ps : List Str} {k : Nat} {sp : Sp} (F : Fun K x qual st f fd) (S : FnScope N ps (defScope st))
    (len : ∀ vs H Q E, sp vs H Q E → vs.length = ps.length)
    (hbody : ∀ (cdv : Value) (A : Around) (outer : List Env) (s : Shared) (H : Hp) (vs : List V) (Q : VK) (E : XK),
      Quiet A → Room k (A.deeper (envOfC qual (defScope st) s.heap.objs.size f cdv)) → sp vs H Q E →
        ∃ t, PSs (cxOf CX0 P w K mg base N qual (defScope st) f cdv A outer s H E).nox (defBody st) t ∧ t { nx := fun _ H' => Q .non H', rt := Q } (start N vs) H) :
    FnG P w K mg base (k + 1) f fd ps sp := by
  obtain ⟨oc, od, kV, doc, pm, an, cdv, ct, osl, rfl, lk, hcd⟩ := F.ex
  exact fnG_of lk hcd S len fun A outer s H vs Q E => hbody cdv A outer s H vs Q E
end

section
variable {X : Cx} {k : Nat} {f : Addr} {fd : FuncData} {ps : List Str} {sp : Sp} {E : XK} {x : Str} {p pos : Pos} {e : Expr} {es : List Expr} {t : TA}
/-- a call of such a def -/
theorem pe_callG (hG : Quiet X.A) (F : FnG X.prog X.w X.K X.mg X.base k f fd ps sp) (hr : Room k X.A) (hg : Gl X x) (hm : X.mg x = some (.ref f)) (hk : PySem.W.keepIn X.K (.ref f) = true) (hb : Binds X.K fd ps [])
    (ha : PA X (e :: es) t) (hdb : (x == ("__debug__" : Str)) = false := by decide) (he : starEach (e :: es) X.env = (false, eval e X.env) :: starEach es X.env := by rfl)
    (hpl : (backTo pos (starEach es X.env)).any (·.1) = false := by rfl) :
    PE X (.Call (.Name x p) (e :: es) [] pos) (fun σ H Q => t σ H fun vs H1 => sp vs H1 Q E) := by
  refine ⟨fun pins s σ H Q I h => wpAny_Call_Name_kw (ld_glob I hg hm ?_ hdb)⟩
  refine PySem.W.callWith_K (h₀ := X.base) I.ok.mod.kin hk (thn (ha.run pos pins s σ H _ I h) ?_) he hpl
  rintro us s1 ⟨vs, H1, I1, r, q⟩
  refine ⟨I1.kIn, ?_⟩
  have hl : us.length = ps.length := r.length.symm.trans (F.len _ _ _ _ q)
  have hbt := hb s1 us I1.kIn (by rw [List.append_nil]; exact hl)
  rw [List.append_nil] at hbt
  refine wpAny_call (codeAny_mono (F.run X.A X.stack s1 H1 ⟨us, []⟩ us vs Q E hG hr I1.env0 hbt r q) ?_)
  intro r2 s2 hq
  match r2, hq with
  | .error e, hq => exact False.elim hq
  | .ok (.ret u), hq => exact I1.after hq
end

/-! ### repr -/
/-- the text of a value's data -/
def rRep (K : PySem.W.Frag) : List V → Hp → VK → Prop := fun xs H Q => ∃ x d, xs = [x] ∧ Dp K H x d ∧ d.showable = true ∧ d.hasDict = false ∧ d.depth ≤ 60 ∧ d.shown.length ≤ sizeLine ∧ Q (.str d.shown) H
theorem call_rep {X : Cx} (hG : Quiet X.A) (hu : X.A.units + 64 < cLine) : CallR X (.builtin "repr") (rRep X.K) := by
  intro pins s σ H xs us Q I r h
  obtain ⟨x, d, rfl, hD, hs, hd, hdep, hz, q⟩ := h
  obtain ⟨u, rfl, ru⟩ := vals1 r
  obtain ⟨as, hr⟩ := Dp.reads I d x u hD ru
  cases hD with
  | non =>
    cases ru
    exact PySem.P.repr_of_none ⟨.str _, H, I.tok _, ⟨_, rfl⟩, by simpa only [PyData.shown] using q⟩
  | bl b =>
    cases ru
    exact PySem.P.repr_of_bool ⟨.str _, H, I.tok _, ⟨_, rfl⟩, by simpa only [PyData.shown] using q⟩
  | int i =>
    obtain ⟨t, rfl⟩ := ru
    exact PySem.P.repr_of_int (by simpa [PyData.showable] using hs) ⟨.str _, H, I.tok _, ⟨_, rfl⟩, by simpa only [PyData.shown] using q⟩
  | str z =>
    obtain ⟨t, rfl⟩ := ru
    exact PySem.P.repr_of_str ⟨.str _, H, I.tok _, ⟨_, rfl⟩, by simpa only [PyData.shown] using q⟩ (by simpa only [PyData.shown] using hz)
  | lst h1 h2 =>
    cases ru
    exact repr_of_reads' hr hs (PyData.noDict_hsm hd) hG (by omega) (fun _ _ e => e) (fun h' u tk hk => ⟨.str _, H, I.kept hk, ⟨_, rfl⟩, q⟩) hz
  | tup h1 h2 =>
    cases ru
    exact repr_of_reads' hr hs (PyData.noDict_hsm hd) hG (by omega) (fun _ _ e => e) (fun h' u tk hk => ⟨.str _, H, I.kept hk, ⟨_, rfl⟩, q⟩) hz
end Vk

namespace Vk
open PySem PySem.Spec PyProof.Rows L2
/-! ### defs by their names -/
/-- the def of this name keeps the promise -/
def Cal (P : Program) (w : World) (K : PySem.W.Frag) (mg : Str → Option Value) (base : Heap) (k : Nat) (x : Str) (ps : List Str) (sp : Sp) : Prop :=
  ∃ f fd, FnOk P w K mg base CX0 k f fd ps sp ∧ mg x = some (.ref f) ∧ PySem.W.keepIn K (.ref f) = true ∧ Binds K fd ps []
def CalG (P : Program) (w : World) (K : PySem.W.Frag) (mg : Str → Option Value) (base : Heap) (k : Nat) (x : Str) (ps : List Str) (sp : Sp) : Prop :=
  ∃ f fd, FnG P w K mg base k f fd ps sp ∧ mg x = some (.ref f) ∧ PySem.W.keepIn K (.ref f) = true ∧ Binds K fd ps []
/-- the reading of a call -/
def tCal (sp : Sp) (t : TA) : TE := fun σ H Q => t σ H fun vs H1 => sp vs H1 Q E0
section
variable {X : Cx} {k : Nat} {ps : List Str} {sp : Sp} {x : Str} {p pos : Pos} {e : Expr} {es : List Expr} {t : TA}
theorem call_ (C : Cal X.prog X.w X.K X.mg X.base k x ps sp) (hr : Room k X.A) (hg : Gl X x) (ha : PA X (e :: es) t) (hdb : (x == ("__debug__" : Str)) = false := by decide)
    (he : starEach (e :: es) X.env = (false, eval e X.env) :: starEach es X.env := by rfl) (hpl : (backTo pos (starEach es X.env)).any (·.1) = false := by rfl) :
    PE X (.Call (.Name x p) (e :: es) [] pos) (tCal sp t) := by
  obtain ⟨f, fd, F, hm, hk, hb⟩ := C
  refine ⟨fun pins s σ H Q I h => ?_⟩
  refine (pe_call F hr hg hm hk hb .nil pass0 ha hdb he hpl).run pins s σ H Q I ?_
  show t σ H fun vs H1 => sp (vs ++ []) H1 Q E0
  have e0 : (fun vs H1 => sp (vs ++ []) H1 Q E0) = fun vs H1 => sp vs H1 Q E0 := by
    funext vs H1
    rw [List.append_nil]
  rw [e0]
  exact h
theorem callG (hG : Quiet X.A) (C : CalG X.prog X.w X.K X.mg X.base k x ps sp) (hr : Room k X.A) (hg : Gl X x) (ha : PA X (e :: es) t) (hdb : (x == ("__debug__" : Str)) = false := by decide)
    (he : starEach (e :: es) X.env = (false, eval e X.env) :: starEach es X.env := by rfl) (hpl : (backTo pos (starEach es X.env)).any (·.1) = false := by rfl) :
    PE X (.Call (.Name x p) (e :: es) [] pos) (tCal sp t) := by
  obtain ⟨f, fd, F, hm, hk, hb⟩ := C
  exact ⟨fun pins s σ H Q I h => (pe_callG hG F hr hg hm hk hb ha hdb he hpl).run pins s σ H Q I h⟩
end
/-! ### ints of any size -/
def CDivX (_ j : Int) : Prop := j ≠ 0 ∧ j.natAbs.log2 < 9000
theorem op_fdivX {X : Cx} : OpR X (binaryOp .FloorDiv) (rI CDivX fun i j => .int (i.fdiv j)) :=
  opI fun _ _ _ _ _ _ _ hc q => floordiv_int hc.1 q (.inl (PyProof.noPylong_of_log2 hc.2))
/-! ### heaps -/
/-- all but what stands at m stays -/
def SameBut (m : Addr) (H H' : Hp) : Prop := ∀ b o, b ≠ m → H b = some o → H' b = some o
theorem SameBut.refl (m : Addr) (H : Hp) : SameBut m H H := fun _ _ _ h => h
theorem SameBut.trans {m : Addr} {H H1 H2 : Hp} (a : SameBut m H H1) (b : SameBut m H1 H2) : SameBut m H H2 := fun c o n h => b c o n (a c o n h)
theorem SameBut.of {m : Addr} {H H1 : Hp} (a : Same H H1) : SameBut m H H1 := fun c o _ h => a c o h
theorem same_new {H : Hp} {p : Addr} {o : HO} (h : H p = none) : Same H (upd H p o) := fun b x e => by
  rw [upd_ne (ne_of_none e h)]
  exact e
theorem but_put {H : Hp} {m : Addr} {o : HO} : SameBut m H (upd H m o) := fun b x n e => by
  rw [upd_ne n]
  exact e
end Vk

namespace Vk
open PySem PySem.Spec PyProof.Rows L2
theorem same_put {H H1 : Hp} {q : Addr} {o : HO} (s : Same H H1) (hq : H q = none) : Same H (upd H1 q o) := fun b x e => by
  rw [upd_ne (ne_of_none e hq)]
  exact s b x e
theorem cut_ints (ns : List Int) (a b : Option Int) : ∃ l : List Int, cutV (ns.map V.int) a b = l.map V.int ∧ l.length ≤ ns.length := by
  refine ⟨(ns.drop (HT.sIx (ns.map V.int).length 0 a)).take (HT.sIx (ns.map V.int).length (ns.map V.int).length b - HT.sIx (ns.map V.int).length 0 a), ?_, ?_⟩
  · unfold cutV
    rw [← List.map_drop, ← List.map_take]
  · rw [List.length_take, List.length_drop]
    omega
/-- a list of ints as data -/
theorem dp_ints {K : PySem.W.Frag} {H : Hp} : ∀ ns : List Int, DpAll K H (ns.map V.int) (ns.map PyData.int)
  | [] => .nil
  | n :: r => .cons (.int n) (dp_ints r)
theorem lay_ints : ∀ ns : List Int, PyData.canLayAll0 (ns.map PyData.int) = true ∧ PyData.depthAll (ns.map PyData.int) = 0
  | [] => ⟨by simp [PyData.canLayAll0], by simp [PyData.depthAll]⟩
  | n :: r => by
    obtain ⟨h1, h2⟩ := lay_ints r
    exact ⟨by simp [PyData.canLayAll0, PyData.canLay0, h1], by simp [PyData.depthAll, PyData.depth, h2]⟩
theorem shaped_ints (ns : List Int) : SeqAt.shaped (.list (ns.map PyData.int)) = true := by
  obtain ⟨h1, h2⟩ := lay_ints ns
  simp [SeqAt.shaped, PyData.canLay0, PyData.depth, h1, h2]
end Vk

namespace Vk
open PySem PySem.Spec PyProof.Rows L2
/-- both ways of a conditional expression lead to what follows -/
theorem tif_both {c : Bool} {ta tb : TE} {σ : L2.St} {H : Hp} {Q : VK} (Good : V → Prop) (hQ : ∀ v, Good v → Q v H) (ha : c = true → (∀ v, Good v → Q v H) → ta σ H Q) (hb : c = false → (∀ v, Good v → Q v H) → tb σ H Q) :
    if c = true then ta σ H Q else tb σ H Q := by
  cases c with
  | true => exact iteT (ha rfl hQ)
  | false => exact iteF (hb rfl hQ)
end Vk
/-! The end of a law row for a promise of the quiet kind. -/
namespace Vk
open PySem PySem.Spec PyProof.Rows L2

section
variable {P : Program} {w : World} {K : PySem.W.Frag} {mg mb : Str → Option Value} {k : Nat} {fa a : Addr} {fd : FuncData} {x : Str} {sp : Sp} {s₁ : Shared} {vs : List Value} {ns : List Int}
/-- from one abstract heap that holds -/
theorem law_coreG (H : Hp) (KX : K.In s₁.heap) (hns : s₁.heap.Ns mainGlobals mg) (hb : s₁.heap.Ns builtinsNs mb) (hbb : ∀ x : Str, x ≠ "__name__" → mb x = bootBuiltins x) (hlim : s₁.heap.NoLimit) (hg : s₁.gens = #[])
    (ha : s₁.heap.get? a = some { cls := .type "list", data := .seq vs.toArray }) (hr : Room k callerA)
    (F : ∀ base : Heap, K.In base → base.Ns mainGlobals mg → FnG P w K mg base k fa fd [x] sp) (hbind : ∀ (s : Shared) (u : Value), BindsTo s fd ⟨[u], []⟩ [(x, u)])
    (hO : Only H) (hsp : sp [.ref a] H (fun v _ => v = .bl true) fun _ _ _ => False) (hok : HOk P w H s₁.heap) (hA : ∀ b u, H b = some u → b = a) (hK : ∀ u, H a = some u → K.lookup a = none) :
    codeAny (model P w) callerA (.call (.ref fa) ⟨[.ref a], []⟩) (fun r s' => r = .ok (.ret (.bool true)) ∧ OldK s₁.heap s'.heap ∧ s'.os = s₁.os ∧ AllBare s'.gens) s₁ := by
  have free : ∀ {b : Addr} {o : Obj}, s₁.heap.get? b = some o → (∀ n, o.data ≠ .seq vs.toArray n) → H b = none := fun {b o} e d => by
    cases q : H b with
    | none => rfl
    | some u =>
      obtain rfl := hA b u q
      rw [ha] at e
      exact absurd rfl (by have := Option.some.inj e; subst this; exact d _)
  have nsK : ∀ {b : Addr} {m : Str → Option Value}, s₁.heap.Ns b m → (hidT s₁.heap H).Ns b m := by
    rintro b m ⟨o, es, ep, e, d, r⟩
    exact ⟨o, es, ep, hidT_get e (free e fun n z => by rw [d] at z; cases z), d, r⟩
  have inB : K.In (hidT s₁.heap H) := fun b o e => by
    refine hidT_get (KX b o e) ?_
    cases q : H b with
    | none => rfl
    | some u =>
      obtain rfl := hA b u q
      rw [hK u q] at e
      cases e
  have lim : (hidT s₁.heap H).NoLimit := by
    obtain ⟨mc, h1, h2⟩ := hlim
    exact ⟨mc, nsK h1, h2⟩
  have M : Mod K mg (hidT s₁.heap H) := { kin := inB, glob := nsK hns, blt := ⟨mb, nsK hb, hbb⟩, nolimit := lim }
  have E : Env0 P w K mg (hidT s₁.heap H) callerA [] s₁ H := by
    refine { frames := rfl, mod := M, bs := fun b o e => of_hidT e, bsz := Nat.le_of_eq (hidT_size _ _), funs := trivial, frf := ?_, hok := hok, bare := .of_eq hg }
    intro b z
    cases (show b ∈ ([] : List Addr) from z)
  have R := (F _ inB (nsK hns)).run callerA [] s₁ H ⟨[.ref a], []⟩ [.ref a] [.ref a] _ _ rfl hr E (hbind s₁ (.ref a)) (.cons rfl .nil) hsp
  refine codeAny_mono R ?_
  intro r s' h
  match r, h with
  | .error e, h => exact False.elim h
  | .ok (.ret u), ⟨v, H', os, bare, un, hok', rv, q⟩ =>
    obtain rfl : v = .bl true := q
    obtain rfl : u = Value.bool true := rv
    refine ⟨rfl, OldK.of_keep fun b o e => ?_, os, bare⟩
    rcases hO b with z | ⟨ob, xs, z⟩
    · refine un.keep b o e z (fun m => ?_) (fun m => ?_)
      · cases (show b ∈ ([] : List Addr) from m)
      · cases m
    · have p1 := (hok b _ z).1
      have p2 := (hok' b _ (un.frzs b ob _ z)).1
      exact p2.trans (p1.symm.trans e)
/-- the law's promise, at the heap behind the top -/
theorem law_callG (KX : K.In s₁.heap) (hns : s₁.heap.Ns mainGlobals mg) (hb : s₁.heap.Ns builtinsNs mb) (hbb : ∀ x : Str, x ≠ "__name__" → mb x = bootBuiltins x) (hlim : s₁.heap.NoLimit) (hg : s₁.gens = #[])
    (ha : s₁.heap.get? a = some { cls := .type "list", data := .seq vs.toArray }) (hi : IntsAre vs ns) (hl : ns.length ≤ sizeLine) (hr : Room k callerA)
    (F : ∀ base : Heap, K.In base → base.Ns mainGlobals mg → FnG P w K mg base k fa fd [x] sp) (hbind : ∀ (s : Shared) (u : Value), BindsTo s fd ⟨[u], []⟩ [(x, u)])
    (hsp : ∀ H : Hp, Only H → SqL K H a (ns.map V.int) → sp [.ref a] H (fun v _ => v = .bl true) fun _ _ _ => False) :
    codeAny (model P w) callerA (.call (.ref fa) ⟨[.ref a], []⟩) (fun r s' => r = .ok (.ret (.bool true)) ∧ OldK s₁.heap s'.heap ∧ s'.os = s₁.os ∧ AllBare s'.gens) s₁ := by
  have rv := vals_ints hi
  cases hk : K.lookup a with
  | some o =>
    have e := (KX a o hk).symm.trans ha
    obtain rfl := Option.some.inj e
    have hO : Only (fun _ => none) := fun _ => .inl rfl
    refine law_coreG (fun _ => none) KX hns hb hbb hlim hg ha hr F hbind hO (hsp _ hO (.inr ⟨_, vs.toArray, _, hk, rfl, rfl, rfl, ?_, ?_⟩)) ?_ ?_ ?_
    · rw [List.size_toArray, hi.length]
      exact hl
    · simpa using rv
    · intro b u z
      cases (show (none : Option HO) = some u from z)
    · intro b u z
      cases (show (none : Option HO) = some u from z)
    · intro u z
      cases (show (none : Option HO) = some u from z)
  | none =>
    let fz : HO := .frz { cls := .type "list", data := .seq vs.toArray } (.lst (ns.map V.int))
    have only : ∀ b u, upd (fun _ => none) a fz b = some u → b = a ∧ u = fz := fun b u z => by
      by_cases e : b = a
      · subst e
        rw [upd_same] at z
        exact ⟨rfl, (Option.some.inj z).symm⟩
      · rw [upd_ne e] at z
        cases z
    have hO : Only (upd (fun _ => none) a fz) := fun b => by
      cases q : upd (fun _ => none) a fz b with
      | none => exact .inl rfl
      | some u =>
        obtain ⟨_, rfl⟩ := only b u q
        exact .inr ⟨_, _, rfl⟩
    refine law_coreG _ KX hns hb hbb hlim hg ha hr F hbind hO (hsp _ hO (.inl (.inr ⟨_, upd_same⟩))) ?_ (fun b u z => (only b u z).1) (fun _ _ => hk)
    intro b u z
    obtain ⟨rfl, rfl⟩ := only b u z
    refine ⟨ha, ?_, vs, _, rv, ha⟩
    rw [List.length_map]
    exact hl
end

/-- the end of the row -/
theorem walk_ofG {l : PySem.W.OpenLaw} {n k : Nat} {q : Program} {loose : List Str} {XP : (Str → Option Value) → Heap → Prop} {YP : World → Heap → Prop} {d : DefRec} {K : Params → PySem.W.Frag} {sp : PySem.W.Frag → Sp} {x : Str}
    (hn : l.most = some n) (hn2 : n ≤ sizeLine) (hdf : d.params.defaults = []) (hr : Room k callerA)
    (hY : ∀ (w : World) (h : Heap), YP w h → (K w.params).In h)
    (F : ∀ (w : World) (mg : Str → Option Value) (fa : Addr) (h : Heap), (K w.params).In h → h.Ns mainGlobals mg → mg d.name = some (.ref fa) →
      ∃ fd : FuncData, (∀ (s : Shared) (u : Value), BindsTo s fd ⟨[u], []⟩ [(x, u)]) ∧
        ∀ base : Heap, (K w.params).In base → base.Ns mainGlobals mg → FnG l.prog w (K w.params) mg base k fa fd [x] (sp (K w.params)))
    (hsp : ∀ (K : PySem.W.Frag) (H : Hp) (a : Addr) (ns : List Int), ns.length ≤ n → Only H → SqL K H a (ns.map V.int) → sp K [.ref a] H (fun v _ => v = .bl true) fun _ _ _ => False) :
    PySem.W.WalkO q loose XP YP l.row.toRowW d [] (fun f vs => PySem.call f vs) := by
  refine Att.attach_call hn hdf ?_
  intro w s₀ s₁ mg mb fa o pm cd doc a vs ns G Y ho hd hcd hmg hobj hints hlen hg
  obtain ⟨fd, hb, hF⟩ := F w mg fa _ (hY w _ Y) G.T.g hmg
  exact law_callG (hY w _ Y) G.T.g G.T.b G.T.builtins G.T.nolimit hg hobj hints (Nat.le_trans hlen hn2) hr hF hb fun H hO hS => hsp _ H a ns hlen hO hS
end Vk
/-! Data that is shown by a short text. -/
namespace Vk
open PySem PySem.Spec PyProof.Rows L2
/-- levels at most k, items at most n, each int of few bits -/
structure FitN (k n : Nat) (d : PyData) : Prop where
  s : d.showable = true
  h : d.hasDict = false
  dp : d.depth ≤ k
  l : d.leavesShort 2000 = true
  b : d.bulk ≤ n
structure FitLN (k n : Nat) (ds : List PyData) : Prop where
  s : PyData.showableAll ds = true
  h : PyData.hasDictAll ds = false
  dp : PyData.depthAll ds ≤ k
  l : PyData.leavesShortAll 2000 ds = true
  b : PyData.bulkAll ds ≤ n
theorem FitLN.nil {k n : Nat} : FitLN k n [] := ⟨by simp [PyData.showableAll], by simp [PyData.hasDictAll], by simp [PyData.depthAll], by simp [PyData.leavesShortAll], by simp [PyData.bulkAll]⟩
theorem FitLN.cons {k a b n : Nat} {d : PyData} {ds : List PyData} (x : FitN k a d) (y : FitLN k b ds) (hn : a + 1 + b ≤ n) : FitLN k n (d :: ds) :=
  ⟨by simp [PyData.showableAll, x.s, y.s], by simp [PyData.hasDictAll, x.h, y.h], by have := x.dp; have := y.dp; simp only [PyData.depthAll]; omega, by simp [PyData.leavesShortAll, x.l, y.l], by have := x.b; have := y.b; simp only [PyData.bulkAll]; omega⟩
theorem FitN.list {k n : Nat} {ds : List PyData} (y : FitLN k n ds) : FitN (k + 1) n (.list ds) :=
  ⟨by simp [PyData.showable, y.s], by simp [PyData.hasDict, y.h], by have := y.dp; simp only [PyData.depth]; omega, by simp [PyData.leavesShort, y.l], by have := y.b; simp only [PyData.bulk]; omega⟩
theorem FitN.tup {k n : Nat} {ds : List PyData} (y : FitLN k n ds) : FitN (k + 1) n (.tuple ds) :=
  ⟨by simp [PyData.showable, y.s], by simp [PyData.hasDict, y.h], by have := y.dp; simp only [PyData.depth]; omega, by simp [PyData.leavesShort, y.l], by have := y.b; simp only [PyData.bulk]; omega⟩
theorem FitN.non {k n : Nat} : FitN k n .none := ⟨by simp [PyData.showable], by simp [PyData.hasDict], by simp [PyData.depth], by simp [PyData.leavesShort], by simp [PyData.bulk]⟩
theorem FitN.bl {k n : Nat} (b : Bool) : FitN k n (.bool b) := ⟨by simp [PyData.showable], by simp [PyData.hasDict], by simp [PyData.depth], by simp [PyData.leavesShort], by simp [PyData.bulk]⟩
theorem FitN.int {k n : Nat} {i : Int} (hi : i.natAbs < 2 ^ 1900) : FitN k n (.int i) := by
  have lg : i.natAbs.log2 < 1900 := PySem.Flt.log2_lt_of (by decide) hi
  refine ⟨by simp only [PyData.showable, decide_eq_true_eq]; omega, by simp [PyData.hasDict], by simp [PyData.depth], ?_, by simp [PyData.bulk]⟩
  have h1 := int_text_length_le (by decide) lg
  have h2 : (PyData.shown (.int i)).length = (Str.ofString (toString i)).length := by simp only [PyData.shown]
  rw [PySem.ofString_length] at h2
  have h3 : (PyData.shown (.int i)).length ≤ 2000 := by omega
  simpa only [PyData.leavesShort, decide_eq_true_eq] using h3
theorem FitN.str {k n : Nat} (x : Str) (h : (x.cps.toList.all fun c => decide (c < 16 ^ 8)) = true) (hn : x.cps.size ≤ n) : FitN k n (.str x) :=
  ⟨by simp [PyData.showable], by simp [PyData.hasDict], by simp [PyData.depth], by simpa only [PyData.leavesShort] using h, by simp only [PyData.bulk]; omega⟩
theorem FitN.mono {k n k' n' : Nat} {d : PyData} (x : FitN k n d) (h1 : k ≤ k') (h2 : n ≤ n') : FitN k' n' d := ⟨x.s, x.h, Nat.le_trans x.dp h1, x.l, Nat.le_trans x.b h2⟩
/-- the text is not too long -/
theorem FitN.len {k n : Nat} {d : PyData} (x : FitN k n d) (hn : n ≤ 8000) : d.shown.length ≤ sizeLine := by
  have h := PyData.shown_le_bulk 2000 (by decide) d x.l
  have h2 : (2000 + 2) * d.bulk ≤ 2002 * 8000 := Nat.mul_le_mul_left _ (Nat.le_trans x.b hn)
  rw [sizeLine_eq]
  omega
/-- the text of a short value -/
def Fit (d : PyData) : Prop := FitN 60 8000 d
theorem rep_ {K : PySem.W.Frag} {H : Hp} {x : V} {d : PyData} {Q : VK} (hD : Dp K H x d) (f : Fit d) (q : Q (.str d.shown) H) : rRep K [x] H Q := ⟨x, d, rfl, hD, f.s, f.h, f.dp, f.len (Nat.le_refl _), q⟩
end Vk
namespace Vk
open PySem PySem.Spec PyProof.Rows L2
/-- both ways of an if lead to what follows -/
theorem tifs_both {c : Bool} {t u : TS} {D : Ends} {σ : L2.St} {H : Hp} (Good : L2.St → Hp → Prop) (hQ : ∀ σ' H', Good σ' H' → D.nx σ' H') (ht : c = true → (∀ σ' H', Good σ' H' → D.nx σ' H') → t D σ H)
    (hu : c = false → (∀ σ' H', Good σ' H' → D.nx σ' H') → u D σ H) : if c = true then t D σ H else u D σ H := by
  cases c with
  | true => exact iteT (ht rfl hQ)
  | false => exact iteF (hu rfl hQ)
theorem SameBut.free {m p : Addr} {H H' : Hp} (s : SameBut m H H') (hm : ∃ o, H' m = some o) (h : H' p = none) : H p = none := by
  cases q : H p with
  | none => rfl
  | some o =>
    by_cases e : p = m
    · subst e
      obtain ⟨o', z⟩ := hm
      rw [h] at z
      cases z
    · have z := s p o e q
      rw [h] at z
      cases z
end Vk
namespace Vk
open PySem PySem.Spec PyProof.Rows L2
/-- both ways of a conditional expression lead to what follows, where they make things -/
theorem tif_bothH {c : Bool} {ta tb : TE} {σ : L2.St} {H : Hp} {Q : VK} (Good : V → Hp → Prop) (hQ : ∀ v H', Good v H' → Q v H') (ha : c = true → (∀ v H', Good v H' → Q v H') → ta σ H Q) (hb : c = false → (∀ v H', Good v H' → Q v H') → tb σ H Q) :
    if c = true then ta σ H Q else tb σ H Q := by
  cases c with
  | true => exact iteT (ha rfl hQ)
  | false => exact iteF (hb rfl hQ)
end Vk
namespace Vk
open PySem PySem.Spec PyProof.Rows L2
/-- a value of one of seven kinds -/
inductive Oky (H : Hp) : V → String → Prop where
  | non : Oky H .non "NoneType"
  | bl (b : Bool) : Oky H (.bl b) "bool"
  | int (i : Int) : Oky H (.int i) "int"
  | str (x : Str) : Oky H (.str x) "str"
  | lst {a : Addr} {xs : List V} (e : H a = some (.lst xs)) : Oky H (.ref a) "list"
  | tup {a : Addr} {xs : List V} (e : H a = some (.tup xs)) : Oky H (.ref a) "tuple"
  | dK {a : Addr} {kvs : List (Key × V)} (e : H a = some (.dK kvs)) : Oky H (.ref a) "dict"
theorem Oky.ty {K : PySem.W.Frag} {H : Hp} {x : V} {t : String} (h : Oky H x t) : TyX K H x (.type t) := by
  cases h with
  | non => exact .base .non
  | bl b => exact .base (.bl b)
  | int i => exact .base (.int i)
  | str x => exact .base (.str x)
  | lst e => exact .base (.lst e)
  | tup e => exact .base (.tup e)
  | dK e => exact .base (.dK e)
theorem Oky.same {H H' : Hp} {x : V} {t : String} (h : Oky H x t) (s : Same H H') : Oky H' x t := by
  cases h with
  | non => exact .non
  | bl b => exact .bl b
  | int i => exact .int i
  | str x => exact .str x
  | lst e => exact .lst (s _ _ e)
  | tup e => exact .tup (s _ _ e)
  | dK e => exact .dK (s _ _ e)
theorem Oky.kTup {H : Hp} {x : V} {t : String} (h : Oky H x t) : kitB t "tuple" = some (decide (t = "tuple")) := by
  cases h <;> decide +kernel
theorem Oky.kInt {H : Hp} {x : V} {t : String} (h : Oky H x t) : kitB t "int" = some (decide (t = "int" ∨ t = "bool")) := by
  cases h <;> decide +kernel
theorem Oky.kBool {H : Hp} {x : V} {t : String} (h : Oky H x t) : kitB t "bool" = some (decide (t = "bool")) := by
  cases h <;> decide +kernel
def isInt : V → Bool
  | .int _ => true
  | _ => false
theorem Oky.isInt {H : Hp} {x : V} {t : String} (h : Oky H x t) : isInt x = decide (t = "int") := by
  cases h <;> simp [Vk.isInt]
/-- the reading of isinstance(x, T) -/
theorem isi_ {K : PySem.W.Frag} {H : Hp} {x : V} {t T : String} {b : Bool} {Q : VK} (h : Oky H x t) (k : kitB t T = some b) (q : Q (.bl b) H) : rIsi K [x, .ty T] H Q :=
  ⟨x, .ty T, _, _, b, rfl, .ty T, h.ty, kit_ty k, q⟩
end Vk
/-! zip of a list and a tuple in any mix, enumerate of a tuple. -/
namespace Vk
open PySem PySem.Spec PyProof.Rows L2
/-- a list (true) or a tuple (false) -/
def SqK : Bool → PySem.W.Frag → Hp → Addr → List V → Prop
  | true => SqL
  | false => SqT
def ItA : Bool → Heap → Addr → Addr → Nat → Prop
  | true => Heap.IsListIter
  | false => Heap.IsTupleIter
def AtA : Bool → Heap → Addr → Array Value → Prop
  | true => Heap.IsList
  | false => Heap.IsTuple
/-- a new iterator's object -/
def itO : Bool → Addr → Obj
  | true, l => { cls := .type "list_iterator", data := .fields #[.ref l, .int 0 0] }
  | false, l => { cls := .type "tuple_iterator", data := .fields #[.ref l, .int 0 0] }
section
variable {X : Cx} {pins : List (Addr × Obj)} {σ : L2.St} {H : Hp} {s : Shared} {b : Bool} {a : Addr} {xs ys : List V} {h h' : Heap} {it l : Addr} {i : Nat}
theorem seqK (I : Inv X pins σ H s) (q : SqK b X.K H a xs) : ∃ its : List Value, Vals xs its ∧ AtA b s.heap a its.toArray := by
  cases b with
  | true =>
    obtain ⟨its, r, p, _⟩ := I.list q
    exact ⟨its, r, p.isList⟩
  | false =>
    obtain ⟨its, r, p, _⟩ := I.tuple q
    exact ⟨its, r, p⟩
theorem injK (I : Inv X pins σ H s) (q : SqK b X.K H a xs) (q' : SqK b X.K H a ys) : xs = ys := by
  cases b with
  | true => exact I.list_inj q q'
  | false => exact I.tuple_inj q q'
theorem ItA.at (q : ItA b h it l i) (k : ∀ o, h.get? it = some o → h'.get? it = some o) : ItA b h' it l i := by
  cases b with
  | true => exact Heap.IsListIter.at q k
  | false => exact Heap.IsTupleIter.at q k
theorem ItA.obj (q : ItA b h it l i) : ∃ o, h.get? it = some o ∧ ∀ v, o.data ≠ .cell v := by
  cases b with
  | true =>
    obtain ⟨o, e, _, d⟩ := q
    exact ⟨o, e, fun v z => by rw [d] at z; cases z⟩
  | false =>
    obtain ⟨o, e, _, d⟩ := q
    exact ⟨o, e, fun v z => by rw [d] at z; cases z⟩
theorem ItA.new (q : h.get? it = some (itO b l)) : ItA b h it l 0 := by
  cases b with
  | true => exact ⟨_, q, rfl, rfl⟩
  | false => exact ⟨_, q, rfl, rfl⟩
theorem drawsK {prog : Program} {w : World} {A : Around} (hh : A.handled = none) (hne : l ≠ it) (items : Array Value) :
    Draws prog w A it [it, l] items.size (fun i v => items[i]? = some v) (fun i h => ItA b h it l i ∧ AtA b h l items) := by
  cases b with
  | true => exact Draws.list hh it l hne items
  | false => exact Draws.tuple hh it l hne items
theorem beginsK (l : Addr) (items : Array Value) : Begins (.ref l) (itO b l) fun h => AtA b h l items := by
  cases b with
  | true => exact begins_list l items
  | false => exact begins_tuple l items
theorem AtA.lt {items : Array Value} (q : AtA b h l items) : l < h.objs.size := by
  cases b with
  | true =>
    obtain ⟨o, e, _⟩ := q
    exact Heap.lt_size e
  | false =>
    obtain ⟨o, e, _⟩ := q
    exact Heap.lt_size e
end
/-- two of either kind, the items in new pairs -/
def ItzK (b1 b2 : Bool) (K : PySem.W.Frag) (a b : Addr) : It :=
  ⟨fun i H => ∃ (xs ys : List V) (x y : V), SqK b1 K H a xs ∧ SqK b2 K H b ys ∧ xs[i]? = some x ∧ ys[i]? = some y,
    fun i H v H' => ∃ T x y, v = .ref T ∧ H T = none ∧ H' = upd H T (.tup [x, y]) ∧ (∀ xs, SqK b1 K H a xs → xs[i]? = some x) ∧ ∀ ys, SqK b2 K H b ys → ys[i]? = some y,
    fun i H => ∃ xs ys : List V, SqK b1 K H a xs ∧ SqK b2 K H b ys ∧ i ≤ xs.length ∧ i ≤ ys.length ∧ (i = xs.length ∨ i = ys.length)⟩
theorem walk_zipK {b1 b2 : Bool} {K : PySem.W.Frag} {a b : Addr} {xs ys : List V} {n : Nat} (hn : n = min xs.length ys.length) : Walk (ItzK b1 b2 K a b) n (fun H => SqK b1 K H a xs ∧ SqK b2 K H b ys) (YPair (fun i => xs[i]?) (fun i => ys[i]?)) where
  goes := fun i H hi ⟨q1, q2⟩ => by
    have l1 : i < xs.length := by omega
    have l2 : i < ys.length := by omega
    exact ⟨xs, ys, xs[i], ys[i], q1, q2, List.getElem?_eq_getElem l1, List.getElem?_eq_getElem l2⟩
  stops := fun H ⟨q1, q2⟩ => ⟨xs, ys, q1, q2, by omega, by omega, by omega⟩
  yields := fun i H v H' hi ⟨q1, q2⟩ ⟨T, x, y, e1, e2, e3, f1, f2⟩ => ⟨T, x, y, e1, e2, e3, f1 _ q1, f2 _ q2⟩
section
variable {P : Program} {w : World} {K : PySem.W.Frag} {elts : List Expr} {kk : Nat} {tpos : Pos}
theorem five {c z TI TO i1 i2 : Addr} (h : c ∈ [z, TI, TO, i1, i2]) : c = z ∨ c = TI ∨ c = TO ∨ c = i1 ∨ c = i2 := by simpa using h
theorem turn_zipK {b1 b2 : Bool} {a b z TI TO i1 i2 : Addr} (S : ZipSep2 z TI TO i1 i2 [i1, a] [i2, b]) (ha : a ≠ i1) (hb : b ≠ i2) :
    Turn P w K (.Tuple elts kk tpos) (ItzK b1 b2 K a b) [z, TI, TO, i1, i2] z (fun i h => IsZip h z TI TO .none ∧ IsPair h TI (.ref i1) (.ref i2) ∧ (∃ x y, IsPair h TO x y) ∧ ItA b1 h i1 a i ∧ ItA b2 h i2 b i) where
  mem := List.mem_cons_self
  obj := fun i h st c hc => by
    obtain ⟨hz, hTI, ⟨x, y, hTO⟩, q1, q2⟩ := st
    rcases five hc with rfl | rfl | rfl | rfl | rfl
    · exact ⟨_, hz, fun v q => nomatch q⟩
    · exact ⟨_, hTI, fun v q => nomatch q⟩
    · exact ⟨_, hTO, fun v q => nomatch q⟩
    · exact q1.obj
    · exact q2.obj
  keep := fun i h h' st k => by
    obtain ⟨hz, hTI, ⟨x, y, hTO⟩, q1, q2⟩ := st
    exact ⟨k z (by simp) _ hz, k TI (by simp) _ hTI, ⟨x, y, k TO (by simp) _ hTO⟩, q1.at (k i1 (by simp)), q2.at (k i2 (by simp))⟩
  item := by
    intro X hP hw hK hc i pins s σ H E I hf st hg
    subst hP hw hK
    obtain ⟨hz, hTI, ⟨x0, y0, hTO⟩, q1, q2⟩ := st
    obtain ⟨xs, ys, x, y, sx, sy, hx, hy⟩ := hg
    obtain ⟨its1, r1, p1⟩ := seqK I sx
    obtain ⟨its2, r2, p2⟩ := seqK I sy
    obtain ⟨u, hu, ru⟩ := r1.get hx
    obtain ⟨u2, hu2, ru2⟩ := r2.get hy
    have hd : X.A.in1.handled = none := I.ok.hd hc
    have l1 : i < its1.toArray.size := by
      have := (List.getElem?_eq_some_iff.mp hu).1
      simpa using this
    have l2 : i < its2.toArray.size := by
      have := (List.getElem?_eq_some_iff.mp hu2).1
      simpa using this
    have zl : z < s.heap.objs.size := Heap.lt_size hz
    refine wpAny_pyNext_zipD2_item S (drawsK (prog := X.prog) (w := X.w) (b := b1) hd ha its1.toArray) (drawsK (prog := X.prog) (w := X.w) (b := b2) hd hb its2.toArray) hz hTI hTO ⟨q1, p1⟩ ⟨q2, p2⟩ l1 l2 fun v1 v2 h' tk e1 e2 z' TO' s1' s2' hT hsz hk => ?_
    have ev1 : v1 = u := by
      have : its1[i]? = some v1 := by simpa using e1
      rw [hu] at this
      exact (Option.some.inj this).symm
    have ev2 : v2 = u2 := by
      have : its2[i]? = some v2 := by simpa using e2
      rw [hu2] at this
      exact (Option.some.inj this).symm
    subst ev1 ev2
    refine ⟨_, rfl, wpAny_letOwnedTupleGo_zip (s := { s with heap := h', toks := tk }) z' fun h'' z'' sb => ?_⟩
    have hT2 : h''.get? s.heap.objs.size = some { cls := .type "tuple", data := .seq #[v1, v2] } := (sb.2 _ (Nat.ne_of_gt zl)).trans hT
    have new : ObjOk X.prog X.w (upd H s.heap.objs.size (.tup [x, y])) h'' s.heap.objs.size (.tup [x, y]) :=
      ⟨by show 2 ≤ sizeLine; decide, [v1, v2], .cons ru (.cons ru2 .nil), ⟨_, hT2, rfl, _, rfl⟩⟩
    have I1 : Inv X pins σ (upd H s.heap.objs.size (.tup [x, y])) { s with heap := h'', toks := tk } :=
      I.turnedNew (t' := tk) (ch := [z, TI, TO, i1, i2]) (fun c o hc q => (sb.2 c fun q' => hc (by simp [q'])).trans (hk c o (fun q' => hc (by simp [q'])) (fun q' => hc (by simp [q'])) (fun q' => hc (by simp [q'])) (fun q' => hc (by simp [q'])) q)) hf (Nat.le_refl _) new
    have nz1 : i1 ≠ z := fun e => S.zf1 (by rw [e]; exact List.mem_cons_self)
    have nz2 : i2 ≠ z := fun e => S.zf2 (by rw [e]; exact List.mem_cons_self)
    refine ⟨.ref s.heap.objs.size, _, I1, rfl, ⟨_, x, y, rfl, I.hok.fresh (Nat.le_refl _), rfl, fun l hl => by rw [injK I hl sx]; exact hx, fun l hl => by rw [injK I hl sy]; exact hy⟩, ⟨z'', ?_, ⟨v1, v2, ?_⟩, ?_, ?_⟩, fun c hcm => ?_⟩
    · exact (sb.2 _ S.TIz).trans (hk _ _ S.TIz S.TITO S.TIi1 S.TIi2 hTI)
    · exact (sb.2 _ S.TOz).trans TO'
    · exact s1'.1.at fun o q => (sb.2 _ nz1).trans q
    · exact s2'.1.at fun o q => (sb.2 _ nz2).trans q
    · have lt : c < s.heap.objs.size := by
        rcases five hcm with rfl | rfl | rfl | rfl | rfl
        · exact zl
        · exact Heap.lt_size hTI
        · exact Heap.lt_size hTO
        · obtain ⟨o, e, _⟩ := q1.obj
          exact Heap.lt_size e
        · obtain ⟨o, e, _⟩ := q2.obj
          exact Heap.lt_size e
      rw [upd_ne (Nat.ne_of_lt lt)]
      exact (hf c hcm).1
  done := by
    intro X hP hw hK hc i pins s σ H E I hf st hg
    subst hP hw hK
    obtain ⟨hz, hTI, ⟨x0, y0, hTO⟩, q1, q2⟩ := st
    obtain ⟨xs, ys, sx, sy, l1, l2, le⟩ := hg
    obtain ⟨its1, r1, p1⟩ := seqK I sx
    obtain ⟨its2, r2, p2⟩ := seqK I sy
    have hd : X.A.in1.handled = none := I.ok.hd hc
    have m1 := r1.length
    have m2 := r2.length
    refine wpAny_pyNext_zipD2_end S (drawsK (prog := X.prog) (w := X.w) (b := b1) hd ha its1.toArray) (drawsK (prog := X.prog) (w := X.w) (b := b2) hd hb its2.toArray) hz hTI hTO ⟨q1, p1⟩ ⟨q2, p2⟩ (by simp; omega) (by simp; omega) (by simp; omega) fun h' tk hk => ⟨rfl, ?_⟩
    exact I.turnedL (t' := tk) (ch := [z, TI, TO, i1, i2]) (fun c o hc q => hk c o (fun q' => hc (by simp [q'])) (fun q' => hc (by simp [q'])) (fun q' => hc (by simp [q'])) (fun q' => hc (by simp [q'])) q) hf
  self := fun A i s Q E st h => wpAny_pyIter_zip st.1 h
def iZipK (K : PySem.W.Frag) (ta : TA) : TI := fun σ H R => ta σ H fun vs H1 => ∃ b1 b2 a b xs ys, vs = [.ref a, .ref b] ∧ SqK b1 K H1 a xs ∧ SqK b2 K H1 b ys ∧ R (ItzK b1 b2 K a b) H1
theorem pi_zipK {X : Cx} {e e2 : Expr} {ta : TA} {p pos : Pos} (hg : Gl X "zip") (hm : X.mg "zip" = none) (ha : PA X [e, e2] ta)
    (hs : starEach [e, e2] X.env = (false, eval e X.env) :: starEach [e2] X.env := by rfl) (hpl : (backTo pos (starEach [e2] X.env)).any (·.1) = false := by rfl) :
    PI X (.Tuple elts kk tpos) (.Call (.Name "zip" p) [e, e2] [] pos) (iZipK X.K ta) := by
  refine ⟨fun pins s σ H R I h => ?_⟩
  refine Call_ (ld_blt I hg hm PyProof.Rows.boot_zip (PyProof.Rows.callWith_type1 (thn (ha.run pos pins s σ H _ I h) fun us s1 q => ?_) hs hpl))
  obtain ⟨vs, H1, I1, r1, b1, b2, a, b, xs, ys, rfl, sx, sy, q⟩ := q
  obtain ⟨u1, u2, rfl, e1, e2⟩ := vals2 r1
  cases e1
  cases e2
  obtain ⟨its1, _, p1⟩ := seqK I1 sx
  obtain ⟨its2, _, p2⟩ := seqK I1 sy
  refine zip_begins2 (beginsK (b := b1) a its1.toArray) (beginsK (b := b2) b its2.toArray) p1 p2 fun h' hz hTI hTO g1 g2 hsz hk => wpAny_pyIter_zip hz ?_
  have I2 : Inv X pins σ H1 { s1 with heap := h' } := I1.kept (t' := s1.toks) hk
  have na : a < s1.heap.objs.size := p1.lt
  have nb : b < s1.heap.objs.size := p2.lt
  have S : ZipSep2 (s1.heap.objs.size + 4) (s1.heap.objs.size + 2) (s1.heap.objs.size + 3) s1.heap.objs.size (s1.heap.objs.size + 1) [s1.heap.objs.size, a] [s1.heap.objs.size + 1, b] :=
    zip_sep2 (fun c hc => by rw [List.mem_singleton.mp hc]; exact na) (fun c hc => by rw [List.mem_singleton.mp hc]; exact nb)
  refine ⟨s1.heap.objs.size + 4, [s1.heap.objs.size + 4, s1.heap.objs.size + 2, s1.heap.objs.size + 3, s1.heap.objs.size, s1.heap.objs.size + 1], _, _, H1, rfl, I2, turn_zipK S (Nat.ne_of_lt na) (Nat.ne_of_lt (Nat.lt_succ_of_lt nb)), ⟨hz, hTI, ⟨_, _, hTO⟩, .new g1, .new g2⟩, fun c hc => ?_, q⟩
  have le : s1.heap.objs.size ≤ c := by
    rcases five hc with rfl | rfl | rfl | rfl | rfl <;> omega
  exact I1.fpOk le (I1.hok.fresh le)
theorem meets_enum1 {v : Value} {o : Obj} {H : Heap → Prop} (B : Begins v o H) :
    Meets (Builtin.«enumerate.__new__» ⟨[.type "enumerate", v], []⟩) (fun _ R s => H s.heap ∧
      R (.ok (.ret (.ref (s.heap.push o).objs.size))) { s with heap := (s.heap.push o).push { cls := .type "enumerate", data := .fields #[.none, .bool false, .ref s.heap.objs.size, rawInt 0, .none, .none] } }) :=
  .of_wp fun prog w A R s h => by
    obtain ⟨hp, g, d, tk, os⟩ := s
    obtain ⟨h1, h⟩ := h
    have sub := sub_enumerate
    have it : ∀ {A' : Around} {E : Value → Shared → Prop} {Q : Value → Shared → Prop}, Q (.ref hp.objs.size) ⟨hp.push o, g, d, tk, os⟩ → wpAny (model prog w) A' (pyIter v) Q E ⟨hp, g, d, tk, os⟩ :=
      fun q => B.iter prog w _ _ ⟨hp, g, d, tk, os⟩ _ h1 q
    wp_walk using it
    refine wpAny_stack_any fun st => wpAny_pure ?_
    split
    · rename_i c _ _ _ _ _
      cases (c == Value.type "enumerate") <;> (wp_walk using it; exact ⟨_, rfl, h⟩)
    · wp_walk using it
      exact ⟨_, rfl, h⟩
theorem call_enum1 {prog : Program} {A : Around} {E : Value → Shared → Prop} {s : Shared} {v : Value} {o : Obj} {H : Heap → Prop} {Q : Value → Shared → Prop} (B : Begins v o H) (h1 : H s.heap)
    (h : ∀ h', IsEnum h' (s.heap.objs.size + 1) s.heap.objs.size 0 .none → h'.get? s.heap.objs.size = some o → (∀ b u, s.heap.get? b = some u → h'.get? b = some u) → Q (.ref (s.heap.objs.size + 1)) { s with heap := h' }) :
    wpAny (model prog w) A (call (.type "enumerate") [v]) Q E s := by
  refine callType_new F.called_enumerate (by decide) (F.typeCall_enumerate_1 _) (F.newCall_enumerate_1 _) (fun obj => F.args_object_init_2 obj _) F.entry_enumerate_new (meets_enum1 B) ⟨h1, ?_⟩
  have z : (s.heap.push o).objs.size = s.heap.objs.size + 1 := Heap.size_push ..
  show _ ∧ _
  rw [z]
  have e : IsEnum ((s.heap.push o).push { cls := .type "enumerate", data := .fields #[.none, .bool false, .ref s.heap.objs.size, rawInt 0, .none, .none] }) (s.heap.objs.size + 1) s.heap.objs.size 0 .none := by
    have y := Heap.get?_push_size (s.heap.push o) (o := { cls := .type "enumerate", data := .fields #[.none, .bool false, .ref s.heap.objs.size, rawInt 0, .none, .none] }) rfl
    rw [z] at y
    exact y
  exact ⟨⟨_, e, rfl⟩, h _ e (Heap.get?_push_of_some _ (Heap.get?_push_size _ B.free)) fun b u x => Heap.get?_push_of_some _ (Heap.get?_push_of_some _ x)⟩
/-- one of either kind, each item in a new pair behind its number -/
def IteK (b : Bool) (K : PySem.W.Frag) (a : Addr) : It :=
  ⟨fun i H => ∃ (xs : List V) (x : V), SqK b K H a xs ∧ xs[i]? = some x, fun i H v H' => ∃ T x, v = .ref T ∧ H T = none ∧ H' = upd H T (.tup [.int (i : Nat), x]) ∧ ∀ xs, SqK b K H a xs → xs[i]? = some x,
    fun i H => ∃ xs : List V, SqK b K H a xs ∧ xs.length = i⟩
theorem walk_enumK {b : Bool} {a : Addr} {xs : List V} : Walk (IteK b K a) xs.length (fun H => SqK b K H a xs) (YPair (fun i => some (.int (i : Nat))) (fun i => xs[i]?)) where
  goes := fun i H hi q => ⟨xs, xs[i], q, List.getElem?_eq_getElem hi⟩
  stops := fun H q => ⟨xs, q, rfl⟩
  yields := fun i H v H' hi q ⟨T, x, e1, e2, e3, f⟩ => ⟨T, _, x, e1, e2, e3, rfl, f _ q⟩
theorem turn_enumK {b : Bool} {a e it : Addr} (ha : a ≠ it) (hea : e ≠ a) (hei : e ≠ it) :
    Turn P w K (.Tuple elts kk tpos) (IteK b K a) [e, it] e (fun i h => (∃ old, IsEnum h e it ((i : Nat) : Int) old) ∧ ItA b h it a i) where
  mem := List.mem_cons_self
  obj := fun i h st c hc => by
    obtain ⟨⟨old, he⟩, q⟩ := st
    rcases List.mem_cons.mp hc with rfl | hc
    · exact ⟨_, he, fun v z => nomatch z⟩
    · rw [List.mem_singleton.mp hc]
      exact q.obj
  keep := fun i h h' st k => by
    obtain ⟨⟨old, he⟩, q⟩ := st
    exact ⟨⟨old, k e (by simp) _ he⟩, q.at (k it (by simp))⟩
  item := by
    intro X hP hw hK hc i pins s σ H E I hf st hg
    subst hP hw hK
    obtain ⟨⟨old, he⟩, q⟩ := st
    obtain ⟨xs, x, sx, hx⟩ := hg
    obtain ⟨its, r, p⟩ := seqK I sx
    obtain ⟨u, hu, ru⟩ := r.get hx
    have hd : X.A.in1.handled = none := I.ok.hd hc
    have l1 : i < its.toArray.size := by
      have := (List.getElem?_eq_some_iff.mp hu).1
      simpa using this
    have el : e < s.heap.objs.size := Heap.lt_size he
    have il : it < s.heap.objs.size := by
      obtain ⟨o, z, _⟩ := q.obj
      exact Heap.lt_size z
    refine wpAny_pyNext_enum_itemD (drawsK (prog := X.prog) (w := X.w) (b := b) hd ha its.toArray) he ⟨q, p⟩ l1 hei (by simp [hei, hea]) fun v h' tk e1 ho st' hT hsz hk => ?_
    have ev : v = u := by
      have : its[i]? = some v := by simpa using e1
      rw [hu] at this
      exact (Option.some.inj this).symm
    subst ev
    refine ⟨_, rfl, wpAny_letOwnedTupleGo_enum (s := { s with heap := h', toks := tk + 1 }) ho fun h'' he' sb => ?_⟩
    have hT2 : h''.get? s.heap.objs.size = some { cls := .type "tuple", data := .seq #[.int i tk, v] } := (sb.2 _ (Nat.ne_of_gt el)).trans hT
    have new : ObjOk X.prog X.w (upd H s.heap.objs.size (.tup [.int (i : Nat), x])) h'' s.heap.objs.size (.tup [.int (i : Nat), x]) :=
      ⟨by show 2 ≤ sizeLine; decide, [.int i tk, v], .cons ⟨_, rfl⟩ (.cons ru .nil), ⟨_, hT2, rfl, _, rfl⟩⟩
    have I1 : Inv X pins σ (upd H s.heap.objs.size (.tup [.int (i : Nat), x])) { s with heap := h'', toks := tk + 1 } :=
      I.turnedNew (ch := [e, it]) (fun c o hc z => (sb.2 c fun y => hc (by simp [y])).trans (hk c o (fun y => hc (by simp [y])) (fun y => hc (by simp [y])) z)) hf (Nat.le_refl _) new
    refine ⟨.ref s.heap.objs.size, _, I1, rfl, ⟨_, x, rfl, I.hok.fresh (Nat.le_refl _), rfl, fun ys hy => by rw [injK I hy sx]; exact hx⟩, ⟨⟨v, ?_⟩, st'.1.at fun o z => (sb.2 it (Ne.symm hei)).trans z⟩, fun c hc => ?_⟩
    · have e2 : ((i + 1 : Nat) : Int) = (i : Int) + 1 := by omega
      rw [e2]
      exact he'
    · have lt : c < s.heap.objs.size := by
        rcases List.mem_cons.mp hc with rfl | z
        · exact el
        · rw [List.mem_singleton.mp z]
          exact il
      rw [upd_ne (Nat.ne_of_lt lt)]
      exact (hf c hc).1
  done := by
    intro X hP hw hK hc i pins s σ H E I hf st hg
    subst hP hw hK
    obtain ⟨⟨old, he⟩, q⟩ := st
    obtain ⟨xs, sx, rfl⟩ := hg
    obtain ⟨its, r, p⟩ := seqK I sx
    have hd : X.A.in1.handled = none := I.ok.hd hc
    obtain ⟨f0, f1, f2, f3, f4, f5⟩ := hf it (by simp)
    have hl : xs.length = its.toArray.size := by
      rw [List.size_toArray]
      exact r.length
    refine wpAny_pyNext_enum_endD (drawsK (prog := X.prog) (w := X.w) (b := b) hd ha its.toArray) he (by rw [hl] at q; exact ⟨q, p⟩) fun h' eb => ⟨rfl, I.turned (t' := s.toks) (fun b o hb z => eb b o hb z) f0 f1 f3 f4 f5⟩
  self := fun A i s Q E st h => by
    obtain ⟨⟨old, he⟩, _⟩ := st
    exact wpAny_pyIter_enum he h
def iEnumK (K : PySem.W.Frag) (ta : TA) : TI := fun σ H R => ta σ H fun vs H1 => ∃ b a xs, vs = [.ref a] ∧ SqK b K H1 a xs ∧ R (IteK b K a) H1
theorem pi_enumK {X : Cx} {e : Expr} {ta : TA} {p pos : Pos} (hg : Gl X "enumerate") (hm : X.mg "enumerate" = none) (ha : PA X [e] ta) (hs : starEach [e] X.env = [(false, eval e X.env)] := by rfl) :
    PI X (.Tuple elts kk tpos) (.Call (.Name "enumerate" p) [e] [] pos) (iEnumK X.K ta) := by
  refine ⟨fun pins s σ H R I h => ?_⟩
  refine Call_ (ld_blt I hg hm boot_enumerate (PyProof.Rows.callWith_type1 (thn (ha.run pos pins s σ H _ I h) fun us s1 q => ?_) hs rfl))
  obtain ⟨vs, H1, I1, r1, b, a, xs, rfl, sx, q⟩ := q
  obtain ⟨u, rfl, e1⟩ := vals1 r1
  cases e1
  obtain ⟨its, _, p1⟩ := seqK I1 sx
  refine call_enum1 (beginsK (b := b) a its.toArray) p1 fun h' he g hk => wpAny_pyIter_enum he ?_
  have I2 : Inv X pins σ H1 { s1 with heap := h' } := I1.kept (t' := s1.toks) hk
  have na : a < s1.heap.objs.size := p1.lt
  refine ⟨s1.heap.objs.size + 1, [s1.heap.objs.size + 1, s1.heap.objs.size], _, _, H1, rfl, I2, turn_enumK (Nat.ne_of_lt na) (Nat.ne_of_gt (Nat.lt_succ_of_lt na)) (Nat.succ_ne_self _), ⟨⟨.none, he⟩, .new g⟩, fun c hc => ?_, q⟩
  have le : s1.heap.objs.size ≤ c := by
    rcases List.mem_cons.mp hc with rfl | z
    · exact Nat.le_succ _
    · rw [List.mem_singleton.mp z]
      exact Nat.le_refl _
  exact I1.fpOk le (I1.hok.fresh le)
end
end Vk
/-! Readings by what stands afterwards. -/
namespace Vk
open PySem PySem.Spec PyProof.Rows L2
theorem Same.seqT {K : PySem.W.Frag} {H H' : Hp} {a : Addr} {xs : List V} (s : Same H H') (h : SqT K H a xs) : SqT K H' a xs := by
  rcases h with (h | ⟨o, h⟩) | h
  · exact .inl (.inl (s _ _ h))
  · exact .inl (.inr ⟨o, s _ _ h⟩)
  · exact .inr h
theorem Same.seqK {b : Bool} {K : PySem.W.Frag} {H H' : Hp} {a : Addr} {xs : List V} (s : Same H H') (h : SqK b K H a xs) : SqK b K H' a xs := by
  cases b with
  | true => exact s.seq h
  | false => exact Same.seqT s h
/-- t + u -/
theorem cat_any {K : PySem.W.Frag} {H : Hp} {a b : Addr} {xs ys : List V} {Q : VK} (ha : SqT K H a xs) (hb : SqT K H b ys) (hl : xs.length + ys.length ≤ sizeLine) (q : ∀ r H', Same H H' → SqT K H' r (xs ++ ys) → Q (.ref r) H') : rCatA K (.ref a) (.ref b) H Q := by
  refine ⟨a, b, xs, ys, rfl, rfl, ha, hb, hl, fun e => ?_, fun _ e => ?_, fun _ _ p np => q p _ (same_new np) (SqT.of upd_same)⟩
  · subst e
    exact q b H (Same.refl _) hb
  · subst e
    exact q a H (Same.refl _) (by rw [List.append_nil]; exact ha)
theorem cutV_whole (xs : List V) (lo hi : Option Int) (h : HT.sIx xs.length 0 lo = 0 ∧ HT.sIx xs.length xs.length hi = xs.length) : cutV xs lo hi = xs := by
  unfold cutV
  rw [h.1, h.2, List.drop_zero, Nat.sub_zero, List.take_length]
/-- t[lo:hi] -/
theorem slice_any {K : PySem.W.Frag} {H : Hp} {a : Addr} {xs : List V} {lo hi : Option Int} {Q : VK} (ha : SqT K H a xs) (q : ∀ r H', Same H H' → SqT K H' r (cutV xs lo hi) → Q (.ref r) H') : rSlA K (.ref a) lo hi H Q :=
  ⟨a, xs, rfl, ha, fun h => q a H (Same.refl _) (by rw [cutV_whole xs lo hi h]; exact ha), fun _ p np => q p _ (same_new np) (SqT.of upd_same)⟩
/-- from one on -/
theorem cut1 {xs : List V} {x : V} : cutV (x :: xs) (some 1) none = xs := by
  unfold cutV
  have e1 : HT.sIx (x :: xs).length 0 (some 1) = 1 := by
    have h := HT.sIx_nat (x :: xs).length 0 1
    rw [List.length_cons] at h ⊢
    exact h.trans (by omega)
  have e2 : HT.sIx (x :: xs).length (x :: xs).length none = xs.length + 1 := by
    rw [HT.sIx_none, List.length_cons]
  rw [e1, e2, List.drop_succ_cons, List.drop_zero, Nat.add_sub_cancel, List.take_length]
/-- a comprehension without a test, over any walk, whose items are those of R -/
theorem lc_to {J : It} {n : Nat} {G : Hp → Prop} {Y : Nat → Hp → V → Hp → Prop} (w : Walk J n G Y) {g : TG} {te : TE} {vs : List Nat} {σ : L2.St} {H1 : Hp} {D : Addr} {Qd : Hp → Prop} (R : List V) (hn : R.length = n) (hz : n < sizeLine) (nD : H1 D = none)
    (hG : ∀ H, Same H1 H → G H)
    (hs : ∀ (i : Nat) (x y : V) (H H' : Hp) (Qy : VK), R[i]? = some y → i < n → Same H1 H → Y i H x H' → (∀ H4, Same H H4 → Qy y H4) → g x (wipe σ vs) H' fun σ2 H2 => wipe σ2 vs = wipe σ vs ∧ te σ2 H2 Qy)
    (hd : ∀ H, Same H1 H → H D = some (.lst R) → Qd H) :
    ∃ W : Nat → Nat → Hp → Prop, (∃ m, W 0 m (upd H1 D (.lst []))) ∧ ∀ i m H, W i m H →
      (J.stop i H ∧ Qd H) ∨ (J.go i H ∧ ∃ Nx : Hp → Prop, (∀ H', Nx H' → ∃ m', m' < m ∧ W (i + 1) m' H') ∧ ∀ x H', J.yld i H x H' → g x (wipe σ vs) H' fun σ2 H2 => wipe σ2 vs = wipe σ vs ∧ tYes σ2 H2 fun b H3 =>
        if b = true then te σ2 H3 fun y H4 => ∃ acc, H4 D = some (.lst acc) ∧ acc.length < sizeLine ∧ Nx (upd H4 D (.lst (acc ++ [y]))) else Nx H3) := by
  refine lc_it w (tt := tYes) (fun i H => Same H1 H ∧ H D = some (.lst (R.take i))) ⟨same_new nD, by rw [upd_same]; rfl⟩ (fun i H _ p => hG H p.1) ?_ ?_
  · rintro i x H H' hi ⟨s, d⟩ y
    have hiR : i < R.length := by omega
    obtain ⟨v, hv⟩ : ∃ v, R[i]? = some v := ⟨_, List.getElem?_eq_getElem hiR⟩
    exact hs i x v H H' (fun y H4 => ∃ acc, H4 D = some (.lst acc) ∧ acc.length < sizeLine ∧ Same H1 (upd H4 D (.lst (acc ++ [y]))) ∧ upd H4 D (.lst (acc ++ [y])) D = some (.lst (R.take (i + 1)))) hv hi s y fun H4 s4 => by
      refine ⟨R.take i, s4 _ _ d, ?_, same_put (s.trans s4) nD, ?_⟩
      · rw [List.length_take]
        omega
      · rw [upd_same, List.take_add_one, hv]
        rfl
  · rintro H ⟨s, d⟩
    refine hd H s ?_
    rw [d, ← hn, List.take_length]
/-- a tuple that stands in the heap -/
def Tp (H : Hp) (a : Addr) (xs : List V) : Prop := H a = some (.tup xs)
theorem Tp.same {H H' : Hp} {a : Addr} {xs : List V} (h : Tp H a xs) (s : Same H H') : Tp H' a xs := s _ _ h
theorem Tp.t {K : PySem.W.Frag} {H : Hp} {a : Addr} {xs : List V} (h : Tp H a xs) : SqT K H a xs := SqT.of h
theorem Tp.but {m : Addr} {H H' : Hp} {a : Addr} {xs : List V} {kvs : List (Key × V)} (h : Tp H a xs) (hm : H m = some (.dK kvs)) (s : SameBut m H H') : Tp H' a xs := s _ _ (ne_of h hm (by intro z; cases z)) h
theorem cat_tp {K : PySem.W.Frag} {H : Hp} {a b : Addr} {xs ys : List V} {Q : VK} (ha : Tp H a xs) (hb : Tp H b ys) (hl : xs.length + ys.length ≤ sizeLine) (q : ∀ r H', Same H H' → Tp H' r (xs ++ ys) → Q (.ref r) H') : rCatA K (.ref a) (.ref b) H Q := by
  refine ⟨a, b, xs, ys, rfl, rfl, ha.t, hb.t, hl, fun e => ?_, fun _ e => ?_, fun _ _ p np => q p _ (same_new np) upd_same⟩
  · subst e
    exact q b H (Same.refl _) hb
  · subst e
    exact q a H (Same.refl _) (by rw [List.append_nil]; exact ha)
theorem slice_tp {K : PySem.W.Frag} {H : Hp} {a : Addr} {xs : List V} {lo hi : Option Int} {Q : VK} (ha : Tp H a xs) (q : ∀ r H', Same H H' → Tp H' r (cutV xs lo hi) → Q (.ref r) H') : rSlA K (.ref a) lo hi H Q :=
  ⟨a, xs, rfl, ha.t, fun h => q a H (Same.refl _) (by rw [cutV_whole xs lo hi h]; exact ha), fun _ p np => q p _ (same_new np) upd_same⟩
end Vk
namespace Vk
open PySem PySem.Spec PyProof.Rows L2
/-- a tuple once is the tuple -/
theorem once_ (l : Addr) (its : Array Value) (n : Nat) (dd : Option Addr) (sl : Array (Option Value)) (u : Tok) :
    Meets (Builtin.«tuple.__mul__» ⟨[.ref l, .int 1 u], []⟩) (fun _ R s => s.heap.get? l = some { cls := .type "tuple", dict := dd, data := .seq its n, slots := sl } ∧ R (.ok (.ret (Value.ref l))) s) :=
  .of_wp fun prog w A R s h => by
    obtain ⟨hp, gs, dr, tk, os⟩ := s
    obtain ⟨at_l, last⟩ := h
    have f1 := AutoSeq1.idx_int
    have one : (its.isEmpty || (1 : Int) == 1) = true := by
      rw [Bool.or_eq_true]
      exact Or.inr rfl
    wp_walk using wpAny_loadPart' at_l
    exact ⟨_, rfl, last⟩
/-- a tuple no times is the empty tuple -/
theorem never_ (l : Addr) (its : Array Value) (n : Nat) (dd : Option Addr) (sl : Array (Option Value)) (u : Tok) (ne : its.isEmpty = false) :
    Meets (Builtin.«tuple.__mul__» ⟨[.ref l, .int 0 u], []⟩) (fun _ R s => s.heap.get? l = some { cls := .type "tuple", dict := dd, data := .seq its n, slots := sl } ∧
      R (.ok (.ret (Value.ref s.heap.objs.size))) { s with heap := s.heap.push { cls := Value.type "tuple", data := Data.seq #[] }, toks := s.toks }) :=
  .of_wp fun prog w A R s h => by
    obtain ⟨hp, gs, dr, tk, os⟩ := s
    obtain ⟨at_l, last⟩ := h
    have f1 := AutoSeq1.idx_int
    have no : (its.isEmpty || (0 : Int) == 1) = false := by
      rw [ne]
      rfl
    wp_walk using wpAny_loadPart' at_l
    exact ⟨_, rfl, last⟩
/-- a tuple some times, be it once or never -/
def rTms (K : PySem.W.Frag) : R2 := fun x y H Q => ∃ (l : Addr) (k : Nat) (xs : List V), x = .ref l ∧ y = .int (k : Int) ∧ SqT K H l xs ∧ xs ≠ [] ∧ k ≤ 1000 ∧ xs.length ≤ 1000 ∧ (k = 1 → Q (.ref l) H) ∧ (k ≠ 1 → ∀ p, H p = none → Q (.ref p) (upd H p (.tup (List.replicate k xs).flatten)))
theorem op_tms {X : Cx} {K : PySem.W.Frag} (h : X.K = K) : OpR X (binaryOp .Mult) (rTms K) := by
  subst h
  intro pins s σ H x y v u Q I rx ry h
  obtain ⟨l, k, xs, rfl, rfl, hT, hne, hk, hx, q1, q2⟩ := h
  by_cases big : 2 ≤ k
  · refine op_repT _ _ _ _ _ _ _ _ _ I rx ry ⟨l, k, xs, rfl, rfl, hT, hne, by omega, by omega, hx, ?_⟩
    rw [Int.toNat_natCast]
    exact q2 (by omega)
  · cases rx
    obtain ⟨tk, rfl⟩ := ry
    obtain ⟨its, r, ⟨⟨cls, dd, data, sl⟩, ho, hc, n, hd⟩, hs⟩ := I.tuple hT
    simp only at hc hd
    subst hc hd
    have full : its.toArray.isEmpty = false := by
      cases its with
      | cons a b => rfl
      | nil => exact absurd (List.eq_nil_of_length_eq_zero r.length) hne
    obtain rfl | rfl : k = 0 ∨ k = 1 := by omega
    · refine wpAny_binaryOp_repeat_ref (T := "tuple") (U := "int") (by decide) ⟨_, ho, rfl⟩ (fun s' => typeIs_int s' _ tk) noFill_tuple_mul F.fills_int_mul F.slot_int_rmul repeat_tuple F.slot_int_index.lookup (call_meets F.slot_int_rmul (typeIs_int s _ tk) F.entry_int_rmul (F.args_int_rmul_2 _ _) (int_rmul_tuple _ tk l its.toArray n dd sl) ⟨ho, rfl, ⟨_, ho, rfl⟩, call_meets F.slot_tuple_mul ⟨_, ho, rfl⟩ F.entry_tuple_mul (F.args_tuple_mul_2 _ _) (never_ l its.toArray n dd sl tk full) ⟨ho, ?_⟩⟩)
      refine ⟨.ref s.heap.objs.size, _, I.laid (t' := s.toks) (o := .tup []) (fun b ob q => Heap.get?_push_of_some _ q) (Nat.le_refl _) ?_, rfl, q2 (by decide) _ (I.hok.fresh (Nat.le_refl _))⟩
      exact ⟨by decide, _, .nil, IsTup.new _ _⟩
    · exact wpAny_binaryOp_repeat_ref (T := "tuple") (U := "int") (by decide) ⟨_, ho, rfl⟩ (fun s' => typeIs_int s' _ tk) noFill_tuple_mul F.fills_int_mul F.slot_int_rmul repeat_tuple F.slot_int_index.lookup (call_meets F.slot_int_rmul (typeIs_int s _ tk) F.entry_int_rmul (F.args_int_rmul_2 _ _) (int_rmul_tuple _ tk l its.toArray n dd sl) ⟨ho, rfl, ⟨_, ho, rfl⟩, call_meets F.slot_tuple_mul ⟨_, ho, rfl⟩ F.entry_tuple_mul (F.args_tuple_mul_2 _ _) (once_ l its.toArray n dd sl tk) ⟨ho, ⟨.ref l, _, I, rfl, q1 rfl⟩⟩⟩)
end Vk
/-! What nearly every law of the table wants: the state of the draws, rows of numbers, short data. -/
namespace Vk
open PySem PySem.Spec PyProof.Rows L2
def mkv (L sd : Int) (c : Addr) (sp : Int) : List (Key × V) := [(.inr "left", .int L), (.inr "seed", .int sd), (.inr "cells", .ref c), (.inr "spot", .int sp)]
theorem val_left {L sd sp : Int} {c : Addr} : valV (mkv L sd c sp) (.inr "left") = some (.int L) := by rfl
theorem val_seed {L sd sp : Int} {c : Addr} : valV (mkv L sd c sp) (.inr "seed") = some (.int sd) := by rfl
theorem val_cells {L sd sp : Int} {c : Addr} : valV (mkv L sd c sp) (.inr "cells") = some (.ref c) := by rfl
theorem val_spot {L sd sp : Int} {c : Addr} : valV (mkv L sd c sp) (.inr "spot") = some (.int sp) := by rfl
theorem put_left {L sd sp i : Int} {c : Addr} : putK (mkv L sd c sp) (.inr "left") (.int i) = mkv i sd c sp := by rfl
theorem put_spot {L sd sp i : Int} {c : Addr} : putK (mkv L sd c sp) (.inr "spot") (.int i) = mkv L sd c i := by rfl
theorem get_m {H : Hp} {m : Addr} {kvs : List (Key × V)} {x : Str} {v : V} (hm : H m = some (.dK kvs)) (h : valV kvs (.inr x) = some v) : DGet H m (.str x) (some v) := by
  have q := DGet.k (k := Sum.inr x) hm
  rw [h] at q
  exact q
theorem put_m {H : Hp} {m : Addr} {L sd sp : Int} {c : Addr} {kvs : List (Key × V)} {x : Str} {v : V} (hm : H m = some (.dK (mkv L sd c sp))) (h : putK (mkv L sd c sp) (.inr x) v = kvs) : DPut H m (.str x) v (upd H m (.dK kvs)) := by
  have q := DPut.k (k := Sum.inr x) (v := v) hm (small1000 (show 4 ≤ 1000 by decide))
  rw [h] at q
  exact q
/-- the state of the draws stands at m; at most n draws were made -/
def MOk (H : Hp) (m c : Addr) (n : Nat) : Prop := ∃ (L sd sp : Int) (cells : List Int), H m = some (.dK (mkv L sd c sp)) ∧ H c = some (.lst (cells.map V.int)) ∧ 0 < cells.length ∧ 0 ≤ sp ∧ sp ≤ n
theorem MOk.but {H H' : Hp} {m c q : Addr} {n : Nat} (h : MOk H m c n) (hq : q ≠ m) (hl : ∀ xs, H q ≠ some (.lst xs)) (s : SameBut q H H') : MOk H' m c n := by
  obtain ⟨L, sd, sp, cells, h1, h2, h3⟩ := h
  refine ⟨L, sd, sp, cells, s _ _ (Ne.symm hq) h1, s _ _ (fun z => hl _ (by rw [← z]; exact h2)) h2, h3⟩
theorem MOk.same {H H' : Hp} {m c : Addr} {n : Nat} (h : MOk H m c n) (s : Same H H') : MOk H' m c n := by
  obtain ⟨L, sd, sp, cells, h1, h2, h3⟩ := h
  exact ⟨L, sd, sp, cells, s _ _ h1, s _ _ h2, h3⟩
def spDraw : Sp := fun vs H Q _ => ∃ (m c : Addr) (n : Nat) (b : Int), vs = [.ref m, .int b] ∧ MOk H m c n ∧ n ≤ 100000 ∧ 0 < b ∧ b.natAbs < 2 ^ 200 ∧
  ∀ H' v, SameBut m H H' → MOk H' m c (n + 1) → 0 ≤ v → v < b → Q (.int v) H'
def spBegun (K : PySem.W.Frag) : Sp := fun vs H Q _ => ∃ (a : Addr) (k : Int) (ns : List Int), vs = [.ref a, .int k] ∧ SqL K H a (ns.map V.int) ∧ ns.length ≤ 63 ∧ 0 ≤ k ∧ k ≤ 100 ∧
  ∀ H' p r, Same H H' → H p = none → MOk H' p r 0 → Q (.ref p) H'
/-- |a| < 2 ^ n -/
def SmZ (n : Nat) (a : Int) : Prop := a.natAbs < 2 ^ n
def dot (xs ys : List Int) : Int := (List.zipWith (· * ·) xs ys).sum
/-- rows of few and small numbers -/
def Row (H : Hp) (a : Addr) (xs : List Int) : Prop := Tp H a (xs.map V.int) ∧ xs.length ≤ 100 ∧ ∀ x ∈ xs, SmZ 300 x
theorem Row.same {H H' : Hp} {a : Addr} {xs : List Int} (h : Row H a xs) (s : Same H H') : Row H' a xs := ⟨h.1.same s, h.2⟩
theorem small {n : Nat} (h : n ≤ 100) : n < sizeLine := Nat.lt_of_le_of_lt h (by decide)
theorem zipW_get {α : Type} {f : Int → Int → α} {xs ys : List Int} {i : Nat} {y : α} (h : (List.zipWith f xs ys)[i]? = some y) : ∃ a b, xs[i]? = some a ∧ ys[i]? = some b ∧ y = f a b := by
  rw [List.getElem?_zipWith] at h
  cases h1 : xs[i]? with
  | none => rw [h1] at h; cases h
  | some a =>
    cases h2 : ys[i]? with
    | none => rw [h1, h2] at h; cases h
    | some b => rw [h1, h2] at h; exact ⟨a, b, rfl, rfl, (Option.some.inj h).symm⟩
theorem map_get {α β : Type} {f : α → β} {xs : List α} {i : Nat} {y : β} (h : (xs.map f)[i]? = some y) : ∃ a, xs[i]? = some a ∧ y = f a := by
  rw [List.getElem?_map] at h
  cases h1 : xs[i]? with
  | none => rw [h1] at h; cases h
  | some a => rw [h1] at h; exact ⟨a, rfl, (Option.some.inj h).symm⟩
theorem wide {a b : Int} (h1 : SmZ 300 a) (h2 : SmZ 300 b) : a.natAbs.log2 + b.natAbs.log2 < 700 := by
  have := PySem.Flt.log2_lt_of (by decide) h1
  have := PySem.Flt.log2_lt_of (by decide) h2
  omega
/-- several rows of n numbers -/
def Rws (H : Hp) (ps : List Addr) (rows : List (List Int)) (n : Nat) : Prop := ps.length = rows.length ∧ ∀ (i : Nat) (p : Addr) (r : List Int), ps[i]? = some p → rows[i]? = some r → Row H p r ∧ r.length = n
theorem Rws.same {H H' : Hp} {ps : List Addr} {rows : List (List Int)} {n : Nat} (h : Rws H ps rows n) (s : Same H H') : Rws H' ps rows n := ⟨h.1, fun i p r h1 h2 => ⟨(h.2 i p r h1 h2).1.same s, (h.2 i p r h1 h2).2⟩⟩
theorem ix_tupK {X : Cx} {K : PySem.W.Frag} (h : X.K = K) : IxR X (rIxT K) := by
  subst h
  exact ix_tup
theorem atI_at {xs : List V} {j : Int} {i : Nat} {v : V} (e : j = ((i : Nat) : Int)) (h : xs[i]? = some v) : atI xs j = some v := by
  rw [e]
  exact atI_nat h
theorem get_map {α β : Type} {f : α → β} {xs : List α} {i : Nat} {x : α} (h : xs[i]? = some x) : (xs.map f)[i]? = some (f x) := by
  rw [List.getElem?_map, h]
  rfl
theorem Row.but {m a : Addr} {H H' : Hp} {xs : List Int} {kvs : List (Key × V)} (h : Row H a xs) (hm : H m = some (.dK kvs)) (s : SameBut m H H') : Row H' a xs := ⟨h.1.but hm s, h.2⟩
theorem Rws.but {m : Addr} {H H' : Hp} {ps : List Addr} {rows : List (List Int)} {n : Nat} {kvs : List (Key × V)} (h : Rws H ps rows n) (hm : H m = some (.dK kvs)) (s : SameBut m H H') : Rws H' ps rows n :=
  ⟨h.1, fun i p r h1 h2 => ⟨(h.2 i p r h1 h2).1.but hm s, (h.2 i p r h1 h2).2⟩⟩
theorem sb_put {m D : Addr} {H1 H4 : Hp} {o : HO} (nD : H1 D = none) (s : SameBut m H1 H4) : SameBut m H1 (upd H4 D o) := fun b u hb e => by
  rw [upd_ne (ne_of_none e nD)]
  exact s _ _ hb e
theorem MOk.m_some {H : Hp} {m c : Addr} {n : Nat} (h : MOk H m c n) : ∃ kvs, H m = some (.dK kvs) := by
  obtain ⟨L, sd, sp, cells, h1, _⟩ := h
  exact ⟨_, h1⟩
theorem MOk.c_some {H : Hp} {m c : Addr} {n : Nat} (h : MOk H m c n) : ∃ xs, H c = some (.lst xs) := by
  obtain ⟨L, sd, sp, cells, _, h2, _⟩ := h
  exact ⟨_, h2⟩
theorem MOk.mono {H : Hp} {m c : Addr} {n n' : Nat} (h : MOk H m c n) (l : n ≤ n') : MOk H m c n' := by
  obtain ⟨L, sd, sp, cells, h1, h2, h3, h4, h5⟩ := h
  exact ⟨L, sd, sp, cells, h1, h2, h3, h4, by omega⟩
theorem MOk.put {H : Hp} {m c D : Addr} {n : Nat} {o : HO} (h : MOk H m c n) (dm : D ≠ m) (dc : D ≠ c) : MOk (upd H D o) m c n := by
  obtain ⟨L, sd, sp, cells, h1, h2, h3, h4, h5⟩ := h
  exact ⟨L, sd, sp, cells, by rw [upd_ne (Ne.symm dm)]; exact h1, by rw [upd_ne (Ne.symm dc)]; exact h2, h3, h4, h5⟩
theorem smz_of {a b : Int} {n : Nat} (h0 : -b ≤ a) (h1 : a ≤ b) (hb : b.natAbs < 2 ^ n) : SmZ n a := by
  unfold SmZ
  have : a.natAbs ≤ b.natAbs := by omega
  omega
theorem smz_mono {a : Int} {n m : Nat} (h : SmZ n a) (l : n ≤ m) : SmZ m a := Nat.lt_of_lt_of_le h (Nat.pow_le_pow_right (by decide) l)
theorem smz_mul {a b : Int} {n m : Nat} (h1 : SmZ n a) (h2 : SmZ m b) : SmZ (n + m) (a * b) := by
  unfold SmZ at *
  rw [Int.natAbs_mul, Nat.pow_add]
  exact Nat.mul_lt_mul'' h1 h2
theorem ix_listK {X : Cx} {K : PySem.W.Frag} (h : X.K = K) : IxR X (rIxL K) := by
  subst h
  exact ix_list
theorem getD_at {xs : List Int} {i : Nat} (hi : i < xs.length) : xs[i]? = some (xs.getD i 0) := by
  rw [List.getD_eq_getElem?_getD, List.getElem?_eq_getElem hi]
  rfl
/-- a run over any walk, whatever a turn's form -/
theorem walk_run {J : It} {n : Nat} {G : Hp → Prop} {Y : Nat → Hp → V → Hp → Prop} (w : Walk J n G Y) (B : (Hp → Prop) → V → Hp → Prop) (Pv : Nat → Hp → Prop) {H0 : Hp} {Z : Hp → Prop} (h0 : Pv 0 H0) (hG : ∀ i H, i ≤ n → Pv i H → G H)
    (hs : ∀ i x H H', i < n → Pv i H → Y i H x H' → B (Pv (i + 1)) x H') (hd : ∀ H, Pv n H → Z H) :
    ∃ W : Nat → Nat → Hp → Prop, (∃ m, W 0 m H0) ∧ ∀ i m H, W i m H → (J.stop i H ∧ Z H) ∨ (J.go i H ∧ ∃ Nx : Hp → Prop, (∀ H', Nx H' → ∃ m', m' < m ∧ W (i + 1) m' H') ∧ ∀ x H', J.yld i H x H' → B Nx x H') := by
  refine ⟨fun i m H => m = n - i ∧ i ≤ n ∧ Pv i H, ⟨n - 0, rfl, Nat.zero_le _, h0⟩, ?_⟩
  rintro i m H ⟨rfl, hi, p⟩
  by_cases lt : i < n
  · exact .inr ⟨w.goes i H lt (hG i H hi p), Pv (i + 1), fun H' p' => ⟨n - (i + 1), by omega, rfl, lt, p'⟩, fun x H' y => hs i x H H' lt p (w.yields i H x H' lt (hG i H hi p) y)⟩
  · obtain rfl : i = n := by omega
    exact .inl ⟨w.stops H (hG _ H hi p), hd H p⟩
/-- several tuples of numbers -/
def Rw (H : Hp) (ps : List Addr) (ss : List (List Int)) : Prop := ps.length = ss.length ∧ ∀ (i : Nat) (p : Addr) (r : List Int), ps[i]? = some p → ss[i]? = some r → Tp H p (r.map V.int)
theorem Rw.same {H H' : Hp} {ps : List Addr} {ss : List (List Int)} (h : Rw H ps ss) (s : Same H H') : Rw H' ps ss := ⟨h.1, fun i p r h1 h2 => (h.2 i p r h1 h2).same s⟩
theorem Rw.snoc {H : Hp} {ps : List Addr} {ss : List (List Int)} {p : Addr} {r : List Int} (h : Rw H ps ss) (hp : Tp H p (r.map V.int)) : Rw H (ps ++ [p]) (ss ++ [r]) := by
  refine ⟨by rw [List.length_append, List.length_append, h.1]; rfl, fun j a z h1 h2 => ?_⟩
  by_cases hj : j < ps.length
  · rw [List.getElem?_append_left hj] at h1
    rw [List.getElem?_append_left (by rw [← h.1]; exact hj)] at h2
    exact h.2 j a z h1 h2
  · rw [List.getElem?_append_right (by omega)] at h1
    rw [List.getElem?_append_right (by rw [← h.1]; omega)] at h2
    have j0 : j - ps.length = 0 := by
      have := (List.getElem?_eq_some_iff.mp h1).1
      simp only [List.length_cons, List.length_nil] at this
      omega
    rw [j0] at h1
    rw [← h.1, j0] at h2
    obtain rfl : p = a := Option.some.inj h1
    obtain rfl : r = z := Option.some.inj h2
    exact hp
theorem eqv_rows (xs ys : List Int) : PyData.eqv (.tuple (xs.map PyData.int)) (.tuple (ys.map PyData.int)) = decide (xs = ys) := by
  rw [show PyData.eqv (.tuple (xs.map PyData.int)) (.tuple (ys.map PyData.int)) = PyData.eqvAll (xs.map PyData.int) (ys.map PyData.int) by simp only [PyData.eqv]]
  exact PySem.W.ked_eqvAll xs ys
theorem shaped_row (ns : List Int) : SeqAt.shaped (.tuple (ns.map PyData.int)) = true := by
  obtain ⟨h1, h2⟩ := lay_ints ns
  simp [SeqAt.shaped, PyData.canLay0, PyData.depth, h1, h2]
theorem pa_starK {X : Cx} {K : PySem.W.Frag} {e : Expr} {es : List Expr} {te : TE} {t : TA} {p : Pos} (h : X.K = K) (he : PE X e te) (hr : PA X es t) (hs : starEach (.Starred e p :: es) X.env = (true, eval e X.env) :: starEach es X.env := by rfl) : PA X (.Starred e p :: es) (StX.tStar K te t) := by
  subst h
  exact StX.pa_star he hr hs
theorem op_neDK {X : Cx} {K : PySem.W.Frag} (h : X.K = K) (hu : X.A.units + 64 < cLine) : OpR X (compareOp .NotEq) (rNeD K) := by
  subst h
  exact op_neD hu
theorem big {n : Nat} (h : n ≤ 40000) : n < sizeLine := Nat.lt_of_le_of_lt h (by decide)
theorem tp_put {H : Hp} {p D : Addr} {xs l : List V} {o : HO} (h : Tp H p xs) (d : H D = some (.lst l)) : Tp (upd H D o) p xs := by
  have ne : p ≠ D := by
    rintro rfl
    have h : H p = some (.tup xs) := h
    rw [h] at d
    cases d
  show upd H D o p = some (.tup xs)
  rw [upd_ne ne]
  exact h
theorem Rw.put {H : Hp} {D : Addr} {l : List V} {o : HO} {ps : List Addr} {ss : List (List Int)} (h : Rw H ps ss) (d : H D = some (.lst l)) : Rw (upd H D o) ps ss := ⟨h.1, fun i p r h1 h2 => tp_put (h.2 i p r h1 h2) d⟩
theorem op_tmsK {X : Cx} {K : PySem.W.Frag} (h : X.K = K) : OpR X (binaryOp .Mult) (rTms K) := op_tms h
theorem tms_tp {K : PySem.W.Frag} {H : Hp} {a : Addr} {xs : List V} {k : Nat} {z : Int} {Q : VK} (ez : z = ((k : Nat) : Int)) (ha : Tp H a xs) (ne : xs ≠ []) (hk : k ≤ 1000) (hx : xs.length ≤ 1000) (q : ∀ r H', Same H H' → Tp H' r (List.replicate k xs).flatten → Q (.ref r) H') : rTms K (.ref a) (.int z) H Q := by
  subst ez
  refine ⟨a, k, xs, rfl, rfl, ha.t, ne, hk, hx, fun e => ?_, fun _ p np => q p _ (same_new np) upd_same⟩
  subst e
  refine q a H (Same.refl _) ?_
  rw [List.replicate_one, List.flatten_singleton]
  exact ha
def spSigned : Sp := fun vs H Q _ => ∃ (m c : Addr) (q : Nat) (b : Int), vs = [.ref m, .int b] ∧ MOk H m c q ∧ q ≤ 50000 ∧ 0 ≤ b ∧ b ≤ 1000 ∧ ∀ H' v, SameBut m H H' → MOk H' m c (q + 2) → -b ≤ v → v ≤ b → Q (.int v) H'
/-- two values of the same data -/
def spLike (K : PySem.W.Frag) : Sp := fun vs H Q _ => ∃ x y d, vs = [x, y] ∧ Dp K H x d ∧ Dp K H y d ∧ Fit d ∧ Q (.bl true) H
theorem iteF' {c : Bool} {A B : Prop} (hc : c = false) (h : B) : if c = true then A else B := by
  subst hc
  exact iteF h
theorem dot_abs (A M : Nat) : ∀ (xs ys : List Int), (∀ x ∈ xs, x.natAbs ≤ A) → (∀ y ∈ ys, y.natAbs ≤ M) → (dot xs ys).natAbs ≤ ys.length * (A * M)
  | [], _, _, _ => by
    show (0 : Int).natAbs ≤ _
    exact Nat.zero_le _
  | x :: xs, [], _, _ => by
    show (0 : Int).natAbs ≤ _
    exact Nat.zero_le _
  | x :: xs, y :: ys, hx, hy => by
    have ih := dot_abs A M xs ys (fun a h => hx a (List.mem_cons_of_mem _ h)) (fun a h => hy a (List.mem_cons_of_mem _ h))
    have e : dot (x :: xs) (y :: ys) = x * y + dot xs ys := by
      unfold dot
      rw [List.zipWith_cons_cons, List.sum_cons]
    rw [e, List.length_cons, Nat.succ_mul]
    have h1 : (x * y).natAbs ≤ A * M := by
      rw [Int.natAbs_mul]
      exact Nat.mul_le_mul (hx x (List.mem_cons_self ..)) (hy y (List.mem_cons_self ..))
    have h2 := Int.natAbs_add_le (x * y) (dot xs ys)
    omega
theorem fdiv_abs {a d : Int} (hd : 0 < d) : (a.fdiv d).natAbs ≤ a.natAbs := by
  rw [Int.fdiv_eq_ediv_of_nonneg _ (Int.le_of_lt hd)]
  exact Int.natAbs_ediv_le_natAbs a d
theorem fit_all {k a : Nat} : ∀ (L : Nat) (ds : List PyData), (∀ d ∈ ds, FitN k a d) → ds.length ≤ L → FitLN k ((a + 1) * L) ds
  | _, [], _, _ => .nil
  | 0, d :: ds, _, h => by cases h
  | L + 1, d :: ds, hd, h => by
    refine .cons (hd d (List.mem_cons_self ..)) (fit_all L ds (fun x hx => hd x (List.mem_cons_of_mem _ hx)) (by rw [List.length_cons] at h; omega)) ?_
    rw [Nat.mul_succ]
    omega
theorem fit_ints {k : Nat} (L : Nat) (xs : List Int) (h : ∀ x ∈ xs, SmZ 300 x) (hl : xs.length ≤ L) : FitN (k + 1) L (.tuple (xs.map PyData.int)) := by
  have q := fit_all (k := k) (a := 0) L (xs.map PyData.int) (fun d hd => by
    obtain ⟨x, hx, rfl⟩ := List.mem_map.mp hd
    exact FitN.int (Nat.lt_of_lt_of_le (h x hx) (Nat.pow_le_pow_right (by decide) (by decide)))) (by rw [List.length_map]; exact hl)
  rw [Nat.zero_add, Nat.one_mul] at q
  exact .tup q
/-- the data of a row, of a table, of a grid -/
def dRow (r : List Int) : PyData := .tuple (r.map PyData.int)
theorem dp_row {K : PySem.W.Frag} {H : Hp} {p : Addr} {r : List Int} (h : Tp H p (r.map V.int)) : Dp K H (.ref p) (dRow r) := .tup h.t (dp_ints r)
theorem dp_all {K : PySem.W.Frag} {H : Hp} : ∀ (qs : List Addr) (ds : List PyData), qs.length = ds.length → (∀ (i : Nat) (q : Addr) (d : PyData), qs[i]? = some q → ds[i]? = some d → Dp K H (.ref q) d) → DpAll K H (qs.map V.ref) ds
  | [], [], _, _ => .nil
  | [], _ :: _, h, _ => by cases h
  | _ :: _, [], h, _ => by cases h
  | q :: qs, d :: ds, h, k => .cons (k 0 q d rfl rfl) (dp_all qs ds (Nat.succ.inj h) fun i a b h1 h2 => k (i + 1) a b h1 h2)
instance (n : Nat) (a : Int) : Decidable (SmZ n a) := Nat.decLt _ _
theorem MOk.ext {H H' : Hp} {m r : Addr} {n : Nat} (h : MOk H m r n) (e : LamX.ExtN H H') : MOk H' m r n := by
  obtain ⟨L, sd, sp, cells, h1, h2, h3⟩ := h
  exact ⟨L, sd, sp, cells, e _ _ h1 (fun ps z => by cases z), e _ _ h2 (fun ps z => by cases z), h3⟩
theorem sql_ext {K : PySem.W.Frag} {H H' : Hp} {a : Addr} {xs : List V} (h : SqL K H a xs) (e : LamX.ExtN H H') : SqL K H' a xs := by
  rcases h with (h | ⟨o, h⟩) | h
  · exact .inl (.inl (e _ _ h fun ps z => by cases z))
  · exact .inl (.inr ⟨o, e _ _ h fun ps z => by cases z⟩)
  · exact .inr h
theorem ext_but {H H1 H2 : Hp} {m : Addr} (hm : H m = none) (a : LamX.ExtN H H1) (b : SameBut m H1 H2) : LamX.ExtN H H2 := fun c o h n => b c o (ne_of_none h hm) (a c o h n)
theorem tabs_but {T : List (Addr × Str)} {H H' : Hp} {m : Addr} {kvs : List (Key × V)} (hT : LamX.Tabs T H) (hm : H m = some (.dK kvs)) (s : SameBut m H H') : LamX.Tabs T H' := fun p hp => by
  obtain ⟨ps, h1, h2, h3⟩ := hT p hp
  refine ⟨ps, s _ _ (ne_of h1 hm (by intro z; cases z)) h1, h2, fun pos cv hc => ?_⟩
  obtain ⟨c, e1, e2⟩ := h3 pos cv hc
  exact ⟨c, e1, s _ _ (ne_of e2 hm (by intro z; unfold LamX.CodeO at z; cases z)) e2⟩
theorem ext_same {H H1 H2 : Hp} (a : LamX.ExtN H H1) (b : Same H1 H2) : LamX.ExtN H H2 := a.trans (LamX.ExtN.of b)
theorem Tp.ext {H H' : Hp} {a : Addr} {xs : List V} (h : Tp H a xs) (e : LamX.ExtN H H') : Tp H' a xs := e _ _ h fun ps z => by cases z
theorem cons_ {te : TE} {t : TA} {σ : L2.St} {H : Hp} {R : List V → Hp → Prop} (h : te σ H fun x H1 => t σ H1 fun xs H2 => R (x :: xs) H2) : tCons te t σ H R := h
def tInts : List Int → TA
  | [] => tNil
  | x :: r => tCons (tC (.int x)) (tInts r)
def tRows : List (List Int) → TA
  | [] => tNil
  | x :: r => tCons (tTup (tInts x)) (tRows r)
theorem ints_ {σ : L2.St} {H : Hp} : ∀ (xs : List Int) {R : List V → Hp → Prop}, R (xs.map V.int) H → tInts xs σ H R
  | [], _, h => h
  | x :: r, R, h => ints_ r (R := fun vs H' => R (.int x :: vs) H') h
theorem row_ {σ : L2.St} {H : Hp} (xs : List Int) (hl : xs.length ≤ 100) {Q : VK} (h : ∀ p H', Same H H' → Tp H' p (xs.map V.int) → Q (.ref p) H') : tTup (tInts xs) σ H Q :=
  ints_ xs ⟨by rw [List.length_map]; exact Nat.le_of_lt (small hl), fun p np => h p _ (same_new np) upd_same⟩
theorem rows_ {n : Nat} {σ : L2.St} : ∀ (rs : List (List Int)) {H : Hp} {R : List V → Hp → Prop}, (∀ r ∈ rs, r.length = n ∧ n ≤ 100 ∧ ∀ x ∈ r, SmZ 300 x) → (∀ ps H', Same H H' → Rws H' ps rs n → R (ps.map V.ref) H') → tRows rs σ H R
  | [], H, R, _, h => h [] H (Same.refl _) ⟨rfl, fun i p r e _ => by cases e⟩
  | x :: rs, H, R, hx, h => by
    obtain ⟨l, ln, z⟩ := hx x (List.mem_cons_self ..)
    show tTup (tInts x) σ H fun v H1 => tRows rs σ H1 fun xs H2 => R (v :: xs) H2
    refine row_ x (by omega) fun p H1 s1 g1 => ?_
    refine rows_ rs (fun r hr => hx r (List.mem_cons_of_mem _ hr)) fun ps H2 s2 w2 => ?_
    refine h (p :: ps) H2 (s1.trans s2) ⟨by rw [List.length_cons, List.length_cons, w2.1], fun i q r e1 e2 => ?_⟩
    cases i with
    | zero =>
      obtain rfl : p = q := Option.some.inj e1
      obtain rfl : x = r := Option.some.inj e2
      exact ⟨⟨g1.same s2, by omega, z⟩, l⟩
    | succ i => exact w2.2 i q r e1 e2
theorem smz_le {x b : Int} (h0 : 0 ≤ x) (h1 : x ≤ b) (hb : b.natAbs < 2 ^ 300) : SmZ 300 x := smz_of (b := b) (by omega) h1 hb
def spOf : Sp := fun vs H Q _ => ∃ (m c L : Addr) (n : Nat) (xs : List V), vs = [.ref m, .ref L] ∧ MOk H m c n ∧ n ≤ 100000 ∧ H L = some (.lst xs) ∧ 0 < xs.length ∧ xs.length ≤ 100 ∧ ∀ H' v, SameBut m H H' → MOk H' m c (n + 1) → v ∈ xs → Q v H'
theorem Row.tail {H : Hp} {a : Addr} {x : Int} {xs : List Int} (h : Row H a (x :: xs)) : xs.length ≤ 100 ∧ ∀ y ∈ xs, SmZ 300 y := ⟨Nat.le_trans (Nat.le_succ _) h.2.1, fun y hy => h.2.2 y (List.mem_cons_of_mem _ hy)⟩
theorem smz_log {a : Int} {n : Nat} (hn : 0 < n) (h : SmZ n a) : a.natAbs.log2 < n := PySem.Flt.log2_lt_of hn h
def spIsn : Sp := fun vs H Q _ => ∃ x t, vs = [x] ∧ Oky H x t ∧ Q (.bl (isInt x)) H
def tupOk (n : Nat) (xs : List V) : Bool := decide (xs.length = n) && xs.all isInt
/-- a value of any kind is judged: an entry of a tuple, too -/
def spAren : Sp := fun vs H Q _ => ∃ (x : V) (n : Nat), vs = [x, .int n] ∧ ((∃ t, Oky H x t ∧ t ≠ "tuple" ∧ Q (.bl false) H) ∨ ∃ a xs, x = .ref a ∧ Tp H a xs ∧ xs.length ≤ 100 ∧ (∀ e ∈ xs, ∃ t, Oky H e t) ∧ ∀ H', Same H H' → Q (.bl (tupOk n xs)) H')
def spPsum : Sp := fun vs H Q _ => ∃ (a b : Addr) (xs ys : List Int), vs = [.ref a, .ref b] ∧ Row H a xs ∧ Row H b ys ∧ xs.length = ys.length ∧ ∀ H', Same H H' → Q (.int (dot xs ys)) H'
def spFval : Sp := fun vs H Q _ => ∃ (a b : Addr) (c : Int) (xs ys : List Int), vs = [.ref a, .ref b] ∧ Row H a (c :: xs) ∧ Row H b ys ∧ xs.length = ys.length ∧ ∀ H', Same H H' → Q (.int (c + dot xs ys)) H'
def spFsum : Sp := fun vs H Q _ => ∃ (a b : Addr) (xs ys : List Int), vs = [.ref a, .ref b] ∧ Row H a xs ∧ Row H b ys ∧ xs.length = ys.length ∧ ∀ r H', Same H H' → Tp H' r ((List.zipWith (· + ·) xs ys).map V.int) → Q (.ref r) H'
def spFtimes : Sp := fun vs H Q _ => ∃ (a : Addr) (n : Int) (xs : List Int), vs = [.ref a, .int n] ∧ Row H a xs ∧ SmZ 300 n ∧ ∀ r H', Same H H' → Tp H' r ((xs.map (n * ·)).map V.int) → Q (.ref r) H'
def spGcd : Sp := fun vs H Q _ => ∃ a c : Int, vs = [.int a, .int c] ∧ Q (.int (Int.gcd a c)) H
def sg (n : Int) : Int := (if 0 < n then 1 else 0) - (if n < 0 then 1 else 0)
def spSign : Sp := fun vs H Q _ => ∃ n : Int, vs = [.int n] ∧ Q (.int (sg n)) H
/-- a value of some kind, not the drawn dict -/
def Ky (m : Addr) (H : Hp) (x : V) : Prop := x ≠ .ref m ∧ ∃ t, Oky H x t
/-- a value that is judged -/
def Kn (m : Addr) (H : Hp) (x : V) : Prop := x ≠ .ref m ∧ ((∃ t, Oky H x t ∧ t ≠ "tuple") ∨ ∃ a xs, x = .ref a ∧ Tp H a xs ∧ xs.length ≤ 100 ∧ ∀ e ∈ xs, Ky m H e)
theorem Ky.but {m : Addr} {H H' : Hp} {x : V} (h : Ky m H x) (s : SameBut m H H') : Ky m H' x := by
  obtain ⟨n, t, h⟩ := h
  refine ⟨n, t, ?_⟩
  cases h with
  | non => exact .non
  | bl b => exact .bl b
  | int i => exact .int i
  | str x => exact .str x
  | lst e => exact .lst (s _ _ (fun z => n (by rw [z])) e)
  | tup e => exact .tup (s _ _ (fun z => n (by rw [z])) e)
  | dK e => exact .dK (s _ _ (fun z => n (by rw [z])) e)
theorem Kn.but {m : Addr} {H H' : Hp} {x : V} (h : Kn m H x) (s : SameBut m H H') : Kn m H' x := by
  obtain ⟨n, ⟨t, h, ht⟩ | ⟨a, xs, rfl, ha, hl, hes⟩⟩ := h
  · refine ⟨n, .inl ⟨t, ?_, ht⟩⟩
    cases h with
    | non => exact .non
    | bl b => exact .bl b
    | int i => exact .int i
    | str x => exact .str x
    | lst e => exact .lst (s _ _ (fun z => n (by rw [z])) e)
    | tup e => exact absurd rfl ht
    | dK e => exact .dK (s _ _ (fun z => n (by rw [z])) e)
  · exact ⟨n, .inr ⟨a, xs, rfl, s _ _ (fun z => n (by rw [z])) ha, hl, fun e he => (hes e he).but s⟩⟩
theorem Ky.int {m : Addr} {H : Hp} (i : Int) : Ky m H (.int i) := ⟨(fun z => by cases z), _, .int i⟩
theorem ky_row {m : Addr} {H : Hp} {xs : List Int} : ∀ e ∈ xs.map V.int, Ky m H e := fun e he => by
  obtain ⟨i, _, rfl⟩ := List.mem_map.mp he
  exact Ky.int i
theorem Kn.tp {m a : Addr} {H : Hp} {xs : List V} (hm : ∃ kvs, H m = some (.dK kvs)) (ha : Tp H a xs) (hl : xs.length ≤ 100) (h : ∀ e ∈ xs, Ky m H e) : Kn m H (.ref a) := by
  obtain ⟨kvs, hm⟩ := hm
  exact ⟨fun z => ne_of ha hm (by intro w; cases w) (V.ref.inj z), .inr ⟨a, xs, rfl, ha, hl, h⟩⟩
theorem Kn.lst {m a : Addr} {H : Hp} {xs : List V} (hm : ∃ kvs, H m = some (.dK kvs)) (ha : H a = some (.lst xs)) : Kn m H (.ref a) := by
  obtain ⟨kvs, hm⟩ := hm
  exact ⟨fun z => ne_of ha hm (by intro w; cases w) (V.ref.inj z), .inl ⟨_, .lst ha, by decide⟩⟩
theorem Ky.tp {m a : Addr} {H : Hp} {xs : List V} (hm : ∃ kvs, H m = some (.dK kvs)) (ha : Tp H a xs) : Ky m H (.ref a) := by
  obtain ⟨kvs, hm⟩ := hm
  exact ⟨fun z => ne_of ha hm (by intro w; cases w) (V.ref.inj z), _, .tup ha⟩
theorem Ky.lst {m a : Addr} {H : Hp} {xs : List V} (hm : ∃ kvs, H m = some (.dK kvs)) (ha : H a = some (.lst xs)) : Ky m H (.ref a) := by
  obtain ⟨kvs, hm⟩ := hm
  exact ⟨fun z => ne_of ha hm (by intro w; cases w) (V.ref.inj z), _, .lst ha⟩
theorem cut_mem {xs : List V} {lo hi : Option Int} {e : V} (h : e ∈ cutV xs lo hi) : e ∈ xs := by
  unfold cutV at h
  exact List.mem_of_mem_drop (List.mem_of_mem_take h)
theorem cut_len {xs : List V} {lo hi : Option Int} : (cutV xs lo hi).length ≤ xs.length := by
  unfold cutV
  rw [List.length_take, List.length_drop]
  omega
theorem sm_but {m : Addr} {H0 H H' : Hp} (nm : H0 m = none) (s : Same H0 H) (b : SameBut m H H') : Same H0 H' := fun a o e => b a o (ne_of_none e nm) (s a o e)
theorem sql_same {K : PySem.W.Frag} {H H' : Hp} {a : Addr} {xs : List V} (h : SqL K H a xs) (s : Same H H') : SqL K H' a xs := s.seq h
theorem nat_of {v : Int} (h : 0 ≤ v) : ∃ n : Nat, v = n := ⟨v.toNat, by omega⟩
/-- a comprehension of drawn numbers, w draws for each -/
theorem lc_dr {n w : Nat} {g : TG} {te : TE} {vs : List Nat} {σ : L2.St} {H1 : Hp} {D : Addr} {Qd : Hp → Prop} {m c : Addr} {q : Nat} (R : Nat → Int → Prop) (hz : n < sizeLine) (hM : MOk H1 m c q) (nD : H1 D = none)
    (hs : ∀ (i : Nat) (H : Hp) (Qy : VK), i < n → SameBut m H1 H → MOk H m c (q + w * i) → (∀ H4 v, SameBut m H H4 → MOk H4 m c (q + w * i + w) → R i v → Qy (.int v) H4) → g (.int (0 + i)) (wipe σ vs) H fun σ2 H2 => wipe σ2 vs = wipe σ vs ∧ te σ2 H2 Qy)
    (hd : ∀ H (xs : List Int), SameBut m H1 H → MOk H m c (q + w * n) → H D = some (.lst (xs.map V.int)) → xs.length = n → (∀ (i : Nat) (x : Int), xs[i]? = some x → R i x) → Qd H) :
    ∃ W : Nat → Nat → Hp → Prop, (∃ m, W 0 m (upd H1 D (.lst []))) ∧ ∀ i m H, W i m H →
      ((Itr 0 n).stop i H ∧ Qd H) ∨ ((Itr 0 n).go i H ∧ ∃ Nx : Hp → Prop, (∀ H', Nx H' → ∃ m', m' < m ∧ W (i + 1) m' H') ∧ ∀ x H', (Itr 0 n).yld i H x H' → g x (wipe σ vs) H' fun σ2 H2 => wipe σ2 vs = wipe σ vs ∧ tYes σ2 H2 fun b H3 =>
        if b = true then te σ2 H3 fun y H4 => ∃ acc, H4 D = some (.lst acc) ∧ acc.length < sizeLine ∧ Nx (upd H4 D (.lst (acc ++ [y]))) else Nx H3) := by
  obtain ⟨kvs, hm⟩ := hM.m_some
  obtain ⟨ys, hc⟩ := hM.c_some
  have dm : D ≠ m := Ne.symm (ne_of_none hm nD)
  have dc : D ≠ c := Ne.symm (ne_of_none hc nD)
  refine lc_it (walk_range (lo := 0) (n := n)) (tt := tYes) (fun i H => ∃ xs : List Int, SameBut m H1 H ∧ MOk H m c (q + w * i) ∧ H D = some (.lst (xs.map V.int)) ∧ xs.length = i ∧ ∀ (j : Nat) (x : Int), xs[j]? = some x → R j x) ⟨[], SameBut.of (same_new nD), hM.put dm dc, upd_same, rfl, fun j x hx => by cases hx⟩ (fun _ _ _ _ => True.intro) ?_ ?_
  · rintro i x H H' hi ⟨xs, sb, M, d, l, bd⟩ ⟨rfl, rfl⟩
    refine hs i H' (fun y H4 => ∃ acc, H4 D = some (.lst acc) ∧ acc.length < sizeLine ∧ ∃ xs : List Int, SameBut m H1 (upd H4 D (.lst (acc ++ [y]))) ∧ MOk (upd H4 D (.lst (acc ++ [y]))) m c (q + w * (i + 1)) ∧ upd H4 D (.lst (acc ++ [y])) D = some (.lst (xs.map V.int)) ∧ xs.length = i + 1 ∧ ∀ (j : Nat) (x : Int), xs[j]? = some x → R j x) hi sb M fun H4 v b4 M4 v0 => ?_
    refine ⟨xs.map V.int, b4 _ _ dm d, by rw [List.length_map]; omega, xs ++ [v], sb_put nD (sb.trans b4), (M4.put dm dc).mono (by rw [Nat.mul_succ]; omega), ?_, by rw [List.length_append, l]; rfl, fun j x hx => ?_⟩
    · rw [upd_same, List.map_append]
      rfl
    · by_cases hj : j < xs.length
      · rw [List.getElem?_append_left hj] at hx
        exact bd j x hx
      · have hj2 := (List.getElem?_eq_some_iff.mp hx).1
        rw [List.length_append] at hj2
        have hj3 : j = xs.length := by
          simp only [List.length_cons, List.length_nil] at hj2
          omega
        subst hj3
        rw [List.getElem?_append_right (Nat.le_refl _), Nat.sub_self] at hx
        obtain rfl := Option.some.inj hx
        rw [l]
        exact v0
  · rintro H ⟨xs, sb, M, d, l, bd⟩
    exact hd H xs sb M d l bd
/-- a comprehension with a test, over any walk: the values of the kept places -/
theorem lc_fl {J : It} {n : Nat} {G : Hp → Prop} {Y : Nat → Hp → V → Hp → Prop} (w : Walk J n G Y) {g : TG} {tt : TT} {te : TE} {vs : List Nat} {σ : L2.St} {H1 : Hp} {D : Addr} {Qd : Hp → Prop} (keep : Nat → Bool) (val : Nat → V) (hz : n < sizeLine) (nD : H1 D = none)
    (hG : ∀ H, Same H1 H → G H)
    (hs : ∀ (i : Nat) (x : V) (H H' : Hp) (Qy : VK) (Nx : Hp → Prop), i < n → Same H1 H → Y i H x H' → (keep i = true → ∀ H4, Same H H4 → Qy (val i) H4) → (keep i = false → ∀ H4, Same H H4 → Nx H4) → g x (wipe σ vs) H' fun σ2 H2 => wipe σ2 vs = wipe σ vs ∧ tt σ2 H2 fun b H3 => if b = true then te σ2 H3 Qy else Nx H3)
    (hd : ∀ H, Same H1 H → H D = some (.lst (((List.range n).filter keep).map val)) → Qd H) :
    ∃ W : Nat → Nat → Hp → Prop, (∃ m, W 0 m (upd H1 D (.lst []))) ∧ ∀ i m H, W i m H →
      (J.stop i H ∧ Qd H) ∨ (J.go i H ∧ ∃ Nx : Hp → Prop, (∀ H', Nx H' → ∃ m', m' < m ∧ W (i + 1) m' H') ∧ ∀ x H', J.yld i H x H' → g x (wipe σ vs) H' fun σ2 H2 => wipe σ2 vs = wipe σ vs ∧ tt σ2 H2 fun b H3 =>
        if b = true then te σ2 H3 fun y H4 => ∃ acc, H4 D = some (.lst acc) ∧ acc.length < sizeLine ∧ Nx (upd H4 D (.lst (acc ++ [y]))) else Nx H3) := by
  refine lc_it w (tt := tt) (fun i H => Same H1 H ∧ H D = some (.lst (((List.range i).filter keep).map val))) ⟨same_new nD, by rw [upd_same]; rfl⟩ (fun i H _ p => hG H p.1) ?_ ?_
  · rintro i x H H' hi ⟨s, d⟩ y
    refine hs i x H H' _ _ hi s y (fun hk H4 s4 => ?_) (fun hk H4 s4 => ?_)
    · refine ⟨_, s4 _ _ d, ?_, same_put (s.trans s4) nD, ?_⟩
      · rw [List.length_map]
        have := List.length_filter_le keep (List.range i)
        rw [List.length_range] at this
        omega
      · rw [upd_same, List.range_succ, List.filter_append, List.filter_cons_of_pos hk, List.filter_nil, List.map_append]
        rfl
    · refine ⟨s.trans s4, ?_⟩
      rw [s4 _ _ d, List.range_succ, List.filter_append, List.filter_cons_of_neg (by rw [hk]; decide), List.filter_nil, List.append_nil]
  · rintro H ⟨s, d⟩
    exact hd H s d
theorem lay_rows : ∀ rows : List (List Int), PyData.canLayAll0 (rows.map dRow) = true ∧ PyData.depthAll (rows.map dRow) ≤ 1
  | [] => ⟨by simp [PyData.canLayAll0], by simp [PyData.depthAll]⟩
  | r :: rs => by
    obtain ⟨h1, h2⟩ := lay_rows rs
    obtain ⟨h3, h4⟩ := lay_ints r
    refine ⟨by simp [PyData.canLayAll0, dRow, PyData.canLay0, h1, h3], ?_⟩
    simp only [List.map_cons, PyData.depthAll, dRow, PyData.depth, h4]
    omega
theorem shaped_rows (rows : List (List Int)) : SeqAt.shaped (.list (rows.map dRow)) = true ∧ SeqAt.shaped (.tuple (rows.map dRow)) = true := by
  obtain ⟨h1, h2⟩ := lay_rows rows
  constructor <;> simp [SeqAt.shaped, PyData.canLay0, PyData.depth, h1] <;> omega
theorem iteT' {c : Bool} {A B : Prop} (hc : c = true) (h : A) : if c = true then A else B := by
  subst hc
  exact iteT h
theorem all_of_get {xs : List Int} {R : Int → Prop} (h : ∀ (i : Nat) (x : Int), xs[i]? = some x → R x) : ∀ x ∈ xs, R x := fun x hx => by
  obtain ⟨i, hi⟩ := List.getElem?_of_mem hx
  exact h i x hi
end Vk
/-! An exception that is caught and kept in a local. -/
namespace Vk
open PySem PySem.Spec PyProof.Rows L2
/-- an exception of the class cls, own dict d, that was caught -/
def ExK (cls : Value) (d : Option Addr) (a : Addr) : HO := .ext fun h => ∃ oe : Obj, h.get? a = some oe ∧ Zc cls d oe ∧ ∃ vs, oe.data = .fields vs
section
variable {X : Cx} {pins : List (Addr × Obj)} {σ : L2.St} {H : Hp} {s : Shared}
/-- what is pinned is tracked from now on -/
theorem keep_pinned {a : Addr} {oe : Obj} {cls : Value} {d : Option Addr} (I : Inv X ((a, oe) :: pins) σ H s) (hz : Zc cls d oe) (hf : ∃ vs, oe.data = .fields vs) (n0 : X.s_0.heap.get? a = none) (np : ∀ p ∈ X.pn ++ pins, p.1 ≠ a) :
    Inv X pins σ (upd H a (ExK cls d a)) s := by
  obtain ⟨ga, na, nL, nF, nc⟩ := I.pin (a, oe) (List.mem_append_right _ List.mem_cons_self)
  have ga : s.heap.get? a = some oe := ga
  have na : H a = none := na
  have nC : ∀ x c, X.env.cells.lookup x = some c → c ≠ a := by
    rintro x c e rfl
    obtain ⟨v, o, ho, hd⟩ := I.cell x c e
    obtain rfl := Option.some.inj (ho.symm.trans ga)
    exact nc v hd
  have off : ∀ b, b ≠ a → upd H a (ExK cls d a) b = H b := fun b hb => upd_ne hb
  have some_ne : ∀ b u, H b = some u → b ≠ a := fun b u e z => by
    rw [z, na] at e
    cases e
  refine { ok := I.ok, os := I.os, bare := I.bare, base := ?_, loc := I.loc, cell := I.cell, free := ?_, freeC := ?_, pin := ?_, hok := ?_, len := I.len }
  · have old : ∀ b o, X.s_0.heap.get? b = some o → b ≠ a := fun b o e z => by
      rw [z, n0] at e
      cases e
    refine { keep := I.base.keep, slot := I.base.slot, free := ?_, there := I.base.there, tups := ?_, frzs := ?_, tbls := ?_ }
    · intro b o e n hx
      rw [off b (old b o e)]
      exact I.base.free b o e n hx
    · intro b xs e
      have q := I.base.tups b xs e
      rw [off b (some_ne b _ q)]
      exact q
    · intro b o u e
      have q := I.base.frzs b o u e
      rw [off b (some_ne b _ q)]
      exact q
    · intro b ps e
      obtain ⟨more, q⟩ := I.base.tbls b ps e
      refine ⟨more, ?_⟩
      rw [off b (some_ne b _ q)]
      exact q
  · rw [off _ (Ne.symm nL)]
    exact I.free
  · intro x c e
    rw [off c (nC x c e)]
    exact I.freeC x c e
  · intro p hp
    have hp' : p ∈ X.pn ++ (a, oe) :: pins := by
      rcases List.mem_append.mp hp with z | z
      · exact List.mem_append_left _ z
      · exact List.mem_append_right _ (List.mem_cons_of_mem _ z)
    obtain ⟨e1, e2, e3, e4, e5⟩ := I.pin p hp'
    refine ⟨e1, ?_, e3, e4, e5⟩
    rw [off p.1 (np p hp)]
    exact e2
  · intro b u e
    by_cases hb : b = a
    · subst hb
      rw [upd_same] at e
      obtain rfl := Option.some.inj e
      exact ⟨⟨oe, ga, hz, hf⟩, ⟨oe, ga⟩, fun h1 h2 ⟨o, q1, q2, q3⟩ st => ⟨o, st o q1, q2, q3⟩⟩
    · rw [off b hb] at e
      refine (I.hok b u e).stay (fun c v _ q => q) (fun c q => ?_) (fun c xs q => ?_)
      · rw [off c (some_ne c _ q)]
        exact q
      · rw [off c (some_ne c _ q)]
        exact q
end
/-- the wish of an except clause that keeps what it caught: the exception is known behind it -/
def wKp (K : PySem.W.Frag) (len : Nat) (c : Value) (i : Nat) (ts : Addr → Value → Option Addr → TS) (D : Ends) : WX := fun cls d σ H =>
  PySem.W.exmOne K cls c = some true ∧ (σ.length = len → ∀ a, H a = none →
    ts a cls d { nx := fun σ' H' => D.nx (σ'.set i none) (upd H' a (ExK cls d a)), rt := fun _ _ => False, bk := fun _ _ => False, ct := fun _ _ => False } (σ.set i (some (.ref a))) H)
section
variable {X : Cx} {x n : Str} {c : Value} {i : Nat} {body suite : List Stmt} {b₀ : Stmt} {np pos pos' : Pos} {tb : WX → TS} {ts : Addr → Value → Option Addr → TS}
/-- what is wanted of an exception of the body: the clauses look at it -/
def landing (X : Cx) (hs : List ExceptHandler) (R : Flow → Shared → Prop) : Value → Shared → Prop := fun e s0 =>
  wpAny (model X.prog X.w) X.A (noteFrame e X.env) (fun _ s1 => wpAny (model X.prog X.w) X.A (setFlight e none)
    (fun _ s2 => wpAny (model X.prog X.w) X.A (handleBy e X.env hs) R X.xe s2) X.xe s1) X.xe s0
/-- try: .. except x as n: suite (the suite runs through) -/
theorem ps_try_keep (hs : X.stack = X.env :: X.outer) (hf : X.env.frame = some X.env.locals) (hex : X.ex = []) (hN : X.N.Nodup) (hi : X.N[i]? = some n) (hln : X.env.kindOf n = some .local) (hc : Names X x c)
    (hb : ∀ (W : WX) (pn : List (Addr × Obj)) (xe : Value → Shared → Prop), Takes (X.tr pn xe) W → PassesOwn (model X.prog X.w) X.A X.env xe → PSs (X.tr pn xe) body (tb W))
    (hsu : ∀ (a : Addr) (oe : Obj) (cls : Value) (d : Option Addr) (pn : List (Addr × Obj)), Zc cls d oe → (∃ vs, oe.data = .fields vs) → PSs (X.suite a ((a, oe) :: pn)) (b₀ :: suite) (ts a cls d)) :
    PS X (.Try body [.ExceptHandler (some (.Name x np)) (some n) (b₀ :: suite) pos'] [] [] pos) (fun D σ H => tb (wKp X.K X.N.length c i ts D) D σ H) := by
  refine ⟨fun pins s σ H D I h => wpAny_Try_except ?_⟩
  have ok := I.ok
  have frm : X.A.frames = some (X.env :: X.outer) := by rw [ok.frames, hs]
  have run := (hb (wKp X.K X.N.length c i ts D) (X.pn ++ pins) (landing X [.ExceptHandler (some (.Name x np)) (some n) (b₀ :: suite) pos'] (SP X pins D)) (fun u s' xx => ?_) PassesOwn.looking).run [] s σ H D (I.toTry _) h
  · refine wpAny_mono run (fun fl s1 hsp => ?_) (fun e s1 he => he)
    match fl, hsp with
    | .next, ⟨σ', H', J, q⟩ => exact wpAny_execs_nil ⟨σ', H', J.ofTry ok, q⟩
    | .brk, ⟨σ', H', J, q⟩ => exact ⟨σ', H', J.ofTry ok, q⟩
    | .cont, ⟨σ', H', J, q⟩ => exact ⟨σ', H', J.ofTry ok, q⟩
    | .ret u, ⟨v, σ', H', J, r, q⟩ => exact ⟨v, σ', H', J.ofTry ok, r, q⟩
  · -- what was raised lands here
    obtain ⟨a, B, sI, pins', σ', H', cls, d, rfl, J', nb, up, sky, na, os, ag, hyes, hgo⟩ := xx
    have J : Inv X pins σ' H' sI := J'.ofTry ok
    have air : Sky B (X.env :: X.outer) a (Zc cls d) X.env.locals s'.heap := by
      rw [← hs]
      exact sky
    show wpAny (model X.prog X.w) X.A (noteFrame (.ref a) X.env) _ _ _
    refine Sky.land Zc.steady frm hf air fun h3 fl3 up3 => ?_
    have J3 : Inv X pins σ' H' { s' with heap := h3 } := J.landed nb fl3.1 (up.trans up3) os ag
    obtain ⟨oe3, vs3, he3, hz3, hd3⟩ := fl3.there
    have nB : B.get? a = none := fl3.2.1
    have nfr : a ∉ frs (X.env :: X.outer) := fun hm => by
      obtain ⟨_, o', e', hnf⟩ := fl3.2.2.1.mem hm
      obtain rfl := Option.some.inj (he3.symm.trans e')
      exact hnf _ hd3
    have nL : a ≠ X.env.locals := fun z => nfr (List.mem_filterMap.mpr ⟨X.env, List.mem_cons_self, by rw [hf, z]⟩)
    have nF : a ∉ X.fs := fun hm => by
      obtain ⟨e, he, q⟩ := List.mem_filterMap.mp hm
      exact nfr (List.mem_filterMap.mpr ⟨e, List.mem_cons_of_mem _ he, q⟩)
    have fresh : ∀ b o, sI.heap.get? b = some o → b ≠ a := by
      rintro b o e rfl
      have z := nb b o e (by rw [hs]; exact nfr)
      rw [nB] at z
      cases z
    have n0 : X.s_0.heap.get? a = none := by
      cases q : X.s_0.heap.get? a with
      | none => rfl
      | some o =>
        obtain ⟨o', z⟩ := J.base.there a o q (by rw [hex]; exact List.not_mem_nil)
        exact absurd rfl (fresh a o' z)
    have npp : ∀ p ∈ X.pn ++ pins, p.1 ≠ a := fun p hp => fresh p.1 p.2 (J.pin p hp).1
    have S3 := J3.suite he3 hd3 na nL nF
    refine wpAny_handleBy_cons (codeAny_handlers_test ?_) (by intro q; cases q)
    have seen : PySem.W.Looks (model X.prog X.w) h3 (typeOf (.ref a)) cls := fun A Q E s k q => wpAny_typeOf_ref (k _ _ he3) (by
      rw [hz3.1]
      exact q)
    have fits := PySem.W.exm_one (M := model X.prog X.w) J3.kIn seen hyes
    have look : ∀ {Q : Value → Shared → Prop} {E : Value → Shared → Prop}, Q c { s' with heap := h3 } → wpAny (model X.prog X.w) (X.A.mark (some (.ref a))) (eval (.Name x np) X.env) Q E { s' with heap := h3 } := by
      intro Q E q
      obtain ⟨hg, hdbg, hm | ⟨hm, hv, hnn⟩⟩ := hc
      · exact ld_glob (X := X.suite a ((a, oe3) :: (X.pn ++ pins))) S3 hg hm q hdbg
      · exact ld_blt (X := X.suite a ((a, oe3) :: (X.pn ++ pins))) S3 hg hm hv q hnn hdbg
    refine look (fits.here (codeAny_handlers_suite_as ?_))
    refine HandSPX.lands_againZ fl3 fun h4 fl4 up4 => ?_
    have J4 : Inv X pins σ' H' { s' with heap := h4 } := J.landed nb fl4.1 ((up.trans up3).trans up4) os ag
    obtain ⟨oe4, vs4, he4, hz4, hd4⟩ := fl4.there
    have S4 := J4.suite he4 hd4 na nL nF
    refine store_ok (X := X.suite a ((a, oe4) :: (X.pn ++ pins))) (v := .ref a) S4 hN hi (.inl hln) rfl (fun s5 S5 => ?_) (.inr hln)
    refine wpAny_mono ((hsu a oe4 cls d (X.pn ++ pins) hz4 ⟨_, hd4⟩).run [] s5 _ H' _ S5 (hgo J.len a na)) (fun fl s6 hsp => ?_) (fun _ _ z => False.elim z)
    match fl, hsp with
    | .brk, ⟨_, _, _, q⟩ => exact False.elim q
    | .cont, ⟨_, _, _, q⟩ => exact False.elim q
    | .ret u, ⟨_, _, _, _, _, q⟩ => exact False.elim q
    | .next, ⟨σ6, H6, S6, q6⟩ =>
      obtain ⟨g6, n6, _⟩ := S6.pin (a, oe4) (List.mem_append_left _ List.mem_cons_self)
      have J6 : Inv X ((a, oe4) :: pins) σ6 H6 s6 := (S6.unsuite ok).pins_of fun p hp => by
        rcases List.mem_cons.mp hp with e | hp
        · rw [e]
          exact ⟨g6, n6, nL, nF, fun v z => by
            have z' : oe4.data = .cell v := z
            rw [hd4] at z'
            cases z'⟩
        · exact (S6.unsuite ok).pin p (List.mem_append_right _ hp)
      exact gone_ok J6 hN hi hln fun s7 J7 => ⟨_, _, keep_pinned J7 hz4 ⟨_, hd4⟩ n0 npp, q6⟩
end
/-- isinstance(e, c), e such an exception -/
def rIsK (K : PySem.W.Frag) (D : Addr) : List V → Hp → VK → Prop := fun xs H Q => ∃ (a : Addr) (c : V) (cv : Value) (b : Bool), xs = [.ref a, c] ∧ H a = some (ExK (.ref D) none a) ∧ ClsV c cv ∧ PySem.W.kitOne K (.ref D) cv = some b ∧ Q (.bl b) H
theorem call_isK {X : Cx} {D : Addr} (C : ExcC X.K D) : CallR X (.builtin "isinstance") (rIsK X.K D) := by
  intro pins s σ H xs us Q I r h
  obtain ⟨a, c, cv, b, rfl, ha, hcv, e, q⟩ := h
  obtain ⟨u1, u2, rfl, r1, r2⟩ := vals2 r
  obtain rfl : u1 = Value.ref a := r1
  obtain rfl := hcv.eq r2
  obtain ⟨⟨oe, g, hz, vs, hv⟩, _, _⟩ := I.hok a _ ha
  have J : PySem.W.InstAt s.heap a oe D none := by
    obtain ⟨oc, od, oda, osl⟩ := oe
    obtain ⟨h1, h2⟩ := hz
    dsimp only at h1 h2 hv
    subst h1 h2 hv
    exact ⟨g, rfl, rfl, trivial⟩
  exact PySem.W.kia_one (PySem.W.handS_kitx_exc C.hg C.hk C.hs C.hd C.ha C.hn C.ht C.hm) I.kIn J e (fun z => nomatch z) fun tk => ⟨.bl b, H, I.kept (t' := tk) fun _ _ z => z, rfl, q⟩
end Vk
/-! A kept exception with fields of its own. -/
namespace Vk
open PySem PySem.Spec PyProof.Rows L2
/-- a kept exception of the class C with these fields -/
def KxF (H : Hp) (a C : Addr) (fs : List (Str × V)) : Prop := ∃ dd, H a = some (ExK (.ref C) (some dd) a) ∧ H dd = some (.xd fs)
theorem KxF.same {H H' : Hp} {a C : Addr} {fs : List (Str × V)} (k : KxF H a C fs) (s : Same H H') : KxF H' a C fs := by
  obtain ⟨dd, h1, h2⟩ := k
  exact ⟨dd, s _ _ h1, s _ _ h2⟩
theorem KxF.inst {X : Cx} {pins : List (Addr × Obj)} {σ : L2.St} {H : Hp} {s : Shared} {a C : Addr} {fs : List (Str × V)} (I : Inv X pins σ H s) (k : KxF H a C fs) : ∃ (oe od : Obj) (mA : Str → Option Value), PySem.W.InstAt s.heap a oe C (some od) ∧ (∀ f, PySem.W.lookIn f od = some (mA f)) ∧ ∀ f, RelO (fs.lookup f) (mA f) := by
  obtain ⟨dd, h1, h2⟩ := k
  obtain ⟨⟨oe, g, hz, vs, hd⟩, _, _⟩ := I.hok a _ h1
  obtain ⟨mA, hns, hr⟩ := (show ObjOk X.prog X.w H s.heap dd (.xd fs) from I.hok dd _ h2)
  obtain ⟨od, ho, hl⟩ := lookIn_ns hns
  exact ⟨oe, od, mA, ⟨g, hz.1, by unfold PySem.W.notCls; rw [hd] <;> rfl, by rw [hz.2]; exact ho⟩, hl, hr⟩
/-- isinstance(e, c) -/
def rIsF (K : PySem.W.Frag) (C : Addr) : List V → Hp → VK → Prop := fun xs H Q => ∃ (a : Addr) (fs : List (Str × V)) (c : V) (cv : Value) (b : Bool), xs = [.ref a, c] ∧ KxF H a C fs ∧ ClsV c cv ∧ PySem.W.kitOne K (.ref C) cv = some b ∧ Q (.bl b) H
theorem call_isF {X : Cx} {C : Addr} (E : ExcC X.K C) : CallR X (.builtin "isinstance") (rIsF X.K C) := by
  intro pins s σ H xs us Q I r h
  obtain ⟨a, fs, c, cv, b, rfl, k, hcv, e, q⟩ := h
  obtain ⟨u1, u2, rfl, r1, r2⟩ := vals2 r
  obtain rfl : u1 = Value.ref a := r1
  obtain rfl := hcv.eq r2
  obtain ⟨oe, od, mA, J, _, _⟩ := k.inst I
  have hcl : (PySem.W.clsIn X.K C).isSome = true := by
    obtain ⟨cd, hc, _⟩ := PySem.W.any_some E.hd
    rw [hc]
    rfl
  exact PySem.W.kia_one (PySem.W.kitx_exc (od := some od) hcl E.hg E.hk E.hs E.ha E.hn E.ht E.hm) I.kIn J e (fun z => nomatch z) fun tk => ⟨.bl b, H, I.kept (t' := tk) fun _ _ z => z, rfl, q⟩
/-- e.f -/
def tKf (C : Addr) (f : Str) (te : TE) : TE := fun σ H Q => te σ H fun x H1 => ∃ (a : Addr) (fs : List (Str × V)) (v : V), x = .ref a ∧ KxF H1 a C fs ∧ fs.lookup f = some v ∧ Q v H1
theorem pe_kf {X : Cx} {C : Addr} {e : Expr} {te : TE} {pos : Pos} {n : Str} (T : XfC X.K C) (hno : PySem.W.findIn X.K (.ref C) n = some none) (he : PE X e te) (hb : attributeBase e n X.env (eval e X.env) = eval e X.env := by rfl) :
    PE X (.Attribute e n pos) (tKf C n te) := by
  refine ⟨fun pins s σ H Q I h => attr_of hb (thn (he.run pins s σ H _ I h) fun u s1 hh => ?_)⟩
  obtain ⟨x, H1, I1, rx, a, fs, v, rfl, k, l, q⟩ := hh
  obtain rfl : u = Value.ref a := rx
  obtain ⟨oe, od, mA, J, hl, hr⟩ := k.inst I1
  obtain ⟨u, hu, ru⟩ := RelO.some_of (v := v) (o := mA n) (by rw [← l]; exact hr n)
  exact HandSPX.exc_get I1.kIn J T.ga T.gg T.exC (PySem.W.findObj_own T.hdC hno rfl (by rw [hl, hu])) (handed_of ru) ⟨v, H1, I1.tok _, ru, q⟩
end Vk
namespace K10
open PySem PySem.Spec PyProof.Rows L2 Vk
def topS (i : Nat) : Stmt := PySem.Challenge.pw_pointtally_k10_whole_adjoints_and_soluti.main.body.getD i (.Pass ⟨0, 0, 0, 0⟩)
abbrev s_begun : Stmt := topS 22
theorem sc_begun : FnScope ["script", "k_so", "cells", "cell", "great", "seed"] ["script", "k_so"] (defScope s_begun) := ⟨rfl, rfl, rfl, by decide +kernel, rfl, by decide +kernel, by decide +kernel⟩
abbrev s_draw : Stmt := topS 23
theorem sc_draw : FnScope ["m", "bound", "found", "spot", "cells", "extra", "cell", "blend"] ["m", "bound"] (defScope s_draw) := ⟨rfl, rfl, rfl, by decide +kernel, rfl, by decide +kernel, by decide +kernel⟩
abbrev s_like : Stmt := topS 25
theorem sc_like : FnScope ["got", "due"] ["got", "due"] (defScope s_like) := ⟨rfl, rfl, rfl, by decide +kernel, rfl, by decide +kernel, by decide +kernel⟩
abbrev s_signed : Stmt := topS 29
theorem sc_signed : FnScope ["m", "most", "number"] ["m", "most"] (defScope s_signed) := ⟨rfl, rfl, rfl, by decide +kernel, rfl, by decide +kernel, by decide +kernel⟩
abbrev s_psum : Stmt := topS 6
theorem sc_psum : FnScope ["one", "other", "a", "b"] ["one", "other"] (defScope s_psum) := ⟨rfl, rfl, rfl, by decide +kernel, rfl, by decide +kernel, by decide +kernel⟩
abbrev s_gcd : Stmt := topS 26
theorem sc_gcd : FnScope ["a", "c"] ["a", "c"] (defScope s_gcd) := ⟨rfl, rfl, rfl, by decide +kernel, rfl, by decide +kernel, by decide +kernel⟩
section
variable {P : Program} {w : World} {K : PySem.W.Frag} {mg : Str → Option Value} {base : Heap}
theorem ok_begun {f : Addr} {fd : FuncData} (F : Fun K "_law_begun" "_law_begun" s_begun f fd) (m_int : mg "int" = none) : FnOk P w K mg base CX0 1 f fd ["script", "k_so"] (spBegun K) := by
  have sc := sc_begun
  refine F.ok sc (fun vs H Q E h => ?_) (fun cdv A outer s H vs Q E hr h => ?_)
  · obtain ⟨a, k, ns, rfl, _⟩ := h
    rfl
  · obtain ⟨a, k, ns, rfl, hS, hl, hk0, hk1, q⟩ := h
    refine ⟨_, (pss_cons (ps_set (i := 2) sc.nd rfl (Or.inl rfl) (pe_op op_cat (pe_slice sl_list (pv 0) (po_some (pv 1)) po_none) (pe_slice sl_list (pv 0) po_none (po_some (pv 1)))))
    (pss_cons (ps_setLc (i := 4) (own := [("cell", 3)]) (g := gName 3) (by rfl) sc.nd rfl rfl (sw_true rfl rfl rfl (by decide +kernel)) (pi_list (pv 2)) (blkOk_by (own := [("cell", 3)]) (N := ["script", "k_so", "cells", "cell", "great", "seed"]) (sc := defScope s_begun) (by decide +kernel)) (fun _ _ _ _ _ => pg_name (i := 3) sc.nd rfl (Or.inl rfl)) (fun _ _ _ _ _ => (pts_one (pt_cmpR op_ge (pv 3) (pe_op op_pow pe_int pe_int) (nomark _)))) (fun _ _ _ _ _ => (pv 3)))
    (pss_cons (ps_set (i := 5) sc.nd rfl (Or.inl rfl) (pe_op op_add pe_int (pv 1)))
    (pss_cons (ps_for PassesOwn.never rfl (pi_list (pv 2)) (pg_name (i := 3) sc.nd rfl (Or.inl rfl))
      (pss_one (ps_set (i := 5) sc.nd rfl (Or.inl rfl) (pe_op op_modN (pe_callTy call_int1 (by rfl) m_int (by decide +kernel) (pa_cons (pe_op op_add (pe_op op_mul (pv 5) pe_int) (pv 3)) pa_nil)) pe_int))))
    (pss_one (ps_ret (pe_disp (pps_cons pe_str (pe_ifExp (pt_cmpR (op_neD hr.units) (pv 4) (pe_lst pa_nil) (nomark _)) (pe_ix ix_list (pv 4) pe_int (fun _ _ => rfl)) pe_int) (pps_cons pe_str (pv 5) (pps_cons pe_str (pe_op op_cat (pv 2) (pe_lst (pa_cons (pe_op op_add (pe_op op_mul pe_int (pv 1)) pe_int) pa_nil))) (pps_cons pe_str pe_int pps_nil)))) (by rfl) (by rfl) (fun z => by cases z) (by decide)))))))), ?_⟩
    obtain ⟨l1, e1, b1⟩ := cut_ints ns (some k) none
    obtain ⟨l2, e2, b2⟩ := cut_ints ns none (some k)
    refine ⟨.ref a, rfl, .int k, rfl, k, rfl, a, _, rfl, hS, fun p1 n1 => ?_⟩
    rw [e1]
    have s1 : Same H (upd H p1 (.lst (l1.map V.int))) := same_new n1
    refine ⟨.ref a, rfl, .int k, rfl, k, rfl, a, _, rfl, s1.seq hS, fun p2 n2 => ?_⟩
    rw [e2]
    have n12 : p1 ≠ p2 := fun z => by
      rw [← z, upd_same] at n2
      cases n2
    have h2 : H p2 = none := s1.free n2
    refine ⟨p1, p2, l1.map V.int, l2.map V.int, rfl, rfl, ?_, upd_same, ?_, fun p np => ?_⟩
    · rw [upd_ne n12, upd_same]
    · rw [List.length_map, List.length_map]
      exact Nat.le_of_lt (small1000 (by omega))
    rw [← List.map_append]
    have s2 : Same H (upd (upd H p1 (.lst (l1.map V.int))) p2 (.lst (l2.map V.int))) := same_put s1 h2
    have hp : H p = none := s2.free np
    have s3 := same_put (o := .lst ((l1 ++ l2).map V.int)) s2 hp
    have hH3 : upd (upd (upd H p1 (.lst (l1.map V.int))) p2 (.lst (l2.map V.int))) p (.lst ((l1 ++ l2).map V.int)) p = some (.lst ((l1 ++ l2).map V.int)) := upd_same
    generalize upd (upd (upd H p1 (.lst (l1.map V.int))) p2 (.lst (l2.map V.int))) p (.lst ((l1 ++ l2).map V.int)) = H3 at s3 hH3 ⊢
    have g3 : H3 p = some (.lst ((l1 ++ l2).map V.int)) := hH3
    generalize hcs : l1 ++ l2 = cs at g3
    have bcs : cs.length ≤ 126 := by
      rw [← hcs, List.length_append]
      omega
    refine ⟨.ref p, rfl, p, rfl, ⟨_, SqL.of g3⟩, fun D nD => ?_⟩
    have hD : H D = none := s3.free nD
    have nDp : p ≠ D := ne_of_none g3 nD
    refine lc_list (K := K) (a := p) (xs := cs.map V.int) (fun i H' => ∃ acc : List Int, H' = upd H3 D (.lst (acc.map V.int)) ∧ acc.length ≤ i) ⟨[], rfl, Nat.le_refl _⟩ ?_ ?_ ?_
    · rintro i H' _ ⟨acc, rfl, _⟩
      refine SqL.of ?_
      rw [upd_ne nDp]
      exact g3
    · rintro i x H' hx ⟨acc, rfl, hacc⟩
      obtain ⟨z, hz, rfl⟩ : ∃ z, cs[i]? = some z ∧ x = V.int z := by
        rw [List.getElem?_map] at hx
        cases hc : cs[i]? with
        | none => rw [hc] at hx; cases hx
        | some z => rw [hc] at hx; exact ⟨z, rfl, (Option.some.inj hx).symm⟩
      have hi : i < cs.length := (List.getElem?_eq_some_iff.mp hz).1
      refine ⟨rfl, .int z, rfl, 10, 18, rfl, rfl, ⟨by decide, by decide, by decide⟩, z, _, rfl, rfl, _, rfl, ite2 (fun h => ?_) (fun h => ?_)⟩
      · refine ⟨.int z, rfl, _, upd_same, ?_, acc ++ [z], ?_, ?_⟩
        · rw [List.length_map]
          exact small1000 (by omega)
        · rw [upd_upd, List.map_append]
          rfl
        · rw [List.length_append]
          show acc.length + 1 ≤ i + 1
          omega
      · exact ⟨acc, rfl, by omega⟩
    rintro H' ⟨acc, rfl, hacc⟩
    have s4 : Same H (upd H3 D (.lst (acc.map V.int))) := same_put s3 hD
    have g4 : upd H3 D (.lst (acc.map V.int)) p = some (.lst (cs.map V.int)) := by
      rw [upd_ne nDp]
      exact g3
    have d4 : upd H3 D (.lst (acc.map V.int)) D = some (.lst (acc.map V.int)) := upd_same
    generalize upd H3 D (.lst (acc.map V.int)) = H4 at s4 g4 d4
    refine ⟨.int k, rfl, 71, k, rfl, rfl, .ref p, rfl, p, rfl, ⟨_, SqL.of g4⟩, ?_⟩
    refine for_list (K := K) (a := p) (xs := cs.map V.int) (fun i σ H' => ∃ (sd : Int) (y : Option V), σ = [some (.ref a), some (.int k), some (.ref p), y, some (.ref D), some (.int sd)] ∧ H' = H4 ∧ 0 ≤ sd ∧ sd < 2147483648) ⟨71 + k, none, rfl, rfl, by omega, by omega⟩ ?_ ?_ ?_
    · rintro i σ H' _ ⟨sd, y, rfl, rfl, _⟩
      exact SqL.of g4
    · rintro i x σ H' hx ⟨sd, y, rfl, rfl, h0, h1⟩
      obtain ⟨z, hz, rfl⟩ : ∃ z, cs[i]? = some z ∧ x = V.int z := by
        rw [List.getElem?_map] at hx
        cases hc : cs[i]? with
        | none => rw [hc] at hx; cases hx
        | some z => rw [hc] at hx; exact ⟨z, rfl, (Option.some.inj hx).symm⟩
      refine ⟨.int sd, rfl, sd, 48271, rfl, rfl, .inl ⟨by omega, by omega⟩, .int z, rfl, _, z, rfl, rfl, .inl ⟨_, rfl, _, 2147483647, rfl, rfl, (by show (2147483647 : Int) ≠ 0; decide), ?_⟩⟩
      have q1 := Int.fmod_lt_of_pos (sd * 48271 + z) (show (0 : Int) < 2147483647 by decide)
      exact ⟨_, _, rfl, rfl, Int.fmod_nonneg_of_pos _ (by decide), by omega⟩
    rintro σ H' ⟨sd, y, rfl, rfl, h0, h1⟩
    intro r nr
    have hr0 : H r = none := s4.free nr
    have s5 : Same H (upd H' r (.dK [])) := same_put s4 hr0
    have prn : p ≠ r := ne_of_none g4 nr
    have drn : D ≠ r := ne_of_none d4 nr
    have g5 : upd H' r (.dK []) p = some (.lst (cs.map V.int)) := by
      rw [upd_ne prn]
      exact g4
    have d5 : upd H' r (.dK []) D = some (.lst (acc.map V.int)) := by
      rw [upd_ne drn]
      exact d4
    have r5 : upd H' r (.dK []) r = some (.dK []) := upd_same
    generalize upd H' r (.dK []) = H5 at s5 g5 d5 r5 ⊢
    refine ⟨.ref D, rfl, Nat.zero_le _, fun e0 ne0 => ?_⟩
    have p0 : p ≠ e0 := ne_of_none g5 ne0
    have d0 : D ≠ e0 := ne_of_none d5 ne0
    have r0 : r ≠ e0 := ne_of_none r5 ne0
    have s6 : Same H (upd H5 e0 (.lst [])) := same_put s5 (s5.free ne0)
    have g6 : upd H5 e0 (.lst []) p = some (.lst (cs.map V.int)) := by
      rw [upd_ne p0]
      exact g5
    have d6 : upd H5 e0 (.lst []) D = some (.lst (acc.map V.int)) := by
      rw [upd_ne d0]
      exact d5
    have r6 : upd H5 e0 (.lst []) r = some (.dK []) := by
      rw [upd_ne r0]
      exact r5
    have l6 : upd H5 e0 (.lst []) e0 = some (.lst ([] : List V)) := upd_same
    generalize upd H5 e0 (.lst []) = H6 at s6 g6 d6 r6 l6 ⊢
    refine ⟨.list (acc.map PyData.int), .list [], .lst (SqL.of d6) (dp_ints acc), .lst (SqL.of l6) .nil, shaped_ints acc, shaped_ints [], _, rfl, ?_⟩
    refine tif_both (fun v => ∃ L : Int, v = .int L) ?_ ?_ ?_
    · rintro _ ⟨L, rfl⟩
      refine ⟨.int sd, rfl, .ref p, rfl, .int k, rfl, 53, k, rfl, rfl, .inl ⟨by decide, by decide⟩, _, 11, rfl, rfl, (by show 1 ≤ sizeLine; decide), fun e1 ne1 => ?_⟩
      have p1' : p ≠ e1 := ne_of_none g6 ne1
      have r1' : r ≠ e1 := ne_of_none r6 ne1
      have s7 : Same H (upd H6 e1 (.lst [.int (53 * k + 11)])) := same_put s6 (s6.free ne1)
      refine ⟨p, e1, cs.map V.int, [.int (53 * k + 11)], rfl, rfl, ?_, upd_same, ?_, fun c nc => ?_⟩
      · rw [upd_ne p1']
        exact g6
      · rw [List.length_map]
        exact Nat.le_of_lt (small1000 (show cs.length + 1 ≤ 1000 by omega))
      have r7 : upd H6 e1 (.lst [.int (53 * k + 11)]) r = some (.dK []) := by
        rw [upd_ne r1']
        exact r6
      have rc : r ≠ c := ne_of_none r7 nc
      have s8 := same_put (o := .lst (cs.map V.int ++ [.int (53 * k + 11)])) s7 (s7.free nc)
      refine ⟨?_, mkv L sd c 0, rfl, (by show 4 ≤ 15; decide), ?_⟩
      · rw [upd_ne rc]
        exact r7
      refine q _ _ _ (same_put s8 hr0) hr0 ⟨L, sd, 0, cs ++ [53 * k + 11], upd_same, ?_, ?_, by omega, by omega⟩
      · rw [upd_ne (Ne.symm rc), upd_same, List.map_append]
        rfl
      · rw [List.length_append]
        exact Nat.succ_pos _
    · intro hc hQ
      cases acc with
      | nil => exact absurd hc (by decide)
      | cons z zs => exact ⟨.ref D, rfl, D, _, 0, .int z, rfl, rfl, SqL.of d6, atI_nat (j := 0) rfl, hQ _ ⟨z, rfl⟩⟩
    · intro hc hQ
      exact hQ _ ⟨0, rfl⟩
theorem ok_draw {f : Addr} {fd : FuncData} (F : Fun K "_law_draw" "_law_draw" s_draw f fd) (m_int : mg "int" = none) (m_len : mg "len" = none) : FnOk P w K mg base CX0 1 f fd ["m", "bound"] spDraw := by
  have sc := sc_draw
  refine F.ok sc (fun vs H Q E h => ?_) (fun cdv A outer s H vs Q E hr h => ?_)
  · obtain ⟨m, c, n, b, rfl, _⟩ := h
    rfl
  · obtain ⟨m, c, n, b, rfl, hM, hn, hb0, hb1, q⟩ := h
    refine ⟨_, (pss_cons (ps_if (pt_cmpR op_gt (pe_dget (hu_of hr) (pv 0) pe_str (fun _ _ => rfl)) pe_int (nomark _))
      (pss_cons (ps_set (i := 2) sc.nd rfl (Or.inl rfl) (pe_op op_modN (pe_callTy call_int1 (by rfl) m_int (by decide +kernel) (pa_cons (pe_dget (hu_of hr) (pv 0) pe_str (fun _ _ => rfl)) pa_nil)) (pv 1)))
    (pss_cons (ps_dput (hu_of hr) (pv 0) pe_str (pe_op op_fdivX (pe_dget (hu_of hr) (pv 0) pe_str (fun _ _ => rfl)) (pv 1)) rfl)
    (pss_one (ps_ret (pv 2)))))
      pss_nil)
    (pss_cons (ps_set (i := 3) sc.nd rfl (Or.inl rfl) (pe_dget (hu_of hr) (pv 0) pe_str (fun _ _ => rfl)))
    (pss_cons (ps_dput (hu_of hr) (pv 0) pe_str (pe_op op_add (pv 3) pe_int) rfl)
    (pss_cons (ps_par (i := 4) (j := 5) (by rfl) sc.nd rfl rfl (by decide) rfl rfl (pa_cons (pe_dget (hu_of hr) (pv 0) pe_str (fun _ _ => rfl)) (pa_cons (pe_op op_add (pe_dget (hu_of hr) (pv 0) pe_str (fun _ _ => rfl)) (pe_op op_mul (pe_op op_mul pe_int (pv 3)) (pv 3))) pa_nil)) (by rfl))
    (pss_cons (ps_set (i := 6) sc.nd rfl (Or.inl rfl) (pe_ix ix_list (pv 4) (pe_op op_modN (pe_callTy call_int1 (by rfl) m_int (by decide +kernel) (pa_cons (pv 3) pa_nil)) (pe_callB call_len_seq (by rfl) m_len (by decide +kernel) (pa_cons (pv 4) pa_nil))) (fun _ _ => rfl)))
    (pss_cons (ps_set (i := 7) sc.nd rfl (Or.inl rfl) (pe_op op_modN (pe_callTy call_int1 (by rfl) m_int (by decide +kernel) (pa_cons (pe_op op_add (pe_op op_mul (pv 6) (pe_op op_add (pe_op op_mul pe_int (pv 3)) pe_int)) (pv 5)) pa_nil)) pe_int))
    (pss_cons (ps_set (i := 7) sc.nd rfl (Or.inl rfl) (pe_op op_modN (pe_callTy call_int1 (by rfl) m_int (by decide +kernel) (pa_cons (pe_op op_add (pe_op op_add (pe_op op_mul (pv 7) (pv 7)) (pe_op op_mul pe_int (pv 3))) (pe_dget (hu_of hr) (pv 0) pe_str (fun _ _ => rfl))) pa_nil)) pe_int))
    (pss_one (ps_ret (pe_op op_modN (pe_op op_fdivN (pe_op op_modN (pe_callTy call_int1 (by rfl) m_int (by decide +kernel) (pa_cons (pe_op op_add (pe_op op_mul (pv 7) pe_int) (pv 3)) pa_nil)) pe_int) pe_int) (pv 1))))))))))), ?_⟩
    obtain ⟨L, sd, sp, cells, h1, h2, h3, h4, h5⟩ := hM
    have ncm : c ≠ m := ne_of h2 h1 (by intro z; cases z)
    refine ⟨.ref m, rfl, m, .int L, rfl, get_m h1 val_left, L, 0, rfl, rfl, _, rfl, ite2 (fun hL => ?_) (fun hL => ?_)⟩
    · -- the first way
      refine ⟨.ref m, rfl, m, .int L, rfl, get_m h1 val_left, .inl ⟨L, rfl, .int b, rfl, L, b, rfl, rfl, by omega, ?_⟩⟩
      refine ⟨.ref m, rfl, m, .int L, rfl, get_m h1 val_left, .int b, rfl, L, b, rfl, rfl, ⟨by omega, Nat.lt_trans (PySem.Flt.log2_lt_of (by decide) hb1) (by decide)⟩, .ref m, rfl, m, _, rfl, put_m h1 put_left, ?_⟩
      refine ⟨.int (L.fmod b), rfl, q _ _ but_put ⟨_, sd, sp, cells, upd_same, ?_, h3, h4, by omega⟩ (Int.fmod_nonneg_of_pos _ hb0) (Int.fmod_lt_of_pos _ hb0)⟩
      rw [upd_ne ncm]
      exact h2
    · -- the second way
      refine ⟨.ref m, rfl, m, .int sp, rfl, get_m h1 val_spot, ?_⟩
      refine ⟨.int sp, rfl, sp, 1, rfl, rfl, .ref m, rfl, m, _, rfl, put_m h1 put_spot, ?_⟩
      have g1 : (upd H m (.dK (mkv L sd c (sp + 1)))) m = some (.dK (mkv L sd c (sp + 1))) := upd_same
      have g2 : (upd H m (.dK (mkv L sd c (sp + 1)))) c = some (.lst (cells.map V.int)) := by
        rw [upd_ne ncm]
        exact h2
      refine ⟨.ref m, rfl, m, .ref c, rfl, get_m g1 val_cells, .ref m, rfl, m, .int sd, rfl, get_m g1 val_seed, .int sp, rfl, 40503, sp, rfl, rfl, .inl ⟨by decide, by decide⟩, .int sp, rfl, 40503 * sp, sp, rfl, rfl, .inr ⟨by omega, by omega⟩, sd, 40503 * sp * sp, rfl, rfl, .ref c, .int (sd + 40503 * sp * sp), rfl, ?_⟩
      have hj : (sp.toNat % cells.length) < cells.length := Nat.mod_lt _ h3
      have e1 : Int.fmod sp ((cells.map V.int).length : Int) = ((sp.toNat % cells.length : Nat) : Int) := by
        rw [List.length_map, Int.fmod_eq_emod_of_nonneg _ (by omega), Int.natCast_emod, Int.toNat_of_nonneg h4]
      have e2 : (cells.map V.int)[sp.toNat % cells.length]? = some (.int cells[sp.toNat % cells.length]) := by
        rw [List.getElem?_map, List.getElem?_eq_getElem hj]
        rfl
      refine ⟨.ref c, rfl, .int sp, rfl, .inl ⟨sp, rfl, .ref c, rfl, c, _, rfl, .inl (SqL.of g2), sp, _, rfl, rfl, ?_, c, _, _, .int cells[sp.toNat % cells.length], rfl, rfl, SqL.of g2, ?_, ?_⟩⟩
      · rw [List.length_map]
        omega
      · rw [e1]
        exact atI_nat e2
      refine ⟨_, rfl, .int sp, rfl, 2, sp, rfl, rfl, .inl ⟨by decide, by decide⟩, 2 * sp, 3, rfl, rfl, _, 2 * sp + 3, rfl, rfl, .inr ⟨by omega, by omega⟩, _, rfl, _, _, rfl, rfl, .inl ⟨_, rfl, _, 2147483647, rfl, rfl, (by show (2147483647 : Int) ≠ 0; decide), ?_⟩⟩
      dsimp only
      generalize hB : Int.fmod (cells[sp.toNat % cells.length] * (2 * sp + 3) + (sd + 40503 * sp * sp)) 2147483647 = B
      have b0 : 0 ≤ B := by
        rw [← hB]
        exact Int.fmod_nonneg_of_pos _ (by decide)
      have b1 : B < 2147483647 := by
        rw [← hB]
        exact Int.fmod_lt_of_pos _ (by decide)
      refine ⟨.int B, rfl, .int B, rfl, B, B, rfl, rfl, .inl ⟨by omega, by omega⟩, .int sp, rfl, 69621, sp, rfl, rfl, .inl ⟨by decide, by decide⟩, B * B, 69621 * sp, rfl, rfl, .ref m, rfl, m, .int sd, rfl, get_m g1 val_seed, _, sd, rfl, rfl, .inl ⟨_, rfl, _, 2147483629, rfl, rfl, (by show (2147483629 : Int) ≠ 0; decide), ?_⟩⟩
      dsimp only
      generalize hB2 : Int.fmod (B * B + 69621 * sp + sd) 2147483629 = B2
      have c0 : 0 ≤ B2 := by
        rw [← hB2]
        exact Int.fmod_nonneg_of_pos _ (by decide)
      have c1 : B2 < 2147483629 := by
        rw [← hB2]
        exact Int.fmod_lt_of_pos _ (by decide)
      refine ⟨.int B2, rfl, B2, 48271, rfl, rfl, .inl ⟨by omega, by omega⟩, .int sp, rfl, _, sp, rfl, rfl, .inl ⟨_, rfl, _, 2147483647, rfl, rfl, (by show (2147483647 : Int) ≠ 0; decide), _, 11, rfl, rfl, (by show (11 : Int) ≠ 0 ∧ (11 : Int).natAbs < 1073741824; decide), .int b, rfl, _, b, rfl, rfl, by omega, ?_⟩⟩
      exact q _ _ but_put ⟨L, sd, sp + 1, cells, g1, g2, h3, by omega, by omega⟩ (Int.fmod_nonneg_of_pos _ hb0) (Int.fmod_lt_of_pos _ hb0)
theorem ok_like {f : Addr} {fd : FuncData} (F : Fun K "_law_like" "_law_like" s_like f fd) (m_repr : mg "repr" = none) : FnG P w K mg base 1 f fd ["got", "due"] (spLike K) := by
  have sc := sc_like
  refine okG F sc (fun vs H Q E h => ?_) (fun cdv A outer s H vs Q E hG hr h => ?_)
  · obtain ⟨x, y, d, rfl, _⟩ := h
    rfl
  · obtain ⟨x, y, d, rfl, h1, h2, hf, q⟩ := h
    have hG' : Quiet (cxOf CX0 P w K mg base ["got", "due"] "_law_like" (defScope s_like) f cdv A outer s H E).nox.A := hG.deeper _
    refine ⟨_, (pss_one (ps_ret (pe_cmpR op_eq (pe_callB (call_rep hG' hr.units) (by rfl) m_repr (by decide +kernel) (pa_cons (pv 0) pa_nil)) (pe_callB (call_rep hG' hr.units) (by rfl) m_repr (by decide +kernel) (pa_cons (pv 1) pa_nil)) (nomark _)))), ?_⟩
    refine ⟨x, rfl, x, d, rfl, h1, hf.s, hf.h, hf.dp, hf.len (Nat.le_refl _), y, rfl, y, d, rfl, h2, hf.s, hf.h, hf.dp, hf.len (Nat.le_refl _), rfl, ?_⟩
    rw [decide_eq_true rfl]
    exact q
theorem ok_signed {f : Addr} {fd : FuncData} (F : Fun K "_law_signed" "_law_signed" s_signed f fd) (C__law_draw : Cal P w K mg base 1 "_law_draw" ["m", "bound"] spDraw) : FnOk P w K mg base CX0 2 f fd ["m", "most"] spSigned := by
  have sc := sc_signed
  refine F.ok sc (fun vs H Q E h => ?_) (fun cdv A outer s H vs Q E hr h => ?_)
  · obtain ⟨m, c, q, b, rfl, _⟩ := h
    rfl
  · obtain ⟨m, c, q, b, rfl, hM, hq, b0, b1, k⟩ := h
    refine ⟨_, (pss_cons (ps_set (i := 2) sc.nd rfl (Or.inl rfl) (call_ C__law_draw (hr.mono (by decide)) (by rfl) (pa_cons (pv 0) (pa_cons (pe_op op_add (pv 1) pe_int) pa_nil))))
    (pss_one (ps_ret (pe_ifExp (pt_cmpR op_eq (call_ C__law_draw (hr.mono (by decide)) (by rfl) (pa_cons (pv 0) (pa_cons pe_int pa_nil))) pe_int (nomark _)) (pv 2) (pe_un un_neg (pv 2)))))), ?_⟩
    have lim : ∀ z : Int, 0 ≤ z → z ≤ 10000 → z.natAbs < 2 ^ 200 := fun z h0 h1 => Nat.lt_of_le_of_lt (show z.natAbs ≤ 10000 by omega) (by decide)
    refine ⟨.ref m, rfl, .int b, rfl, b, 1, rfl, rfl, m, c, q, b + 1, rfl, hM, by omega, by omega, lim _ (by omega) (by omega), fun H1 v s1 M1 v0 v1 => ?_⟩
    refine ⟨.ref m, rfl, m, c, q + 1, 2, rfl, M1, by omega, by decide, by decide, fun H2 u s2 M2 u0 u1 => ?_⟩
    have s12 := s1.trans s2
    have M3 := M2.mono (show q + 1 + 1 ≤ q + 2 by omega)
    refine ⟨rfl, _, rfl, ite2 (fun _ => ?_) (fun _ => ?_)⟩
    · exact ⟨_, rfl, k H2 _ s12 M3 (by omega) (by omega)⟩
    · exact ⟨_, rfl, v, rfl, k H2 _ s12 M3 (by omega) (by omega)⟩
theorem ok_psum {f : Addr} {fd : FuncData} (F : Fun K "product_sum" "product_sum" s_psum f fd) (m_sum : mg "sum" = none) (m_zip : mg "zip" = none) : FnOk P w K mg base CX0 1 f fd ["one", "other"] spPsum := by
  have sc := sc_psum
  refine F.ok sc (fun vs H Q E h => ?_) (fun cdv A outer s H vs Q E hr h => ?_)
  · obtain ⟨a, b, xs, ys, rfl, _⟩ := h
    rfl
  · obtain ⟨a, b, xs, ys, rfl, ha, hb, hl, q⟩ := h
    refine ⟨_, (pss_one (ps_ret (pe_callB (cr_sum rfl) (by rfl) m_sum (by decide +kernel) (pa_cons (pe_lc (own := [("a", 2), ("b", 3)]) (g := gTup K 2 (gCons (gName 2) (gCons (gName 3) gNil))) (by rfl) sc.nd (pi_zipK (by rfl) m_zip (pa_cons (pv 0) (pa_cons (pv 1) pa_nil))) (blkOk_by (own := [("a", 2), ("b", 3)]) (N := ["one", "other", "a", "b"]) (sc := defScope s_psum) (by decide +kernel)) (fun _ _ _ _ _ => pg_tup (n := 2) (by rfl) (pgs_cons (pg_name (i := 2) sc.nd rfl (Or.inl rfl)) (pgs_cons (pg_name (i := 3) sc.nd rfl (Or.inl rfl)) pgs_nil))) (fun _ _ _ _ _ => pts_nil) (fun _ _ _ _ _ => (pe_op op_mulW (pv 2) (pv 3)))) pa_nil)))), ?_⟩
    refine ⟨.ref a, rfl, .ref b, rfl, false, false, a, b, xs.map V.int, ys.map V.int, rfl, ha.1.t, hb.1.t, fun D nD => ?_⟩
    refine lc_to (walk_zipK (n := xs.length) (by rw [List.length_map, List.length_map]; omega)) ((List.zipWith (· * ·) xs ys).map V.int) (by rw [List.length_map, List.length_zipWith]; omega) (small ha.2.1) nD (fun H' s => ⟨(ha.1.same s).t, (hb.1.same s).t⟩) ?_ ?_
    · rintro i x y H0 H1 Qy hy hi s0 ⟨T, u, v, rfl, nT, rfl, hu, hv⟩ hq
      obtain ⟨z, hz, rfl⟩ := map_get hy
      obtain ⟨p, r, hp, hr', rfl⟩ := zipW_get hz
      obtain ⟨p', hp', rfl⟩ := map_get hu
      obtain ⟨r', hr'', rfl⟩ := map_get hv
      obtain rfl := Option.some.inj (hp.symm.trans hp')
      obtain rfl := Option.some.inj (hr'.symm.trans hr'')
      refine ⟨T, [.int p, .int r], rfl, SqT.of upd_same, rfl, .int p, [.int r], rfl, .int r, [], rfl, rfl, rfl, .int p, rfl, .int r, rfl, p, r, rfl, rfl, ?_, hq _ (same_new nT)⟩
      exact Nat.lt_trans (wide (ha.2.2 _ (List.mem_of_getElem? hp)) (hb.2.2 _ (List.mem_of_getElem? hr'))) (by decide)
    · intro H' s d
      exact ⟨D, List.zipWith (· * ·) xs ys, rfl, SqL.of d, q H' s⟩
theorem ok_gcd {f : Addr} {fd : FuncData} (F : Fun K "_law_gcd" "_law_gcd" s_gcd f fd) (m_abs : mg "abs" = none) (m_int : mg "int" = none) : FnOk P w K mg base CX0 1 f fd ["a", "c"] spGcd := by
  have sc := sc_gcd
  refine F.ok sc (fun vs H Q E h => ?_) (fun cdv A outer s H vs Q E hr h => ?_)
  · obtain ⟨a, c, rfl, _⟩ := h
    rfl
  · obtain ⟨a, c, rfl, q⟩ := h
    refine ⟨_, (pss_cons (ps_par (i := 0) (j := 1) (by rfl) sc.nd rfl rfl (by decide) rfl rfl (pa_cons (pe_callB call_abs (by rfl) m_abs (by decide +kernel) (pa_cons (pv 0) pa_nil)) (pa_cons (pe_callB call_abs (by rfl) m_abs (by decide +kernel) (pa_cons (pv 1) pa_nil)) pa_nil)) (by rfl))
    (pss_cons (ps_while PassesOwn.never (pt_cmpR op_ne (pv 1) pe_int (nomark _))
      (pss_one (ps_par (i := 0) (j := 1) (by rfl) sc.nd rfl rfl (by decide) rfl rfl (pa_cons (pv 1) (pa_cons (pe_op op_modN (pe_callTy call_int1 (by rfl) m_int (by decide +kernel) (pa_cons (pv 0) pa_nil)) (pv 1)) pa_nil)) (by rfl))))
    (pss_one (ps_ret (pv 0))))), ?_⟩
    have ab : ∀ x : Int, (if x < 0 then -x else x) = (x.natAbs : Int) := fun x => by split <;> omega
    refine ⟨.int a, rfl, a, rfl, .int c, rfl, c, rfl, _, _, rfl, ?_⟩
    rw [ab a, ab c]
    refine while_by (fun σ H' => ∃ x y : Nat, σ = [some (.int x), some (.int y)] ∧ H' = H ∧ Nat.gcd x y = Int.gcd a c) (fun σ _ => match σ with | [_, some (.int y)] => y.toNat | _ => 0) ⟨_, _, rfl, rfl, rfl⟩ ?_ (fun σ H Q Q' hq ⟨v, e1, e2, k, e3, q⟩ => ⟨v, e1, e2, k, e3, hq _ _ q⟩)
    rintro σ H' ⟨x, y, rfl, rfl, hg⟩
    refine ⟨.int y, rfl, rfl, _, rfl, ite2 (fun h => ?_) (fun h => ?_)⟩
    · have hy : y ≠ 0 := fun z => by
        rw [z] at h
        exact absurd h (by decide)
      refine ⟨.int y, rfl, .int x, rfl, .inl ⟨x, rfl, .int y, rfl, x, y, rfl, rfl, by omega, _, _, rfl, ?_⟩⟩
      have e : Int.fmod (x : Int) (y : Int) = ((x % y : Nat) : Int) := by
        rw [Int.fmod_eq_emod_of_nonneg _ (by omega), Int.natCast_emod]
      have e2 : ([some (V.int y), some (V.int (Int.fmod (x : Int) (y : Int)))] : List (Option V)) = [some (V.int y), some (V.int ((x % y : Nat) : Int))] := by rw [e]
      refine ⟨⟨y, x % y, e2, rfl, ?_⟩, ?_⟩
      · rw [← hg, Nat.gcd_comm x y, Nat.gcd_rec y x, Nat.gcd_comm]
      · show (Int.fmod (x : Int) (y : Int)).toNat < (y : Int).toNat
        rw [e, Int.toNat_natCast, Int.toNat_natCast]
        exact Nat.mod_lt _ (by omega)
    · have hy : y = 0 := by
        by_cases z : (y : Int) = 0
        · omega
        · exact absurd (by rw [decide_eq_false (fun w => z (V.int.inj w))]; rfl) h
      subst hy
      refine ⟨.int x, rfl, ?_⟩
      rw [← hg, Nat.gcd_zero_right] at q
      exact q
end
end K10
namespace Vk
open PySem PySem.Spec PyProof.Rows L2
/-- a comprehension that makes a new thing for each place -/
theorem lc_objs {J : It} {n : Nat} {G : Hp → Prop} {Y : Nat → Hp → V → Hp → Prop} (w : Walk J n G Y) {g : TG} {te : TE} {vs : List Nat} {σ : L2.St} {H1 : Hp} {D : Addr} {Qd : Hp → Prop} (o : Nat → HO) (hz : n < sizeLine) (nD : H1 D = none)
    (hG : ∀ H, Same H1 H → G H)
    (hs : ∀ (i : Nat) (x : V) (H H' : Hp) (Qy : VK), i < n → Same H1 H → Y i H x H' → (∀ p H4, Same H H4 → H p = none → H4 p = some (o i) → Qy (.ref p) H4) → g x (wipe σ vs) H' fun σ2 H2 => wipe σ2 vs = wipe σ vs ∧ te σ2 H2 Qy)
    (hd : ∀ H (ps : List Addr), Same H1 H → H D = some (.lst (ps.map V.ref)) → ps.length = n → ps.Nodup → (∀ p ∈ ps, H1 p = none) → (∀ (i : Nat) (p : Addr), ps[i]? = some p → H p = some (o i)) → Qd H) :
    ∃ W : Nat → Nat → Hp → Prop, (∃ m, W 0 m (upd H1 D (.lst []))) ∧ ∀ i m H, W i m H →
      (J.stop i H ∧ Qd H) ∨ (J.go i H ∧ ∃ Nx : Hp → Prop, (∀ H', Nx H' → ∃ m', m' < m ∧ W (i + 1) m' H') ∧ ∀ x H', J.yld i H x H' → g x (wipe σ vs) H' fun σ2 H2 => wipe σ2 vs = wipe σ vs ∧ tYes σ2 H2 fun b H3 =>
        if b = true then te σ2 H3 fun y H4 => ∃ acc, H4 D = some (.lst acc) ∧ acc.length < sizeLine ∧ Nx (upd H4 D (.lst (acc ++ [y]))) else Nx H3) := by
  refine lc_it w (tt := tYes) (fun i H => ∃ ps : List Addr, Same H1 H ∧ H D = some (.lst (ps.map V.ref)) ∧ ps.length = i ∧ ps.Nodup ∧ (∀ p ∈ ps, H1 p = none ∧ p ≠ D) ∧ ∀ (j : Nat) (p : Addr), ps[j]? = some p → H p = some (o j))
    ⟨[], same_new nD, upd_same, rfl, List.nodup_nil, fun p hp => (by cases hp), fun j p h => by cases h⟩ (fun i H _ p => by obtain ⟨_, s, _⟩ := p; exact hG H s) ?_ ?_
  · rintro i x H H' hi ⟨ps, s, d, l, nd, fr, ob⟩ y
    refine hs i x H H' (fun y H4 => ∃ acc, H4 D = some (.lst acc) ∧ acc.length < sizeLine ∧ ∃ ps : List Addr, Same H1 (upd H4 D (.lst (acc ++ [y]))) ∧ upd H4 D (.lst (acc ++ [y])) D = some (.lst (ps.map V.ref)) ∧ ps.length = i + 1 ∧ ps.Nodup ∧ (∀ p ∈ ps, H1 p = none ∧ p ≠ D) ∧ ∀ (j : Nat) (p : Addr), ps[j]? = some p → upd H4 D (.lst (acc ++ [y])) p = some (o j)) hi s y fun p H4 s4 np hp => ?_
    have pD : p ≠ D := Ne.symm (ne_of_none d np)
    refine ⟨ps.map V.ref, s4 _ _ d, by rw [List.length_map]; omega, ps ++ [p], same_put (s.trans s4) nD, by rw [upd_same, List.map_append]; rfl, by rw [List.length_append, l]; rfl, ?_, ?_, ?_⟩
    · rw [List.nodup_append]
      refine ⟨nd, List.nodup_cons.mpr ⟨List.not_mem_nil, List.nodup_nil⟩, fun a ha b hb => ?_⟩
      rw [List.mem_singleton] at hb
      subst hb
      rintro rfl
      obtain ⟨j, hj⟩ := List.getElem?_of_mem ha
      have := ob j a hj
      rw [np] at this
      cases this
    · intro a ha
      rcases List.mem_append.mp ha with h | h
      · exact fr a h
      · rw [List.mem_singleton] at h
        subst h
        exact ⟨s.free np, pD⟩
    · intro j a ha
      by_cases hj : j < ps.length
      · rw [List.getElem?_append_left hj] at ha
        rw [upd_ne (fr a (List.mem_of_getElem? ha)).2]
        exact s4 _ _ (ob j a ha)
      · have hj2 := (List.getElem?_eq_some_iff.mp ha).1
        rw [List.length_append] at hj2
        have hj3 : j = ps.length := by
          simp only [List.length_cons, List.length_nil] at hj2
          omega
        subst hj3
        rw [List.getElem?_append_right (Nat.le_refl _), Nat.sub_self] at ha
        obtain rfl := Option.some.inj ha
        rw [upd_ne pD, l]
        exact hp
  · rintro H ⟨ps, s, d, l, nd, fr, ob⟩
    exact hd H ps s d l nd (fun p hp => (fr p hp).1) ob
/-- a comprehension whose items are tuples of numbers -/
theorem lc_tps {J : It} {n : Nat} {G : Hp → Prop} {Y : Nat → Hp → V → Hp → Prop} (w : Walk J n G Y) {g : TG} {te : TE} {vs : List Nat} {σ : L2.St} {H1 : Hp} {D : Addr} {Qd : Hp → Prop} (R : List (List Int)) (hn : R.length = n) (hz : n < sizeLine) (nD : H1 D = none)
    (hG : ∀ H, Same H1 H → G H)
    (hs : ∀ (i : Nat) (x : V) (y : List Int) (H H' : Hp) (Qy : VK), R[i]? = some y → i < n → Same H1 H → Y i H x H' → (∀ p H4, Same H H4 → Tp H4 p (y.map V.int) → Qy (.ref p) H4) → g x (wipe σ vs) H' fun σ2 H2 => wipe σ2 vs = wipe σ vs ∧ te σ2 H2 Qy)
    (hd : ∀ H (ps : List Addr), Same H1 H → H D = some (.lst (ps.map V.ref)) → Rw H ps R → Qd H) :
    ∃ W : Nat → Nat → Hp → Prop, (∃ m, W 0 m (upd H1 D (.lst []))) ∧ ∀ i m H, W i m H →
      (J.stop i H ∧ Qd H) ∨ (J.go i H ∧ ∃ Nx : Hp → Prop, (∀ H', Nx H' → ∃ m', m' < m ∧ W (i + 1) m' H') ∧ ∀ x H', J.yld i H x H' → g x (wipe σ vs) H' fun σ2 H2 => wipe σ2 vs = wipe σ vs ∧ tYes σ2 H2 fun b H3 =>
        if b = true then te σ2 H3 fun y H4 => ∃ acc, H4 D = some (.lst acc) ∧ acc.length < sizeLine ∧ Nx (upd H4 D (.lst (acc ++ [y]))) else Nx H3) := by
  refine lc_it w (tt := tYes) (fun i H => ∃ ps : List Addr, Same H1 H ∧ H D = some (.lst (ps.map V.ref)) ∧ Rw H ps (R.take i) ∧ ps.length = i)
    ⟨[], same_new nD, upd_same, ⟨rfl, fun j p r h => by cases h⟩, rfl⟩ (fun i H _ p => by obtain ⟨_, s, _⟩ := p; exact hG H s) ?_ ?_
  · rintro i x H H' hi ⟨ps, s, d, hR, l⟩ y
    have hiR : i < R.length := by omega
    obtain ⟨v, hv⟩ : ∃ v, R[i]? = some v := ⟨_, List.getElem?_eq_getElem hiR⟩
    refine hs i x v H H' (fun y H4 => ∃ acc, H4 D = some (.lst acc) ∧ acc.length < sizeLine ∧ ∃ ps : List Addr, Same H1 (upd H4 D (.lst (acc ++ [y]))) ∧ upd H4 D (.lst (acc ++ [y])) D = some (.lst (ps.map V.ref)) ∧ Rw (upd H4 D (.lst (acc ++ [y]))) ps (R.take (i + 1)) ∧ ps.length = i + 1) hv hi s y fun p H4 s4 hp => ?_
    have d4 := s4 _ _ d
    refine ⟨ps.map V.ref, d4, by rw [List.length_map]; omega, ps ++ [p], same_put (s.trans s4) nD, by rw [upd_same, List.map_append]; rfl, ?_, by rw [List.length_append, l]; rfl⟩
    rw [List.take_add_one, hv]
    exact ((hR.same s4).snoc hp).put d4
  · rintro H ⟨ps, s, d, hR, l⟩
    rw [← hn, List.take_length] at hR
    exact hd H ps s d hR
theorem call_tuple_ofK {X : Cx} {K : PySem.W.Frag} (h : X.K = K) : CallR X (.type "tuple") (fun xs H Q => ∃ p ys, xs = [.ref p] ∧ ((SqL K H p ys ∧ ∀ l, H l = none → Q (.ref l) (upd H l (.tup ys))) ∨ (SqT K H p ys ∧ Q (.ref p) H))) := by
  subst h
  exact call_tuple_of
theorem pi_tupK {X : Cx} {K : PySem.W.Frag} {tg l : Expr} {tl : TE} (h : X.K = K) (hl : PE X l tl) : PI X tg l (iTup K tl) := by
  subst h
  exact pi_tup hl
theorem pi_listK {X : Cx} {K : PySem.W.Frag} {tg l : Expr} {tl : TE} (h : X.K = K) (hl : PE X l tl) : PI X tg l (iList K tl) := by
  subst h
  exact pi_list hl
theorem getD_of {xs : List Int} {i : Nat} {x : Int} (h : xs[i]? = some x) : xs.getD i 0 = x := by
  rw [List.getD_eq_getElem?_getD, h]
  rfl
theorem call_len_seqK {X : Cx} {K : PySem.W.Frag} (h : X.K = K) : CallR X (.builtin "len") (fun xs H Q => ∃ p ys, xs = [.ref p] ∧ (SqL K H p ys ∨ SqT K H p ys) ∧ Q (.int ys.length) H) := by
  subst h
  exact call_len_seq
theorem cr_sumK {X : Cx} {K : PySem.W.Frag} (h : X.K = K) (hc : X.calm = true) : CallR X (.builtin "sum") (rSum K) := by
  subst h
  exact cr_sum hc
theorem mulB {k j : Nat} {x y : Int} (hk : 0 < k) (hj : 0 < j) (h1 : SmZ k x) (h2 : SmZ j y) (h : k + j ≤ 900000) : CMulW x y := by
  have a := smz_log hk h1
  have b := smz_log hj h2
  show x.natAbs.log2 + y.natAbs.log2 < 1000000
  omega
theorem cut_from {xs : List V} {i : Nat} : cutV xs (some (i : Int)) none = xs.drop i := by
  unfold cutV
  rw [HT.sIx_none, HT.sIx_nat]
  rw [List.take_of_length_le (by rw [List.length_drop]; omega)]
  by_cases h : i ≤ xs.length
  · rw [Nat.min_eq_left h]
  · rw [Nat.min_eq_right (by omega), List.drop_length, List.drop_eq_nil_of_le (by omega)]
theorem cut_to {xs : List V} {n : Nat} : cutV xs none (some (n : Int)) = xs.take n := by
  unfold cutV
  rw [HT.sIx_none, HT.sIx_nat, List.drop_zero, Nat.sub_zero]
  by_cases h : n ≤ xs.length
  · rw [Nat.min_eq_left h]
  · rw [Nat.min_eq_right (by omega), List.take_length, List.take_of_length_le (by omega)]
theorem op_catAK {X : Cx} {K : PySem.W.Frag} (h : X.K = K) : OpR X (binaryOp .Add) (rCatA K) := by
  subst h
  exact op_catA
theorem sl_listK {X : Cx} {K : PySem.W.Frag} (h : X.K = K) : SlR X (rSlL K) := by
  subst h
  exact sl_list
theorem sl_tupAK {X : Cx} {K : PySem.W.Frag} (h : X.K = K) : SlR X (rSlA K) := by
  subst h
  exact sl_tupA
theorem smz_add {n : Nat} {a b : Int} (h1 : SmZ n a) (h2 : SmZ n b) : SmZ (n + 1) (a + b) := by
  unfold SmZ at *
  have e : (2 : Nat) ^ (n + 1) = 2 ^ n * 2 := Nat.pow_succ ..
  omega
theorem smz_sub {n : Nat} {a b : Int} (h1 : SmZ n a) (h2 : SmZ n b) : SmZ (n + 1) (a - b) := by
  unfold SmZ at *
  have e : (2 : Nat) ^ (n + 1) = 2 ^ n * 2 := Nat.pow_succ ..
  omega
theorem dot_sm {k j : Nat} : ∀ {xs ys : List Int}, (∀ x ∈ xs, SmZ k x) → (∀ x ∈ ys, SmZ j x) → SmZ (k + j + xs.length) (dot xs ys)
  | [], ys, _, _ => Nat.two_pow_pos _
  | x :: xs, [], _, _ => Nat.two_pow_pos _
  | x :: xs, y :: ys, h1, h2 => by
    have ih := dot_sm (xs := xs) (ys := ys) (fun z hz => h1 z (List.mem_cons_of_mem _ hz)) (fun z hz => h2 z (List.mem_cons_of_mem _ hz))
    have h3 := smz_mul (h1 x (List.mem_cons_self ..)) (h2 y (List.mem_cons_self ..))
    have e : dot (x :: xs) (y :: ys) = x * y + dot xs ys := by
      unfold dot
      rw [List.zipWith_cons_cons, List.sum_cons]
    rw [e, List.length_cons]
    exact smz_add (n := k + j + xs.length) (smz_mono h3 (by omega)) ih
theorem flat1 (n : Nat) (x : V) : (List.replicate n [x]).flatten = List.replicate n x := by
  induction n with
  | zero => rfl
  | succ n ih => rw [List.replicate_succ, List.flatten_cons, ih]; rfl
theorem zip_len (l1 l2 : List V) (n : Nat) (h1 : l1.length = n) (h2 : l2.length = n) : n = min l1.length l2.length := by omega
theorem tifs_rest {c : TT} {t u : TS} {D : Ends} {σ : L2.St} {H : Hp} (Good : L2.St → Hp → Prop) (rest : ∀ σ' H', Good σ' H' → D.nx σ' H') (paths : (∀ σ' H', Good σ' H' → D.nx σ' H') → tIfS c t u D σ H) : tIfS c t u D σ H := paths rest
theorem gname_ {i : Nat} {v : V} {σ : L2.St} {H : Hp} {Q : L2.St → Hp → Prop} (h : Q (σ.set i (some v)) H) : gName i v σ H Q := h
theorem seq_ {t u : TS} {D : Ends} {σ : L2.St} {H : Hp} (h : t { D with nx := u D } σ H) : tSeq t u D σ H := h
theorem Rws.snoc {H : Hp} {ps : List Addr} {rows : List (List Int)} {n : Nat} {p : Addr} {r : List Int} (h : Rws H ps rows n) (hp : Row H p r) (hl : r.length = n) : Rws H (ps ++ [p]) (rows ++ [r]) n := by
  refine ⟨by rw [List.length_append, List.length_append, h.1]; rfl, fun j a z h1 h2 => ?_⟩
  by_cases hj : j < ps.length
  · rw [List.getElem?_append_left hj] at h1
    rw [List.getElem?_append_left (by rw [← h.1]; exact hj)] at h2
    exact h.2 j a z h1 h2
  · rw [List.getElem?_append_right (by omega)] at h1
    rw [List.getElem?_append_right (by rw [← h.1]; omega)] at h2
    have j0 : j - ps.length = 0 := by
      have := (List.getElem?_eq_some_iff.mp h1).1
      simp only [List.length_cons, List.length_nil] at this
      omega
    rw [j0] at h1
    rw [← h.1, j0] at h2
    obtain rfl : p = a := Option.some.inj h1
    obtain rfl : r = z := Option.some.inj h2
    exact ⟨hp, hl⟩
theorem call_isiK {X : Cx} {K : PySem.W.Frag} (h : X.K = K) : CallR X (.builtin "isinstance") (rIsi K) := by
  subst h
  exact call_isi
end Vk
namespace Vd
/-- the sum of the first n -/
def S : Nat → (Nat → Int) → Int
  | 0, _ => 0
  | n + 1, f => S n f + f n
theorem S_congr {f g : Nat → Int} : ∀ n, (∀ j, j < n → f j = g j) → S n f = S n g
  | 0, _ => rfl
  | n + 1, h => by
    show S n f + f n = S n g + g n
    rw [S_congr n fun j hj => h j (by omega), h n (by omega)]
theorem S_add (f g : Nat → Int) : ∀ n, S n (fun j => f j + g j) = S n f + S n g
  | 0 => rfl
  | n + 1 => by
    show S n (fun j => f j + g j) + (f n + g n) = _
    rw [S_add f g n]
    show _ = S n f + f n + (S n g + g n)
    omega
theorem S_mul (k : Int) (f : Nat → Int) : ∀ n, S n (fun j => k * f j) = k * S n f
  | 0 => by simp [S]
  | n + 1 => by
    show S n (fun j => k * f j) + k * f n = k * (S n f + f n)
    rw [S_mul k f n, Int.mul_add]
theorem S_zero : ∀ n, S n (fun _ => 0) = 0
  | 0 => rfl
  | n + 1 => by
    show S n (fun _ => 0) + 0 = 0
    rw [S_zero n]
    rfl
theorem S_head (f : Nat → Int) : ∀ n, S (n + 1) f = f 0 + S n fun j => f (j + 1)
  | 0 => by
    show 0 + f 0 = f 0 + 0
    omega
  | n + 1 => by
    show S (n + 1) f + f (n + 1) = f 0 + (S n (fun j => f (j + 1)) + f (n + 1))
    rw [S_head f n]
    omega
theorem S_swap (f : Nat → Nat → Int) (m : Nat) : ∀ n, S n (fun j => S m (fun k => f j k)) = S m (fun k => S n (fun j => f j k))
  | 0 => (S_zero m).symm
  | n + 1 => by
    show S n (fun j => S m (fun k => f j k)) + S m (fun k => f n k) = S m (fun k => S n (fun j => f j k) + f n k)
    rw [S_swap f m n, ← S_add]
theorem S_one {f : Nat → Int} {i : Nat} : ∀ n, i < n → (∀ j, j < n → j ≠ i → f j = 0) → S n f = f i
  | 0, h, _ => by omega
  | n + 1, h, z => by
    show S n f + f n = f i
    by_cases e : i = n
    · subst e
      rw [S_congr (g := fun _ => 0) i fun j hj => z j (by omega) (by omega), S_zero]
      omega
    · rw [S_one n (by omega) fun j hj ne => z j (by omega) ne, z n (by omega) (by omega)]
      omega
theorem S_two {f : Nat → Int} {i : Nat} : ∀ n, i + 1 < n → (∀ j, j < n → j ≠ i → j ≠ i + 1 → f j = 0) → S n f = f i + f (i + 1)
  | 0, h, _ => by omega
  | n + 1, h, z => by
    show S n f + f n = _
    by_cases e : i + 1 = n
    · subst e
      rw [S_one (i := i) (i + 1) (by omega) fun j hj ne => z j (by omega) ne (by omega)]
    · rw [S_two n (by omega) fun j hj a b => z j (by omega) a b, z n (by omega) (by omega) (by omega)]
      omega
abbrev Mt := Nat → Nat → Int
/-- a number that leaves i out -/
def sk (i r : Nat) : Nat := if r < i then r else r + 1
theorem sk_zero (r : Nat) : sk 0 r = r + 1 := by simp [sk]
theorem sk_succ (i r : Nat) : sk (i + 1) (r + 1) = sk i r + 1 := by
  unfold sk
  split <;> split <;> omega
theorem sk_succ0 (i : Nat) : sk (i + 1) 0 = 0 := by simp [sk]
theorem sk_lt {i r n : Nat} (h : r < n) : sk i r < n + 1 := by
  unfold sk
  split <;> omega
theorem sk_ne (i r : Nat) : sk i r ≠ i := by
  unfold sk
  split <;> omega
/-- what is left without row i and column j -/
def mn (i j : Nat) (A : Mt) : Mt := fun r c => A (sk i r) (sk j c)
def sg (j : Nat) : Int := if j % 2 = 0 then 1 else -1
theorem sg_zero : sg 0 = 1 := rfl
theorem sg_succ (j : Nat) : sg (j + 1) = - sg j := by
  unfold sg
  split <;> split <;> omega
theorem sg_sq (j : Nat) : sg j * sg j = 1 := by
  unfold sg
  split <;> decide
/-- the determinant along the first row -/
def det : Nat → Mt → Int
  | 0, _ => 1
  | n + 1, A => S (n + 1) fun j => sg j * A 0 j * det n (mn 0 j A)
/-- the determinant along the first column -/
def detC : Nat → Mt → Int
  | 0, _ => 1
  | n + 1, A => S (n + 1) fun i => sg i * A i 0 * detC n (mn i 0 A)
theorem det_congr : ∀ (n : Nat) {A B : Mt}, (∀ r c, r < n → c < n → A r c = B r c) → det n A = det n B
  | 0, _, _, _ => rfl
  | n + 1, A, B, h => by
    refine S_congr _ fun j hj => ?_
    rw [h 0 j (by omega) hj, det_congr n (A := mn 0 j A) (B := mn 0 j B) fun r c hr hc => h _ _ (sk_lt hr) (sk_lt hc)]
theorem detC_tr : ∀ (n : Nat) (A : Mt), detC n A = det n fun r c => A c r
  | 0, _ => rfl
  | n + 1, A => S_congr _ fun j hj => by
    rw [detC_tr n]
    rfl
/-- both ways are one -/
theorem det_detC : ∀ (n : Nat) (A : Mt), det n A = detC n A
  | 0, _ => rfl
  | 1, A => rfl
  | n + 2, A => by
    show S (n + 2) (fun j => sg j * A 0 j * det (n + 1) (mn 0 j A)) = S (n + 2) fun i => sg i * A i 0 * detC (n + 1) (mn i 0 A)
    refine (S_head _ (n + 1)).trans (Eq.trans ?_ (S_head _ (n + 1)).symm)
    rw [det_detC (n + 1) (mn 0 0 A)]
    congr 1
    have l : ∀ j, sg (j + 1) * A 0 (j + 1) * det (n + 1) (mn 0 (j + 1) A) = S (n + 1) fun i => sg (j + 1) * A 0 (j + 1) * (sg i * A (i + 1) 0 * det n (mn i 0 (mn 0 (j + 1) A))) := fun j => by
      rw [det_detC (n + 1) (mn 0 (j + 1) A), S_mul]
      congr 1
      exact S_congr _ fun i hi => by
        rw [det_detC n]
        show sg i * A (sk 0 i) (sk (j + 1) 0) * _ = _
        rw [sk_zero, sk_succ0]
    have r : ∀ i, sg (i + 1) * A (i + 1) 0 * detC (n + 1) (mn (i + 1) 0 A) = S (n + 1) fun j => sg (i + 1) * A (i + 1) 0 * (sg j * A 0 (j + 1) * det n (mn 0 j (mn (i + 1) 0 A))) := fun i => by
      rw [← det_detC (n + 1) (mn (i + 1) 0 A), S_mul]
      congr 1
    rw [S_congr (n + 1) fun j hj => l j, S_congr (n + 1) fun i hi => r i, S_swap]
    refine S_congr _ fun i hi => S_congr _ fun j hj => ?_
    have e : mn i 0 (mn 0 (j + 1) A) = mn 0 j (mn (i + 1) 0 A) := by
      funext r c
      show A (sk 0 (sk i r)) (sk (j + 1) (sk 0 c)) = A (sk (i + 1) (sk 0 r)) (sk 0 (sk j c))
      rw [sk_zero, sk_zero, sk_zero, sk_zero, sk_succ, sk_succ]
    rw [e, sg_succ, sg_succ]
    grind
/-- turned over -/
theorem det_tr (n : Nat) (A : Mt) : det n (fun r c => A c r) = det n A := by
  rw [← detC_tr, det_detC]
/-- another row i -/
def up (A : Mt) (i : Nat) (v : Nat → Int) : Mt := fun r c => if r = i then v c else A r c
theorem up_same (A : Mt) (i : Nat) : up A i (A i) = A := by
  funext r c
  unfold up
  split
  · next h => rw [h]
  · rfl
theorem up_at (A : Mt) (i : Nat) (v : Nat → Int) : up A i v i = v := by
  funext c
  simp [up]
theorem up_ne {A : Mt} {i r : Nat} {v : Nat → Int} (h : r ≠ i) : up A i v r = A r := by
  funext c
  simp [up, h]
theorem up_up (A : Mt) (i : Nat) (v w : Nat → Int) : up (up A i v) i w = up A i w := by
  funext r c
  unfold up
  split <;> rfl
theorem up_comm {A : Mt} {i j : Nat} {v w : Nat → Int} (h : i ≠ j) : up (up A i v) j w = up (up A j w) i v := by
  funext r c
  unfold up
  split
  · next e => rw [if_neg (by omega)]
  · rfl
theorem mn_up0 (A : Mt) (j : Nat) (v : Nat → Int) : mn 0 j (up A 0 v) = mn 0 j A := by
  funext r c
  show up A 0 v (sk 0 r) (sk j c) = A (sk 0 r) (sk j c)
  rw [up_ne (by rw [sk_zero]; omega)]
theorem mn_up (A : Mt) (i j : Nat) (v : Nat → Int) : mn 0 j (up A (i + 1) v) = up (mn 0 j A) i fun c => v (sk j c) := by
  funext r c
  show up A (i + 1) v (sk 0 r) (sk j c) = up (mn 0 j A) i (fun c => v (sk j c)) r c
  rw [sk_zero]
  unfold up
  by_cases h : r = i
  · rw [if_pos (by omega), if_pos h]
  · rw [if_neg (by omega), if_neg h]
    show _ = A (sk 0 r) (sk j c)
    rw [sk_zero]
theorem det_lin : ∀ (n : Nat) (A : Mt) (i : Nat) (v w : Nat → Int) (a b : Int), i < n → det n (up A i fun c => a * v c + b * w c) = a * det n (up A i v) + b * det n (up A i w)
  | 0, _, _, _, _, _, _, h => by omega
  | n + 1, A, i, v, w, a, b, h => by
    show S (n + 1) (fun j => sg j * up A i (fun c => a * v c + b * w c) 0 j * det n (mn 0 j (up A i fun c => a * v c + b * w c))) = a * S (n + 1) (fun j => sg j * up A i v 0 j * det n (mn 0 j (up A i v))) + b * S (n + 1) (fun j => sg j * up A i w 0 j * det n (mn 0 j (up A i w)))
    rw [← S_mul, ← S_mul, ← S_add]
    refine S_congr _ fun j hj => ?_
    cases i with
    | zero =>
      rw [mn_up0, mn_up0, mn_up0, up_at, up_at, up_at]
      grind
    | succ i =>
      rw [mn_up, mn_up, mn_up, up_ne (by omega), up_ne (by omega), up_ne (by omega), det_lin n _ i _ _ a b (by omega)]
      grind
theorem det_adj : ∀ (n : Nat) (A : Mt) (i : Nat), i + 1 < n → (∀ c, c < n → A i c = A (i + 1) c) → det n A = 0
  | 0, _, _, h, _ => by omega
  | 1, _, _, h, _ => by omega
  | n + 2, A, i, h, e => by
    rw [det_detC]
    show S (n + 2) (fun r => sg r * A r 0 * detC (n + 1) (mn r 0 A)) = 0
    rw [S_two (i := i) (n + 2) h fun r hr a b => ?_]
    · have m : detC (n + 1) (mn i 0 A) = detC (n + 1) (mn (i + 1) 0 A) := by
        rw [← det_detC, ← det_detC]
        refine det_congr _ fun r c hr hc => ?_
        show A (sk i r) (sk 0 c) = A (sk (i + 1) r) (sk 0 c)
        by_cases z : r = i
        · subst z
          have e1 : sk r r = r + 1 := by simp [sk]
          have e2 : sk (r + 1) r = r := by simp [sk]
          rw [e1, e2]
          exact (e _ (sk_lt hc)).symm
        · have : sk i r = sk (i + 1) r := by
            unfold sk
            split <;> split <;> omega
          rw [this]
      rw [m, sg_succ, e 0 (by omega)]
      grind
    · rw [← det_detC]
      rcases Nat.lt_or_ge r i with l | l
      · rw [det_adj (n + 1) (mn r 0 A) (i - 1) (by omega) fun c hc => ?_]
        · omega
        · show A (sk r (i - 1)) _ = A (sk r (i - 1 + 1)) _
          have e1 : sk r (i - 1) = i := by
            unfold sk
            split <;> omega
          have e2 : sk r (i - 1 + 1) = i + 1 := by
            unfold sk
            split <;> omega
          rw [e1, e2]
          exact e _ (sk_lt hc)
      · rw [det_adj (n + 1) (mn r 0 A) i (by omega) fun c hc => ?_]
        · omega
        · show A (sk r i) _ = A (sk r (i + 1)) _
          have e1 : sk r i = i := by
            unfold sk
            split <;> omega
          have e2 : sk r (i + 1) = i + 1 := by
            unfold sk
            split <;> omega
          rw [e1, e2]
          exact e _ (sk_lt hc)
/-- linear in each row, 0 where two are the same -/
structure Alt (n : Nat) (D : Mt → Int) : Prop where
  cong : ∀ A B : Mt, (∀ r c, r < n → c < n → A r c = B r c) → D A = D B
  lin : ∀ (A : Mt) (i : Nat) (v w : Nat → Int) (a b : Int), i < n → D (up A i fun c => a * v c + b * w c) = a * D (up A i v) + b * D (up A i w)
  adj : ∀ (A : Mt) (i : Nat), i + 1 < n → (∀ c, c < n → A i c = A (i + 1) c) → D A = 0
theorem alt_det (n : Nat) : Alt n (det n) := ⟨fun A B h => det_congr n h, det_lin n, det_adj n⟩
namespace Alt
variable {n : Nat} {D : Mt → Int}
theorem plus (h : Alt n D) (A : Mt) {i : Nat} (v w : Nat → Int) (hi : i < n) : D (up A i fun c => v c + w c) = D (up A i v) + D (up A i w) := by
  have e := h.lin A i v w 1 1 hi
  simp only [Int.one_mul] at e
  exact e
/-- rows i and i + 1 the other way round -/
theorem flip (h : Alt n D) (A : Mt) {i : Nat} (hi : i + 1 < n) : D (up (up A i (A (i + 1))) (i + 1) (A i)) = - D A := by
  have z : ∀ v w : Nat → Int, D (up (up A i v) (i + 1) w) + D (up (up A i w) (i + 1) v) = 0 := fun v w => by
    have z0 : ∀ u : Nat → Int, D (up (up A i u) (i + 1) u) = 0 := fun u => h.adj _ i hi fun c hc => by rw [up_at, up_ne (by omega), up_at]
    have z1 := z0 fun c => v c + w c
    have a1 := h.plus (up A i fun c => v c + w c) v w hi
    have a2 : ∀ u : Nat → Int, D (up (up A i fun c => v c + w c) (i + 1) u) = D (up (up A i v) (i + 1) u) + D (up (up A i w) (i + 1) u) := fun u => by
      rw [up_comm (by omega), h.plus _ v w (by omega), up_comm (i := i + 1) (v := u) (w := v) (by omega), up_comm (i := i + 1) (v := u) (w := w) (by omega)]
    rw [a1, a2 v, a2 w, z0 v, z0 w] at z1
    omega
  have e := z (A (i + 1)) (A i)
  have s : up (up A i (A i)) (i + 1) (A (i + 1)) = A := by rw [up_same, up_same]
  rw [s] at e
  omega
end Alt
end Vd
namespace Vd
namespace Alt
variable {n : Nat} {D : Mt → Int}
/-- two rows that are the same -/
theorem same (h : Alt n D) : ∀ (d : Nat) (A : Mt) (i : Nat), i + d + 1 < n → (∀ c, c < n → A i c = A (i + d + 1) c) → D A = 0
  | 0, A, i, hi, e => h.adj A i hi e
  | d + 1, A, i, hi, e => by
    have f := h.flip A (i := i + d + 1) (by omega)
    have z := same h d (up (up A (i + d + 1) (A (i + d + 1 + 1))) (i + d + 1 + 1) (A (i + d + 1))) i (by omega) fun c hc => by
      rw [up_ne (by omega), up_ne (by omega), up_ne (by omega), up_at]
      exact e c hc
    rw [z] at f
    omega
theorem eq_rows (h : Alt n D) (A : Mt) {i j : Nat} (hi : i < n) (hj : j < n) (ne : i ≠ j) (e : ∀ c, c < n → A i c = A j c) : D A = 0 := by
  rcases Nat.lt_or_gt_of_ne ne with l | l
  · have := h.same (j - i - 1) A i (by omega) fun c hc => by
      rw [show i + (j - i - 1) + 1 = j by omega]
      exact e c hc
    exact this
  · have := h.same (i - j - 1) A j (by omega) fun c hc => by
      rw [show j + (i - j - 1) + 1 = i by omega]
      exact (e c hc).symm
    exact this
/-- a multiple of another row added -/
theorem add (h : Alt n D) (A : Mt) {i j : Nat} (hi : i < n) (hj : j < n) (ne : i ≠ j) (t : Int) : D (up A i fun c => A i c + t * A j c) = D A := by
  have e := h.lin A i (A i) (A j) 1 t hi
  simp only [Int.one_mul] at e
  rw [e, up_same, h.eq_rows (up A i (A j)) hi hj ne fun c _ => by rw [up_at, up_ne (Ne.symm ne)]]
  omega
theorem scale (h : Alt n D) (A : Mt) {i : Nat} (hi : i < n) (v : Nat → Int) (t : Int) : D (up A i fun c => t * v c) = t * D (up A i v) := by
  have e := h.lin A i v v t 0 hi
  rw [Int.zero_mul, Int.add_zero] at e
  rw [← e]
  congr 2
  funext c
  omega
theorem zero (h : Alt n D) (A : Mt) {i : Nat} (hi : i < n) (z : ∀ c, c < n → A i c = 0) : D A = 0 := by
  have e := h.scale A hi (A i) 0
  rw [Int.zero_mul] at e
  rw [← e]
  refine h.cong _ _ fun r c hr hc => ?_
  unfold up
  split
  · next q =>
      show A r c = 0 * A i c
      rw [q, z c hc]
      rfl
  · rfl
theorem neg (h : Alt n D) (A : Mt) {i j : Nat} (hi : i < n) (hj : j < n) (ne : i ≠ j) (v w : Nat → Int) : D (up (up A i v) j w) = - D (up (up A i w) j v) := by
  have z0 : ∀ u : Nat → Int, D (up (up A i u) j u) = 0 := fun u => h.eq_rows _ hi hj ne fun c hc => by rw [up_at, up_ne ne, up_at]
  have z1 := z0 fun c => v c + w c
  have a1 := h.plus (up A i fun c => v c + w c) v w hj
  have a2 : ∀ u : Nat → Int, D (up (up A i fun c => v c + w c) j u) = D (up (up A i v) j u) + D (up (up A i w) j u) := fun u => by
    rw [up_comm ne, h.plus _ v w hi, up_comm (i := j) (v := u) (w := v) (Ne.symm ne), up_comm (i := j) (v := u) (w := w) (Ne.symm ne)]
  rw [a1, a2 v, a2 w, z0 v, z0 w] at z1
  omega
/-- a row that is a sum -/
theorem sum (h : Alt n D) (A : Mt) {i : Nat} (hi : i < n) (f : Nat → Nat → Int) (a : Nat → Int) : ∀ m, D (up A i fun c => S m fun j => a j * f j c) = S m fun j => a j * D (up A i (f j))
  | 0 => h.zero _ hi fun c _ => by rw [up_at]; rfl
  | m + 1 => by
    have e := h.lin A i (fun c => S m fun j => a j * f j c) (f m) 1 (a m) hi
    simp only [Int.one_mul] at e
    show D (up A i fun c => (S m fun j => a j * f j c) + a m * f m c) = (S m fun j => a j * D (up A i (f j))) + a m * D (up A i (f m))
    rw [e, sum h A hi f a m]
end Alt
/-- the unit table -/
def one : Mt := fun r c => if r = c then 1 else 0
/-- row 0 is unit row j, behind it the rows of B with 0 at place j -/
def bor (j : Nat) (B : Mt) : Mt := fun r c => if r = 0 then one j c else if c = j then 0 else B (r - 1) (if c < j then c else c - 1)
theorem bor_up (j : Nat) (B : Mt) (i : Nat) (v : Nat → Int) : bor j (up B i v) = up (bor j B) (i + 1) fun c => if c = j then 0 else v (if c < j then c else c - 1) := by
  funext r c
  simp only [bor, up]
  by_cases h : r = 0
  · rw [if_pos h, if_neg (by omega), if_pos h]
  · rw [if_neg h]
    by_cases e : r = i + 1
    · rw [if_pos e, if_pos (show r - 1 = i by omega)]
    · rw [if_neg e, if_neg (show ¬ r - 1 = i by omega), if_neg h]
theorem alt_bor {n : Nat} {D : Mt → Int} (h : Alt (n + 1) D) (j : Nat) (hj : j < n + 1) : Alt n fun B => D (bor j B) := by
  refine ⟨fun A B e => h.cong _ _ fun r c hr hc => ?_, fun A i v w a b hi => ?_, fun A i hi e => ?_⟩
  · unfold bor
    split
    · rfl
    · split
      · rfl
      · exact e _ _ (by omega) (by split <;> omega)
  · show D (bor j (up A i _)) = _ * D (bor j (up A i v)) + _ * D (bor j (up A i w))
    rw [bor_up, bor_up, bor_up, ← h.lin _ _ _ _ a b (by omega)]
    congr 2
    funext c
    split
    · omega
    · rfl
  · refine h.adj _ (i + 1) (by omega) fun c hc => ?_
    simp only [bor]
    rw [if_neg (show ¬ i + 1 = 0 by omega), if_neg (show ¬ i + 1 + 1 = 0 by omega)]
    by_cases b : c = j
    · rw [if_pos b, if_pos b]
    · rw [if_neg b, if_neg b]
      exact e _ (by split <;> omega)
/-- unit row j at place k, the other unit rows in their sequence -/
def idx (j k r : Nat) : Nat := if r < k then r else if r = k then j else if r ≤ j then r - 1 else r
def mov (j k : Nat) : Mt := fun r c => one (idx j k r) c
theorem mov_step {n : Nat} {D : Mt → Int} (h : Alt n D) {j k : Nat} (hk : k < j) (hj : j < n) : D (mov j k) = - D (mov j (k + 1)) := by
  have e := h.neg (mov j k) (i := k) (j := k + 1) (by omega) (by omega) (by omega) (one j) (one k)
  have e1 : up (up (mov j k) k (one j)) (k + 1) (one k) = mov j k := by
    funext r c
    simp only [up, mov]
    by_cases a : r = k + 1
    · rw [if_pos a]
      congr 1
      simp only [idx]
      rw [if_neg (by omega), if_neg (by omega), if_pos (by omega)]
      omega
    · rw [if_neg a]
      by_cases b : r = k
      · rw [if_pos b]
        congr 1
        simp only [idx]
        rw [if_neg (by omega), if_pos b]
      · rw [if_neg b]
  have e2 : up (up (mov j k) k (one k)) (k + 1) (one j) = mov j (k + 1) := by
    funext r c
    simp only [up, mov]
    by_cases a : r = k + 1
    · rw [if_pos a]
      congr 1
      simp only [idx]
      rw [if_neg (by omega), if_pos a]
    · rw [if_neg a]
      by_cases b : r = k
      · rw [if_pos b]
        congr 1
        simp only [idx]
        rw [if_pos (by omega)]
        exact b.symm
      · rw [if_neg b]
        congr 1
        simp only [idx]
        by_cases l : r < k
        · rw [if_pos l, if_pos (by omega)]
        · rw [if_neg l, if_neg b, if_neg (show ¬ r < k + 1 by omega), if_neg a]
  rw [e1, e2] at e
  exact e
theorem mov_all {n : Nat} {D : Mt → Int} (h : Alt n D) {j : Nat} (hj : j < n) : ∀ d k, k + d = j → D (mov j k) = sg d * D one
  | 0, k, e => by
    have : mov j k = one := by
      funext r c
      simp only [mov]
      congr 1
      simp only [idx]
      split
      · rfl
      · split
        · omega
        · rw [if_neg (by omega)]
    rw [this, sg_zero]
    omega
  | d + 1, k, e => by
    rw [mov_step h (by omega) hj, mov_all h hj d (k + 1) (by omega), sg_succ]
    grind
theorem bor_one {n : Nat} {D : Mt → Int} (h : Alt (n + 1) D) {j : Nat} (hj : j < n + 1) : D (bor j one) = sg j * D one := by
  rw [← mov_all h hj j 0 (by omega)]
  refine h.cong _ _ fun r c hr hc => ?_
  show bor j one r c = one (idx j 0 r) c
  by_cases a : r = 0
  · have e1 : idx j 0 r = j := by simp [idx, a]
    rw [e1]
    simp [bor, a]
  · have e1 : idx j 0 r = if r ≤ j then r - 1 else r := by simp [idx, a]
    rw [e1]
    simp only [bor]
    rw [if_neg a]
    by_cases b : c = j
    · rw [if_pos b]
      simp only [one]
      split
      · rw [if_neg (by omega)]
      · rw [if_neg (by omega)]
    · rw [if_neg b]
      simp only [one]
      split <;> split <;> split <;> first | rfl | omega
/-- the first row a unit row: what is left counts alone -/
theorem bor_mn {n : Nat} {D : Mt → Int} (h : Alt (n + 1) D) {j : Nat} (hj : j < n + 1) (A : Mt) : D (up A 0 (one j)) = D (bor j (mn 0 j A)) := by
  have cl : ∀ m, m ≤ n → D (fun r c => if 1 ≤ r ∧ r ≤ m ∧ c = j then 0 else up A 0 (one j) r c) = D (up A 0 (one j)) := fun m => by
    induction m with
    | zero =>
      intro _
      refine h.cong _ _ fun r c hr hc => ?_
      rw [if_neg (by omega)]
    | succ m ih =>
      intro hm
      rw [← ih (by omega)]
      generalize hX : (fun r c => if 1 ≤ r ∧ r ≤ m ∧ c = j then 0 else up A 0 (one j) r c) = X
      rw [← h.add X (i := m + 1) (j := 0) (by omega) (by omega) (by omega) (- A (m + 1) j)]
      refine h.cong _ _ fun r c hr hc => ?_
      have x0 : X 0 c = one j c := by
        rw [← hX]
        show (if 1 ≤ 0 ∧ 0 ≤ m ∧ c = j then 0 else up A 0 (one j) 0 c) = one j c
        rw [if_neg (by omega), up_at]
      have xr : ∀ r, X r c = if 1 ≤ r ∧ r ≤ m ∧ c = j then 0 else up A 0 (one j) r c := fun r => by rw [← hX]
      by_cases e : r = m + 1
      · rw [e, up_at]
        have xm : X (m + 1) c = A (m + 1) c := by rw [xr (m + 1), if_neg (by omega), up_ne (by omega)]
        show (if 1 ≤ m + 1 ∧ m + 1 ≤ m + 1 ∧ c = j then 0 else up A 0 (one j) (m + 1) c) = X (m + 1) c + - A (m + 1) j * X 0 c
        rw [x0, xm, up_ne (show m + 1 ≠ 0 by omega)]
        by_cases b : c = j
        · rw [if_pos ⟨by omega, by omega, b⟩, b]
          have o : one j j = 1 := by simp [one]
          rw [o]
          omega
        · rw [if_neg (fun z => b z.2.2)]
          simp only [one]
          rw [if_neg (Ne.symm b)]
          omega
      · rw [up_ne e, xr r]
        by_cases b : c = j
        · by_cases l : 1 ≤ r ∧ r ≤ m
          · rw [if_pos ⟨l.1, by omega, b⟩, if_pos ⟨l.1, l.2, b⟩]
          · rw [if_neg (by omega), if_neg (by omega)]
        · rw [if_neg (by omega), if_neg (by omega)]
  rw [← cl n (Nat.le_refl _)]
  refine h.cong _ _ fun r c hr hc => ?_
  simp only [bor, mn]
  by_cases a : r = 0
  · rw [if_neg (by omega), if_pos a, a, up_at]
  · rw [if_neg a, up_ne a]
    by_cases b : c = j
    · rw [if_pos ⟨by omega, by omega, b⟩, if_pos b]
    · rw [if_neg (by omega), if_neg b, sk_zero]
      congr 1
      · omega
      · unfold sk
        by_cases l : c < j
        · rw [if_pos l, if_pos l]
        · rw [if_neg l, if_neg (by omega)]
          omega
/-- there is but one -/
theorem uniq : ∀ (n : Nat) (D : Mt → Int), Alt n D → ∀ A, D A = D one * det n A
  | 0, D, h, A => by
    rw [h.cong A one fun r c hr _ => by omega]
    show _ = _ * 1
    omega
  | n + 1, D, h, A => by
    have e0 : D A = D (up A 0 fun c => S (n + 1) fun j => A 0 j * one j c) := h.cong _ _ fun r c hr hc => by
      by_cases a : r = 0
      · rw [a, up_at]
        rw [S_one (i := c) (n + 1) hc fun j hj ne => by simp [one, ne]]
        simp [one]
      · rw [up_ne a]
    rw [e0, h.sum A (by omega) one (A 0)]
    show _ = D one * S (n + 1) fun j => sg j * A 0 j * det n (mn 0 j A)
    rw [← S_mul]
    refine S_congr _ fun j hj => ?_
    have u := uniq n (fun B => D (bor j B)) (alt_bor h j hj) (mn 0 j A)
    rw [bor_mn h hj, u, bor_one h hj]
    grind
/-- of a product -/
def mul (n : Nat) (A B : Mt) : Mt := fun r c => S n fun j => A r j * B j c
theorem mul_up (n : Nat) (A B : Mt) (i : Nat) (v : Nat → Int) : mul n (up A i v) B = up (mul n A B) i fun c => S n fun j => v j * B j c := by
  funext r c
  simp only [mul, up]
  split <;> rfl
theorem alt_mul (n : Nat) (B : Mt) : Alt n fun A => det n (mul n A B) := by
  have h := alt_det n
  refine ⟨fun A A' e => det_congr n fun r c hr hc => S_congr _ fun j hj => by rw [e r j hr hj], fun A i v w a b hi => ?_, fun A i hi e => ?_⟩
  · show det n (mul n (up A i _) B) = _ * det n (mul n (up A i v) B) + _ * det n (mul n (up A i w) B)
    rw [mul_up, mul_up, mul_up, ← h.lin _ _ _ _ a b hi]
    congr 2
    funext c
    rw [← S_mul, ← S_mul, ← S_add]
    exact S_congr _ fun j hj => by grind
  · exact h.adj _ i hi fun c hc => S_congr _ fun j hj => by rw [e j hj]
theorem mul_one (n : Nat) (B : Mt) {r c : Nat} (hr : r < n) : mul n one B r c = B r c := by
  show S n (fun j => one r j * B j c) = B r c
  rw [S_one (i := r) n hr fun j hj ne => by simp [one, Ne.symm ne]]
  simp [one]
theorem det_mul (n : Nat) (A B : Mt) : det n (mul n A B) = det n A * det n B := by
  have u := uniq n _ (alt_mul n B) A
  have e : det n (mul n one B) = det n B := det_congr n fun r c hr hc => mul_one n B hr
  rw [u, e, Int.mul_comm]
theorem det_one : ∀ n, det n one = 1
  | 0 => rfl
  | n + 1 => by
    show S (n + 1) (fun j => sg j * one 0 j * det n (mn 0 j one)) = 1
    rw [S_one (i := 0) (n + 1) (by omega) fun j hj ne => by simp [one, Ne.symm ne]]
    have e : det n (mn 0 0 one) = 1 := by
      rw [← det_one n]
      refine det_congr n fun r c _ _ => ?_
      show one (sk 0 r) (sk 0 c) = one r c
      simp [sk_zero, one]
    rw [e]
    simp [one, sg_zero]
/-- turned round in rows and columns -/
def rev (n : Nat) (A : Mt) : Mt := fun r c => A (n - 1 - r) (n - 1 - c)
theorem rev_up {n : Nat} (A : Mt) {i : Nat} (hi : i < n) (v : Nat → Int) : ∀ r c, r < n → rev n (up A i v) r c = up (rev n A) (n - 1 - i) (fun c => v (n - 1 - c)) r c := fun r c hr => by
  simp only [rev, up]
  by_cases a : r = n - 1 - i
  · rw [if_pos a, if_pos (by omega)]
  · rw [if_neg a, if_neg (by omega)]
theorem det_rev (n : Nat) (A : Mt) : det n (rev n A) = det n A := by
  have h := alt_det n
  have al : Alt n fun A => det n (rev n A) := by
    refine ⟨fun A A' e => det_congr n fun r c hr hc => e _ _ (by omega) (by omega), fun A i v w a b hi => ?_, fun A i hi e => ?_⟩
    · show det n (rev n (up A i _)) = _ * det n (rev n (up A i v)) + _ * det n (rev n (up A i w))
      rw [det_congr n fun r c hr _ => rev_up A hi _ r c hr, det_congr n (A := rev n (up A i v)) fun r c hr _ => rev_up A hi _ r c hr, det_congr n (A := rev n (up A i w)) fun r c hr _ => rev_up A hi _ r c hr]
      exact h.lin _ _ _ _ a b (by omega)
    · refine h.eq_rows _ (i := n - 1 - i) (j := n - 1 - (i + 1)) (by omega) (by omega) (by omega) fun c hc => ?_
      show A (n - 1 - (n - 1 - i)) _ = A (n - 1 - (n - 1 - (i + 1))) _
      rw [show n - 1 - (n - 1 - i) = i by omega, show n - 1 - (n - 1 - (i + 1)) = i + 1 by omega]
      exact e _ (by omega)
  have u := uniq n _ al A
  have e : det n (rev n one) = 1 := by
    rw [← det_one n]
    refine det_congr n fun r c hr hc => ?_
    simp only [rev, one]
    by_cases a : r = c
    · rw [if_pos a, if_pos (by omega)]
    · rw [if_neg a, if_neg (by omega)]
  rw [u, e, Int.one_mul]
end Vd
namespace Vd
theorem S_sub1 {n : Nat} {f : Nat → Int} (h : ∀ j, j < n → f j = 0) : S n f = 0 := by
  rw [S_congr (g := fun _ => 0) n h, S_zero]
theorem Alt.addS {n : Nat} {D : Mt → Int} (h : Alt n D) (A : Mt) {i : Nat} (hi : i < n) (v : Nat → Int) (m : Nat) (f : Nat → Nat) (tt : Nat → Int) (hf : ∀ a, a < m → f a < n ∧ f a ≠ i) : D (up A i fun c => v c + S m fun a => tt a * A (f a) c) = D (up A i v) := by
  rw [h.plus A v (fun c => S m fun a => tt a * A (f a) c) hi, h.sum A hi (fun a => A (f a)) tt m, S_sub1 fun a ha => ?_]
  · omega
  · rw [h.eq_rows (up A i (A (f a))) hi (hf a ha).1 (Ne.symm (hf a ha).2) fun c hc => by rw [up_at, up_ne (hf a ha).2]]
    omega
def cns (x : Nat) (f : Nat → Nat) : Nat → Nat := fun r => if r = 0 then x else f (r - 1)
theorem cns_zero (x : Nat) (f : Nat → Nat) : cns x f 0 = x := rfl
theorem cns_succ (x : Nat) (f : Nat → Nat) (r : Nat) : cns x f (r + 1) = f r := rfl
/-- the part of rows P and columns G -/
def dl (A : Mt) (P G : Nat → Nat) (t : Nat) : Int := det t fun r s => A (P r) (G s)
/-- an entry after t steps -/
def ent (A : Mt) (P G : Nat → Nat) (t i c : Nat) : Int := dl A (cns i P) (cns c G) (t + 1)
section
variable {A : Mt} {P G : Nat → Nat} {t : Nat}
theorem ent_rows (i : Nat) : ∃ L : Nat → Int, ∀ c, ent A P G t i c = dl A P G t * A i c + S t fun a => L a * A (P a) c := by
  refine ⟨fun a => sg (a + 1) * detC t (fun r s => A (cns i P (sk (a + 1) r)) (G s)), fun c => ?_⟩
  show det (t + 1) (fun r s => A (cns i P r) (cns c G s)) = _
  rw [det_detC]
  show S (t + 1) (fun r => sg r * A (cns i P r) c * detC t (mn r 0 fun r s => A (cns i P r) (cns c G s))) = _
  rw [S_head]
  congr 1
  · show sg 0 * A i c * detC t (fun r s => A (cns i P (sk 0 r)) (cns c G (sk 0 s))) = _
    simp only [sk_zero, cns_succ, sg_zero]
    rw [← det_detC]
    show 1 * A i c * dl A P G t = _
    grind
  · refine S_congr _ fun a ha => ?_
    show sg (a + 1) * A (P a) c * detC t (fun r s => A (cns i P (sk (a + 1) r)) (cns c G (sk 0 s))) = _
    simp only [sk_zero, cns_succ]
    grind
theorem ent_cols (c : Nat) : ∃ R : Nat → Int, ∀ i, ent A P G t i c = dl A P G t * A i c + S t fun b => R b * A i (G b) := by
  refine ⟨fun b => sg (b + 1) * det t (fun r s => A (P r) (cns c G (sk (b + 1) s))), fun i => ?_⟩
  show S (t + 1) (fun s => sg s * A i (cns c G s) * det t (mn 0 s fun r s => A (cns i P r) (cns c G s))) = _
  rw [S_head]
  congr 1
  · show sg 0 * A i c * det t (fun r s => A (cns i P (sk 0 r)) (cns c G (sk 0 s))) = _
    simp only [sk_zero, cns_succ, sg_zero]
    show 1 * A i c * dl A P G t = _
    grind
  · refine S_congr _ fun b hb => ?_
    show sg (b + 1) * A i (G b) * det t (fun r s => A (cns i P (sk 0 r)) (cns c G (sk (b + 1) s))) = _
    simp only [sk_zero, cns_succ]
    grind
theorem ent_col0 {b : Nat} (hb : b < t) (i : Nat) : ent A P G t i (G b) = 0 := by
  show det (t + 1) (fun r s => A (cns i P r) (cns (G b) G s)) = 0
  rw [← det_tr]
  exact (alt_det (t + 1)).eq_rows _ (i := 0) (j := b + 1) (by omega) (by omega) (by omega) fun c _ => rfl
theorem ent_row0 {a : Nat} (ha : a < t) (c : Nat) : ent A P G t (P a) c = 0 := by
  show det (t + 1) (fun r s => A (cns (P a) P r) (cns c G s)) = 0
  exact (alt_det (t + 1)).eq_rows _ (i := 0) (j := a + 1) (by omega) (by omega) (by omega) fun c _ => rfl
/-- one step divides without a rest -/
theorem step_eq (hd : dl A P G t ≠ 0) (i c p g : Nat) : dl A P G t * ent A (cns p P) (cns g G) (t + 1) i c = ent A P G t p g * ent A P G t i c - ent A P G t i g * ent A P G t p c := by
  have h := alt_det (t + 2)
  obtain ⟨M, hM⟩ : ∃ M : Mt, M = fun r s => A (cns i (cns p P) r) (cns c (cns g G) s) := ⟨_, rfl⟩
  obtain ⟨col, hcol⟩ : ∃ col, col = cns c (cns g G) := ⟨_, rfl⟩
  obtain ⟨L1, h1⟩ := ent_rows (A := A) (P := P) (G := G) (t := t) i
  obtain ⟨L2, h2⟩ := ent_rows (A := A) (P := P) (G := G) (t := t) p
  have m0 : ∀ s, M 0 s = A i (col s) := fun s => by rw [hM, hcol]; rfl
  have m1 : ∀ s, M 1 s = A p (col s) := fun s => by rw [hM, hcol]; rfl
  have m2 : ∀ a s, M (a + 2) s = A (P a) (col s) := fun a s => by rw [hM, hcol]; rfl
  have eM : ent A (cns p P) (cns g G) (t + 1) i c = det (t + 2) M := by rw [hM]; rfl
  obtain ⟨d, ed⟩ : ∃ d, d = dl A P G t := ⟨_, rfl⟩
  rw [← ed] at hd h1 h2 ⊢
  have x1 : det (t + 2) (up M 0 fun s => ent A P G t i (col s)) = d * det (t + 2) M := by
    have e : (fun s => ent A P G t i (col s)) = fun s => d * M 0 s + S t fun a => L1 a * M (a + 2) s := by
      funext s
      rw [h1, m0]
      congr 1
      exact S_congr _ fun a _ => by rw [m2]
    rw [e, h.addS M (by omega) (fun s => d * M 0 s) t (fun a => a + 2) L1 fun a ha => ⟨by omega, by omega⟩, h.scale M (by omega) (M 0) d, up_same]
  obtain ⟨X, hX⟩ : ∃ X, X = up M 0 fun s => ent A P G t i (col s) := ⟨_, rfl⟩
  have xr : ∀ r, X (r + 1) = M (r + 1) := fun r => by rw [hX, up_ne (by omega)]
  have x2 : det (t + 2) (up X 1 fun s => ent A P G t p (col s)) = d * (d * det (t + 2) M) := by
    have e : (fun s => ent A P G t p (col s)) = fun s => d * X 1 s + S t fun a => L2 a * X (a + 2) s := by
      funext s
      rw [h2, xr 0, m1]
      congr 1
      exact S_congr _ fun a _ => by rw [xr (a + 1), m2]
    rw [e, h.addS X (by omega) (fun s => d * X 1 s) t (fun a => a + 2) L2 fun a ha => ⟨by omega, by omega⟩, h.scale X (by omega) (X 1) d, up_same, hX, x1]
  obtain ⟨Y, hY⟩ : ∃ Y, Y = up X 1 fun s => ent A P G t p (col s) := ⟨_, rfl⟩
  have y0 : ∀ s, Y 0 s = ent A P G t i (col s) := fun s => by rw [hY, up_ne (by omega), hX, up_at]
  have y1 : ∀ s, Y 1 s = ent A P G t p (col s) := fun s => by rw [hY, up_at]
  have y2 : ∀ a s, Y (a + 2) s = A (P a) (col s) := fun a s => by rw [hY, up_ne (by omega), xr (a + 1), m2]
  have c0 : col 0 = c := by rw [hcol]; rfl
  have c1 : col 1 = g := by rw [hcol]; rfl
  have c2 : ∀ b, col (b + 2) = G b := fun b => by rw [hcol]; rfl
  have k0 : det (t + 1) (mn 0 0 Y) = ent A P G t p g * d := by
    show S (t + 1) (fun j => sg j * Y (sk 0 0) (sk 0 j) * det t (mn 0 j (mn 0 0 Y))) = _
    rw [S_one (i := 0) (t + 1) (by omega) fun j hj ne => ?_]
    · rw [sk_zero, y1, c1, sg_zero]
      have e : det t (mn 0 0 (mn 0 0 Y)) = d := by
        rw [ed]
        refine det_congr t fun r s _ _ => ?_
        show Y (sk 0 (sk 0 r)) (sk 0 (sk 0 s)) = _
        simp only [sk_zero]
        rw [y2, c2]
      rw [e]
      grind
    · obtain ⟨b, rfl⟩ : ∃ b, j = b + 1 := ⟨j - 1, by omega⟩
      rw [sk_zero, sk_zero, y1, c2, ent_col0 (by omega)]
      grind
  have k1 : det (t + 1) (mn 0 1 Y) = ent A P G t p c * d := by
    show S (t + 1) (fun j => sg j * Y (sk 0 0) (sk 1 j) * det t (mn 0 j (mn 0 1 Y))) = _
    rw [S_one (i := 0) (t + 1) (by omega) fun j hj ne => ?_]
    · rw [sk_zero, sk_succ0, y1, c0, sg_zero]
      have e : det t (mn 0 0 (mn 0 1 Y)) = d := by
        rw [ed]
        refine det_congr t fun r s _ _ => ?_
        show Y (sk 0 (sk 0 r)) (sk 1 (sk 0 s)) = _
        simp only [sk_zero, sk_succ]
        rw [y2, c2]
      rw [e]
      grind
    · obtain ⟨b, rfl⟩ : ∃ b, j = b + 1 := ⟨j - 1, by omega⟩
      rw [sk_zero, sk_succ, sk_zero, y1, c2, ent_col0 (by omega)]
      grind
  have x3 : det (t + 2) Y = (ent A P G t p g * ent A P G t i c - ent A P G t i g * ent A P G t p c) * d := by
    show S (t + 2) (fun j => sg j * Y 0 j * det (t + 1) (mn 0 j Y)) = _
    rw [S_two (i := 0) (t + 2) (by omega) fun j hj n0 n1 => ?_]
    · rw [k0, k1, y0, y0, c0, c1, sg_succ, sg_zero]
      grind
    · obtain ⟨b, rfl⟩ : ∃ b, j = b + 2 := ⟨j - 2, by omega⟩
      rw [y0, c2, ent_col0 (by omega)]
      grind
  rw [← hY, x3] at x2
  rw [eM]
  apply Int.eq_of_mul_eq_mul_left hd
  rw [← x2]
  exact Int.mul_comm _ _
/-- a column in which nothing is left -/
theorem none_left {n : Nat} (hd : dl A P G t ≠ 0) {c : Nat} (hc : c < n) (hG : ∀ b, b < t → G b < n ∧ G b ≠ c) (h0 : ∀ i, i < n → ent A P G t i c = 0) : det n A = 0 := by
  have h := alt_det n
  obtain ⟨R, hR⟩ := ent_cols (A := A) (P := P) (G := G) (t := t) c
  have e : dl A P G t * det n A = 0 := by
    rw [← det_tr, ← up_same (fun r c => A c r) c, ← h.scale (fun r c => A c r) hc (fun r => A r c) (dl A P G t)]
    have e2 : det n (up (fun r c => A c r) c fun r => dl A P G t * A r c) = det n (up (fun r c => A c r) c fun r => S t fun b => (- R b) * A r (G b)) := by
      refine det_congr n fun r s hr hs => ?_
      simp only [up]
      split
      · have q := hR s
        rw [h0 s hs] at q
        have m : (S t fun b => (- R b) * A s (G b)) = - S t fun b => R b * A s (G b) := by
          have := S_mul (-1) (fun b => R b * A s (G b)) t
          rw [S_congr (g := fun b => (- R b) * A s (G b)) t fun b _ => by grind] at this
          omega
        rw [m]
        omega
      · rfl
    rw [e2, h.sum (fun r c => A c r) hc (fun b r => A r (G b)) (fun b => - R b) t, S_sub1 fun b hb => ?_]
    rw [h.eq_rows (up (fun r c => A c r) c fun r => A r (G b)) hc (hG b hb).1 (Ne.symm (hG b hb).2) fun s _ => by rw [up_at, up_ne (hG b hb).2]]
    omega
  rcases Int.mul_eq_zero.mp e with z | z
  · exact absurd z hd
  · exact z
end
/-- the row at place q + k moved to place q -/
def mvd (f : Nat → Nat) (q k : Nat) : Nat → Nat := fun r => if r < q then f r else if r = q then f (q + k) else if r ≤ q + k then f (r - 1) else f r
theorem det_mvd {n : Nat} (A : Mt) (q : Nat) : ∀ (k : Nat) (f : Nat → Nat), q + k < n → det n (fun r c => A (mvd f q k r) c) = sg k * det n fun r c => A (f r) c
  | 0, f, h => by
    rw [sg_zero, Int.one_mul]
    refine det_congr n fun r c _ _ => ?_
    have : mvd f q 0 r = f r := by
      unfold mvd
      split
      · rfl
      · split
        · next e => rw [e]; rfl
        · rw [if_neg (by omega)]
    rw [this]
  | k + 1, f, h => by
    have g := det_mvd (n := n) A q k (fun r => if r = q + k then f (q + k + 1) else if r = q + k + 1 then f (q + k) else f r) (by omega)
    have e1 : det n (fun r c => A (mvd (fun r => if r = q + k then f (q + k + 1) else if r = q + k + 1 then f (q + k) else f r) q k r) c) = det n (fun r c => A (mvd f q (k + 1) r) c) := by
      refine det_congr n fun r c _ _ => ?_
      congr 1
      unfold mvd
      dsimp only
      by_cases a : r < q
      · rw [if_pos a, if_pos a, if_neg (by omega), if_neg (by omega)]
      · rw [if_neg a, if_neg a]
        by_cases b : r = q
        · rw [if_pos b, if_pos b, if_pos rfl]
          rfl
        · rw [if_neg b, if_neg b]
          by_cases l : r ≤ q + k
          · rw [if_pos l, if_neg (show ¬ r - 1 = q + k by omega), if_neg (show ¬ r - 1 = q + k + 1 by omega), if_pos (show r ≤ q + (k + 1) by omega)]
          · rw [if_neg l, if_neg (show ¬ r = q + k by omega)]
            by_cases m : r = q + k + 1
            · rw [if_pos m, if_pos (show r ≤ q + (k + 1) by omega), m]
              rfl
            · rw [if_neg m, if_neg (show ¬ r ≤ q + (k + 1) by omega)]
    have e2 : det n (fun r c => A (if r = q + k then f (q + k + 1) else if r = q + k + 1 then f (q + k) else f r) c) = - det n fun r c => A (f r) c := by
      have z := (alt_det n).flip (fun r c => A (f r) c) (i := q + k) (by omega)
      rw [← z]
      refine det_congr n fun r c _ _ => ?_
      simp only [up]
      by_cases a : r = q + k
      · rw [if_pos a, if_neg (by omega), if_pos a]
      · rw [if_neg a]
        by_cases b : r = q + k + 1
        · rw [if_pos b, if_pos b]
        · rw [if_neg b, if_neg b, if_neg a]
    rw [← e1, g, e2, sg_succ]
    grind
end Vd
namespace Vd
theorem S_abs {f : Nat → Int} {M : Nat} : ∀ n, (∀ j, j < n → (f j).natAbs ≤ M) → (S n f).natAbs ≤ n * M
  | 0, _ => by show (0 : Int).natAbs ≤ _; simp
  | n + 1, h => by
    have a := S_abs n fun j hj => h j (by omega)
    have b := h n (by omega)
    show (S n f + f n).natAbs ≤ _
    rw [Nat.succ_mul]
    omega
theorem sg_abs (j : Nat) : (sg j).natAbs = 1 := by
  unfold sg
  split <;> rfl
theorem det_abs {k : Nat} : ∀ (n : Nat) (A : Mt), n ≤ 16 → (∀ r c, (A r c).natAbs ≤ 2 ^ k) → (det n A).natAbs ≤ 2 ^ (n * (k + 4))
  | 0, A, _, _ => by
    show (1 : Int).natAbs ≤ _
    simp
  | n + 1, A, hn, h => by
    have s := S_abs (f := fun j => sg j * A 0 j * det n (mn 0 j A)) (M := 2 ^ k * 2 ^ (n * (k + 4))) (n + 1) fun j hj => by
      show (sg j * A 0 j * det n (mn 0 j A)).natAbs ≤ _
      rw [Int.natAbs_mul, Int.natAbs_mul, sg_abs, Nat.one_mul]
      exact Nat.mul_le_mul (h 0 j) (det_abs n _ (by omega) fun r c => h _ _)
    refine Nat.le_trans s ?_
    have e : 2 ^ ((n + 1) * (k + 4)) = 2 ^ 4 * (2 ^ k * 2 ^ (n * (k + 4))) := by
      rw [← Nat.pow_add, ← Nat.pow_add, Nat.succ_mul]
      congr 1
      omega
    rw [e]
    exact Nat.mul_le_mul_right _ (by omega)
/-- which row stands where -/
def arr (os : List Nat) (P : Nat → Nat) (t : Nat) : Nat → Nat := fun r => if r < t then P (t - 1 - r) else os.getD (r - t) 0
/-- what is so ahead of column j -/
structure Sw (n : Nat) (A : Mt) (j t : Nat) (os : List Nat) (P G : Nat → Nat) (sgn : Int) : Prop where
  len : os.length + t = n
  lt : ∀ i, i ∈ os → i < n
  plt : ∀ a, a < t → P a < n
  all : ∀ i, i < n → i ∈ os ∨ ∃ a, a < t ∧ P a = i
  glt : ∀ b, b < t → G b < j
  d0 : dl A P G t ≠ 0
  tj : t ≤ j
  s : sgn = 1 ∨ sgn = -1
  out : (t = j ∧ (∀ b, b < t → G b = j - 1 - b) ∧ det n A = sgn * det n fun r c => A (arr os P t r) c) ∨ (t < j ∧ det n A = 0)
theorem Sw.start (n : Nat) (A : Mt) : Sw n A 0 0 (List.range n) (fun _ => 0) (fun _ => 0) 1 := by
  refine ⟨by simp, fun i hi => List.mem_range.mp hi, fun a ha => by omega, fun i hi => .inl (List.mem_range.mpr hi), fun b hb => by omega, by show (1 : Int) ≠ 0; decide, Nat.le_refl _, .inl rfl, .inl ⟨rfl, fun b hb => by omega, ?_⟩⟩
  rw [Int.one_mul]
  refine det_congr n fun r c hr _ => ?_
  have : arr (List.range n) (fun _ => 0) 0 r = r := by
    unfold arr
    rw [if_neg (by omega), List.getD_eq_getElem?_getD, Nat.sub_zero, List.getElem?_range hr]
    rfl
  rw [this]
theorem Sw.skip {n : Nat} {A : Mt} {j t : Nat} {os : List Nat} {P G : Nat → Nat} {sgn : Int} (h : Sw n A j t os P G sgn) (hj : j < n) (z : ∀ i, i ∈ os → ent A P G t i j = 0) : Sw n A (j + 1) t os P G sgn := by
  refine ⟨h.len, h.lt, h.plt, h.all, fun b hb => Nat.lt_succ_of_lt (h.glt b hb), h.d0, Nat.le_succ_of_le h.tj, h.s, .inr ⟨Nat.lt_succ_of_le h.tj, ?_⟩⟩
  refine none_left h.d0 hj (fun b hb => ?_) fun i hi => ?_
  · have := h.glt b hb
    exact ⟨by omega, by omega⟩
  · rcases h.all i hi with m | ⟨a, ha, rfl⟩
    · exact z i m
    · exact ent_row0 ha j
theorem Sw.take {n : Nat} {A : Mt} {j t : Nat} {os : List Nat} {P G : Nat → Nat} {sgn : Int} (h : Sw n A j t os P G sgn) {k p : Nat} (hk : os[k]? = some p) (nz : ent A P G t p j ≠ 0) : Sw n A (j + 1) (t + 1) (os.eraseIdx k) (cns p P) (cns j G) (sg k * sgn) := by
  have kl : k < os.length := (List.getElem?_eq_some_iff.mp hk).1
  have pm := List.mem_of_getElem? hk
  have hl := h.len
  refine ⟨by rw [List.length_eraseIdx_of_lt kl]; omega, fun i hi => h.lt i (List.mem_of_mem_eraseIdx hi), fun a ha => ?_, fun i hi => ?_, fun b hb => ?_, nz, Nat.succ_le_succ h.tj, ?_, ?_⟩
  · cases a with
    | zero => exact h.lt p pm
    | succ a => exact h.plt a (by omega)
  · rcases h.all i hi with m | ⟨a, ha, e⟩
    · by_cases e : i = p
      · exact .inr ⟨0, by omega, e.symm⟩
      · refine .inl ?_
        obtain ⟨x, hx⟩ := List.getElem?_of_mem m
        have ne : x ≠ k := by
          rintro rfl
          exact e (Option.some.inj (hx.symm.trans hk))
        rcases Nat.lt_or_gt_of_ne ne with l | l
        · exact List.mem_of_getElem? (i := x) (by rw [List.getElem?_eraseIdx_of_lt l]; exact hx)
        · exact List.mem_of_getElem? (i := x - 1) (by rw [List.getElem?_eraseIdx_of_ge (by omega), show x - 1 + 1 = x by omega]; exact hx)
    · exact .inr ⟨a + 1, by omega, e⟩
  · cases b with
    | zero => exact Nat.lt_succ_self j
    | succ b => exact Nat.lt_succ_of_lt (h.glt b (by omega))
  · have := h.s
    unfold sg
    split <;> omega
  · rcases h.out with ⟨e, hG, hd⟩ | ⟨l, hd⟩
    · refine .inl ⟨by omega, fun b hb => ?_, ?_⟩
      · cases b with
        | zero => show j = _; omega
        | succ b =>
          show G b = _
          rw [hG b (by omega)]
          omega
      · have m := det_mvd (n := n) A t k (arr os P t) (by omega)
        have e2 : det n (fun r c => A (arr (os.eraseIdx k) (cns p P) (t + 1) r) c) = det n fun r c => A (mvd (arr os P t) t k r) c := by
          refine det_congr n fun r c hr _ => ?_
          congr 1
          unfold arr mvd
          dsimp only
          by_cases a : r < t
          · rw [if_pos (by omega), if_pos a, if_pos a]
            have : t + 1 - 1 - r = (t - 1 - r) + 1 := by omega
            rw [this]
            rfl
          · rw [if_neg a]
            by_cases b : r = t
            · rw [if_pos (by omega), if_pos b, if_neg (by omega), b]
              have : t + 1 - 1 - t = 0 := by omega
              rw [this, cns_zero, List.getD_eq_getElem?_getD, show t + k - t = k by omega, hk]
              rfl
            · rw [if_neg (show ¬ r < t + 1 by omega), if_neg b]
              by_cases l : r ≤ t + k
              · rw [if_pos l, if_neg (by omega), List.getD_eq_getElem?_getD, List.getD_eq_getElem?_getD, List.getElem?_eraseIdx_of_lt (by omega), show r - (t + 1) = r - 1 - t by omega]
              · rw [if_neg l, if_neg a, List.getD_eq_getElem?_getD, List.getD_eq_getElem?_getD, List.getElem?_eraseIdx_of_ge (by omega), show r - (t + 1) + 1 = r - t by omega]
        rw [e2, m, hd]
        have q := sg_sq k
        generalize det n (fun r c => A (arr os P t r) c) = D
        generalize sg k = g at q ⊢
        grind
    · exact .inr ⟨by omega, hd⟩
theorem Sw.done {n : Nat} {A : Mt} {t : Nat} {os : List Nat} {P G : Nat → Nat} {sgn : Int} (h : Sw n A n t os P G sgn) : det n A = if t = n then sgn * dl A P G t else 0 := by
  by_cases e : t = n
  · rw [if_pos e]
    subst e
    rcases h.out with ⟨_, hG, hd⟩ | ⟨l, _⟩
    · rw [hd]
      congr 1
      rw [← det_rev]
      refine det_congr _ fun r c hr hc => ?_
      show A (arr os P t (t - 1 - r)) (t - 1 - c) = A (P r) (G c)
      rw [hG c hc]
      congr 1
      unfold arr
      rw [if_pos (by omega), show t - 1 - (t - 1 - r) = r by omega]
    · omega
  · rw [if_neg e]
    rcases h.out with ⟨a, _⟩ | ⟨_, z⟩
    · exact absurd a e
    · exact z
theorem Sw.fdiv {n : Nat} {A : Mt} {j t : Nat} {os : List Nat} {P G : Nat → Nat} {sgn : Int} (h : Sw n A j t os P G sgn) (i c p g : Nat) : (ent A P G t p g * ent A P G t i c - ent A P G t i g * ent A P G t p c).fdiv (dl A P G t) = ent A (cns p P) (cns g G) (t + 1) i c := by
  rw [← step_eq h.d0, Int.mul_fdiv_cancel_left _ h.d0]
end Vd
namespace K10
open PySem PySem.Spec PyProof.Rows L2 Vk
abbrev s_cleared : Stmt := topS 10
theorem sc_cleared : FnScope ["row", "lead", "column", "last", "here", "factor", "a", "b"] ["row", "lead", "column", "last"] (defScope s_cleared) := ⟨rfl, rfl, rfl, by decide +kernel, rfl, by decide +kernel, by decide +kernel⟩
abbrev s_swept : Stmt := topS 11
theorem sc_swept : FnScope ["rows", "open_rows", "width", "column", "rank_so_far", "last", "sign", "places", "row", "lead", "i"] ["rows"] (defScope s_swept) := ⟨rfl, rfl, rfl, by decide +kernel, rfl, by decide +kernel, by decide +kernel⟩
def clr (xs ys : List Int) (c : Nat) (d : Int) : List Int := List.zipWith (fun a b => (ys.getD c 0 * a - xs.getD c 0 * b).fdiv d) xs ys
def spCleared : Sp := fun vs H Q _ => ∃ (r l : Addr) (xs ys : List Int) (c : Nat) (d : Int), vs = [.ref r, .ref l, .int c, .int d] ∧ H r = some (.lst (xs.map V.int)) ∧ H l = some (.lst (ys.map V.int)) ∧ xs.length = ys.length ∧ c < xs.length ∧ xs.length ≤ 100 ∧ d ≠ 0 ∧ SmZ 5000 d ∧ (∀ x ∈ xs, SmZ 5000 x) ∧ (∀ y ∈ ys, SmZ 5000 y) ∧
  ∀ p H', Same H H' → H p = none → H' p = some (.lst ((clr xs ys c d).map V.int)) → Q (.ref p) H'
theorem call_list_ofK {X : Cx} {K : PySem.W.Frag} (h : X.K = K) : CallR X (.type "list") (fun xs H Q => ∃ p ys, xs = [.ref p] ∧ (SqL K H p ys ∨ SqT K H p ys) ∧ ∀ l, H l = none → Q (.ref l) (upd H l (.lst ys))) := by
  subst h
  exact call_list_of
section
variable {P : Program} {w : World} {K : PySem.W.Frag} {mg : Str → Option Value} {base : Heap}
theorem ok_cleared {f : Addr} {fd : FuncData} (F : Fun K "_cleared" "_cleared" s_cleared f fd) (m_zip : mg "zip" = none) : FnOk P w K mg base CX0 1 f fd ["row", "lead", "column", "last"] spCleared := by
  have sc := sc_cleared
  refine F.ok sc (fun vs H Q E h => ?_) (fun cdv A outer s H vs Q E hr h => ?_)
  · obtain ⟨r, l, xs, ys, c, d, rfl, _⟩ := h
    rfl
  · obtain ⟨r, l, xs, ys, c, d, rfl, hx, hy, hl, hc, l100, d0, zd, zx, zy, q⟩ := h
    refine ⟨_, (pss_cons (ps_asg (pe_tup (pa_cons (pe_ix ix_list (pv 1) (pv 2) (fun _ _ => rfl)) (pa_cons (pe_ix ix_list (pv 0) (pv 2) (fun _ _ => rfl)) pa_nil))) (pg_tup (n := 2) (by rfl) (pgs_cons (pg_name (i := 4) sc.nd rfl (Or.inr rfl)) (pgs_cons (pg_name (i := 5) sc.nd rfl (Or.inr rfl)) pgs_nil))))
    (pss_one (ps_ret (pe_lc (own := [("a", 6), ("b", 7)]) (g := gTup K 2 (gCons (gName 6) (gCons (gName 7) gNil))) (by rfl) sc.nd (pi_zipK (by rfl) m_zip (pa_cons (pv 0) (pa_cons (pv 1) pa_nil))) (blkOk_by (own := [("a", 6), ("b", 7)]) (N := ["row", "lead", "column", "last", "here", "factor", "a", "b"]) (sc := defScope s_cleared) (by decide +kernel)) (fun _ _ _ _ _ => pg_tup (n := 2) (by rfl) (pgs_cons (pg_name (i := 6) sc.nd rfl (Or.inl rfl)) (pgs_cons (pg_name (i := 7) sc.nd rfl (Or.inl rfl)) pgs_nil))) (fun _ _ _ _ _ => pts_nil) (fun _ _ _ _ _ => (pe_op op_fdivX (pe_op op_sub (pe_op op_mulW (pv 4) (pv 6)) (pe_op op_mulW (pv 5) (pv 7))) (pv 3))))))), ?_⟩
    have gx := Vk.getD_at (xs := xs) (i := c) hc
    have gy := Vk.getD_at (xs := ys) (i := c) (by omega)
    have zxc := zx _ (List.mem_of_getElem? gx)
    have zyc := zy _ (List.mem_of_getElem? gy)
    refine ⟨.ref l, rfl, .int c, rfl, l, _, c, .int (ys.getD c 0), rfl, rfl, SqL.of hy, atI_nat (get_map gy), .ref r, rfl, .int c, rfl, r, _, c, .int (xs.getD c 0), rfl, rfl, SqL.of hx, atI_nat (get_map gx), ?_⟩
    refine ⟨by show 2 ≤ sizeLine; decide, fun T nT => ?_⟩
    have s1 : Same H (upd H T (.tup [.int (ys.getD c 0), .int (xs.getD c 0)])) := same_new nT
    have g1 : Tp (upd H T (.tup [.int (ys.getD c 0), .int (xs.getD c 0)])) T [.int (ys.getD c 0), .int (xs.getD c 0)] := upd_same
    generalize upd H T (.tup [.int (ys.getD c 0), .int (xs.getD c 0)]) = H1 at s1 g1 ⊢
    refine ⟨T, _, rfl, g1.t, rfl, .int (ys.getD c 0), [.int (xs.getD c 0)], rfl, .int (xs.getD c 0), [], rfl, rfl, ?_⟩
    refine ⟨.ref r, rfl, .ref l, rfl, true, true, r, l, _, _, rfl, SqL.of (s1 _ _ hx), SqL.of (s1 _ _ hy), fun D nD => ?_⟩
    have lc : (clr xs ys c d).length = xs.length := by
      unfold clr
      rw [List.length_zipWith, hl, Nat.min_self]
    refine lc_to (walk_zipK (n := xs.length) (zip_len _ _ _ (List.length_map ..) (by rw [List.length_map, hl]))) ((clr xs ys c d).map V.int) (by rw [List.length_map, lc]) (small l100) nD (fun H2 s2 => ⟨SqL.of (s2 _ _ (s1 _ _ hx)), SqL.of (s2 _ _ (s1 _ _ hy))⟩) ?_ ?_
    · rintro j x y H2 H3 Qy hv hj s2 ⟨T2, u2, v2, rfl, nT2, rfl, hu2, hv2⟩ hq
      obtain ⟨z, hz, rfl⟩ := map_get hv
      unfold clr at hz
      obtain ⟨a1, b1, ha1, hb1, rfl⟩ := zipW_get hz
      obtain ⟨a2, ha2, rfl⟩ := map_get hu2
      obtain ⟨b2, hb2, rfl⟩ := map_get hv2
      obtain rfl := Option.some.inj (ha1.symm.trans ha2)
      obtain rfl := Option.some.inj (hb1.symm.trans hb2)
      have za := zx _ (List.mem_of_getElem? ha1)
      have zb := zy _ (List.mem_of_getElem? hb1)
      refine ⟨T2, [.int a1, .int b1], rfl, SqT.of upd_same, rfl, .int a1, [.int b1], rfl, .int b1, [], rfl, rfl, rfl, .int (ys.getD c 0), rfl, .int a1, rfl, _, a1, rfl, rfl, mulB (by decide) (by decide) zyc za (by decide), .int (xs.getD c 0), rfl, .int b1, rfl, _, b1, rfl, rfl, mulB (by decide) (by decide) zxc zb (by decide), _, _, rfl, rfl, .int d, rfl, _, d, rfl, rfl, ⟨d0, ?_⟩, hq _ (same_new nT2)⟩
      exact Nat.lt_trans (smz_log (by decide) zd) (by decide)
    · intro H2 s2 d2
      exact q D H2 (s1.trans s2) (s1.free nD) d2
end
end K10
namespace K10
open PySem PySem.Spec PyProof.Rows L2 Vk Vd
/-- a table as a function -/
def mL (B : List (List Int)) : Mt := fun i j => (B.getD i []).getD j 0
/-- row i after t steps -/
def rowE (A : Mt) (P G : Nat → Nat) (t n i : Nat) : List Int := (List.range n).map fun c => ent A P G t i c
theorem rowE_len (A : Mt) (P G : Nat → Nat) (t n i : Nat) : (rowE A P G t n i).length = n := by
  unfold rowE
  rw [List.length_map, List.length_range]
theorem rowE_get (A : Mt) (P G : Nat → Nat) (t n i : Nat) {c : Nat} (h : c < n) : (rowE A P G t n i)[c]? = some (ent A P G t i c) := by
  unfold rowE
  rw [List.getElem?_map, List.getElem?_range h]
  rfl
theorem rowE_getD (A : Mt) (P G : Nat → Nat) (t n i : Nat) {c : Nat} (h : c < n) : (rowE A P G t n i).getD c 0 = ent A P G t i c := by
  rw [List.getD_eq_getElem?_getD, rowE_get A P G t n i h]
  rfl
theorem rowE_zero {B : List (List Int)} {P G : Nat → Nat} {i : Nat} (h : (B.getD i []).length = B.length) : rowE (mL B) P G 0 B.length i = B.getD i [] := by
  apply List.ext_getElem?
  intro c
  by_cases hc : c < B.length
  · rw [rowE_get _ _ _ _ _ _ hc, Vk.getD_at (xs := B.getD i []) (i := c) (by omega)]
    congr 1
    show 0 + Vd.sg 0 * mL B i c * 1 = (B.getD i []).getD c 0
    rw [sg_zero, Int.zero_add, Int.one_mul, Int.mul_one]
    rfl
  · rw [List.getElem?_eq_none (by rw [rowE_len]; omega), List.getElem?_eq_none (by omega)]
theorem clr_row {n j t : Nat} {A : Mt} {os : List Nat} {P G : Nat → Nat} {sgn : Int} (h : Sw n A j t os P G sgn) (hj : j < n) (p i : Nat) : clr (rowE A P G t n i) (rowE A P G t n p) j (dl A P G t) = rowE A (cns p P) (cns j G) (t + 1) n i := by
  apply List.ext_getElem?
  intro c
  unfold clr
  rw [List.getElem?_zipWith]
  by_cases hc : c < n
  · rw [rowE_get _ _ _ _ _ _ hc, rowE_get _ _ _ _ _ _ hc, rowE_get _ _ _ _ _ _ hc, rowE_getD _ _ _ _ _ _ hj, rowE_getD _ _ _ _ _ _ hj]
    show some _ = some _
    rw [h.fdiv]
  · rw [List.getElem?_eq_none (l := rowE A P G t n i) (by rw [rowE_len]; omega), List.getElem?_eq_none (l := rowE A (cns p P) (cns j G) (t + 1) n i) (by rw [rowE_len]; omega)]
theorem ent_sm {A : Mt} (hA : ∀ r c, (A r c).natAbs ≤ 2 ^ 300) (P G : Nat → Nat) {t : Nat} (ht : t ≤ 9) (i c : Nat) : SmZ 5000 (ent A P G t i c) := by
  have h := det_abs (k := 300) (t + 1) (fun r s => A (cns i P r) (cns c G s)) (by omega) fun r s => hA _ _
  refine Nat.lt_of_le_of_lt h (Nat.pow_lt_pow_right (by decide) ?_)
  have : (t + 1) * (300 + 4) ≤ 10 * 304 := Nat.mul_le_mul (by omega) (by omega)
  omega
theorem dl_sm {A : Mt} (hA : ∀ r c, (A r c).natAbs ≤ 2 ^ 300) (P G : Nat → Nat) {t : Nat} (ht : t ≤ 9) : SmZ 5000 (dl A P G t) := by
  have h := det_abs (k := 300) t (fun r s => A (P r) (G s)) (by omega) fun r s => hA _ _
  refine Nat.lt_of_le_of_lt h (Nat.pow_lt_pow_right (by decide) ?_)
  have : t * (300 + 4) ≤ 10 * 304 := Nat.mul_le_mul (by omega) (by omega)
  omega
theorem mL_sm {B : List (List Int)} (h : ∀ r ∈ B, ∀ x ∈ r, SmZ 300 x) (r c : Nat) : (mL B r c).natAbs ≤ 2 ^ 300 := by
  unfold mL
  by_cases hr : r < B.length
  · have e1 : B[r]? = some (B.getD r []) := by
      rw [List.getD_eq_getElem?_getD, List.getElem?_eq_getElem hr]
      rfl
    by_cases hc : c < (B.getD r []).length
    · exact Nat.le_of_lt (h _ (List.mem_of_getElem? e1) _ (List.mem_of_getElem? (Vk.getD_at hc)))
    · rw [List.getD_eq_getElem?_getD, List.getElem?_eq_none (by omega)]
      exact Nat.zero_le _
  · have : B.getD r [] = [] := by
      rw [List.getD_eq_getElem?_getD, List.getElem?_eq_none (by omega)]
      rfl
    rw [this]
    exact Nat.zero_le _
/-- a list of lists -/
def LL (H : Hp) (L : Addr) (qs : List Addr) (E : List (List Int)) : Prop := H L = some (.lst (qs.map V.ref)) ∧ qs.length = E.length ∧ ∀ (i : Nat) (q : Addr) (r : List Int), qs[i]? = some q → E[i]? = some r → q ≠ L ∧ H q = some (.lst (r.map V.int))
theorem refs_ne {ps : List Addr} {row : List Int} (h : 0 < ps.length) : ps.map V.ref ≠ row.map V.int := by
  cases ps with
  | nil => cases h
  | cons p ps =>
    cases row with
    | nil => intro z; cases z
    | cons x row =>
      intro z
      rw [List.map_cons, List.map_cons] at z
      have := (List.cons.inj z).1
      cases this
theorem erase_map {α β : Type} (f : α → β) : ∀ (l : List α) (k : Nat), (l.map f).eraseIdx k = (l.eraseIdx k).map f
  | [], _ => rfl
  | _ :: _, 0 => rfl
  | x :: l, k + 1 => by
    show f x :: (l.map f).eraseIdx k = f x :: (l.eraseIdx k).map f
    rw [erase_map f l k]
def spSwept : Sp := fun vs H Q _ => ∃ (a : Addr) (ps : List Addr) (B : List (List Int)), vs = [.ref a] ∧ Tp H a (ps.map V.ref) ∧ Rws H ps B B.length ∧ B.length ≤ 9 ∧
  ∀ r t v H', Same H H' → Tp H' r [.int ((t : Nat) : Int), .int v] → det B.length (mL B) = (if t = B.length then v else 0) → Q (.ref r) H'
section
variable {P : Program} {w : World} {K : PySem.W.Frag} {mg : Str → Option Value} {base : Heap}
theorem ok_swept {f : Addr} {fd : FuncData} (F : Fun K "swept" "swept" s_swept f fd) (C__cleared : Cal P w K mg base 1 "_cleared" ["row", "lead", "column", "last"] spCleared) (m_list : mg "list" = none) (m_len : mg "len" = none) (m_range : mg "range" = none) (m_enumerate : mg "enumerate" = none) : FnOk P w K mg base CX0 2 f fd ["rows"] spSwept := by
  have sc := sc_swept
  refine F.ok sc (fun vs H Q E h => ?_) (fun cdv A outer s H vs Q E hr h => ?_)
  · obtain ⟨a, ps, B, rfl, _⟩ := h
    rfl
  · obtain ⟨a, ps, B, rfl, ha, hR, h9, q⟩ := h
    refine ⟨_, (pss_cons (ps_setLc (i := 1) (own := [("row", 8)]) (g := gName 8) (by rfl) sc.nd rfl rfl (sw_true rfl rfl rfl (by decide +kernel)) (pi_tup (pv 0)) (blkOk_by (own := [("row", 8)]) (N := ["rows", "open_rows", "width", "column", "rank_so_far", "last", "sign", "places", "row", "lead", "i"]) (sc := defScope s_swept) (by decide +kernel)) (fun _ _ _ _ _ => pg_name (i := 8) sc.nd rfl (Or.inl rfl)) (fun _ _ _ _ _ => pts_nil) (fun _ _ _ _ _ => (pe_callTy (call_list_ofK (K := K) rfl) (by rfl) m_list (by decide +kernel) (pa_cons (pv 8) pa_nil))))
    (pss_cons (ps_set (i := 2) sc.nd rfl (Or.inl rfl) (pe_ifExp (pt_truth (pv 0) (by intro _; rfl)) (pe_callB call_len_seq (by rfl) m_len (by decide +kernel) (pa_cons (pe_ix ix_tup (pv 0) pe_int (fun _ _ => rfl)) pa_nil)) pe_int))
    (pss_cons (ps_asg (pe_tup (pa_cons pe_int (pa_cons pe_int (pa_cons pe_int pa_nil)))) (pg_tup (n := 3) (by rfl) (pgs_cons (pg_name (i := 4) sc.nd rfl (Or.inl rfl)) (pgs_cons (pg_name (i := 5) sc.nd rfl (Or.inr rfl)) (pgs_cons (pg_name (i := 6) sc.nd rfl (Or.inl rfl)) pgs_nil)))))
    (pss_cons (ps_for PassesOwn.never rfl (pi_range1 rfl m_range (pa_cons (pv 2) pa_nil)) (pg_name (i := 3) sc.nd rfl (Or.inr rfl))
      (pss_cons (ps_setLc (i := 7) (own := [("i", 10), ("row", 8)]) (g := gTup K 2 (gCons (gName 10) (gCons (gName 8) gNil))) (by rfl) sc.nd rfl rfl (sw_true rfl rfl rfl (by decide +kernel)) (pi_enumK (by rfl) m_enumerate (pa_cons (pv 1) pa_nil)) (blkOk_by (own := [("i", 10), ("row", 8)]) (N := ["rows", "open_rows", "width", "column", "rank_so_far", "last", "sign", "places", "row", "lead", "i"]) (sc := defScope s_swept) (by decide +kernel)) (fun _ _ _ _ _ => pg_tup (n := 2) (by rfl) (pgs_cons (pg_name (i := 10) sc.nd rfl (Or.inl rfl)) (pgs_cons (pg_name (i := 8) sc.nd rfl (Or.inl rfl)) pgs_nil))) (fun _ _ _ _ _ => (pts_one (pt_cmpR op_ne (pe_ix (ix_listK (K := K) rfl) (pv 8) (pv 3) (fun _ _ => rfl)) pe_int (nomark _)))) (fun _ _ _ _ _ => (pv 10)))
    (pss_one (ps_if (pt_truth (pv 7) (by intro _; rfl))
      (pss_cons (ps_set (i := 9) sc.nd rfl (Or.inr rfl) (pe_bm PySem.F.plainAttrs_list PySem.F.slot_list_pop PySem.F.type_list_pop mt_popAt (pv 1) (pa_cons (pe_ix ix_list (pv 7) pe_int (fun _ _ => rfl)) pa_nil)))
    (pss_cons (ps_if (pt_cmpR op_eq (pe_op op_modN (pe_ix ix_list (pv 7) pe_int (fun _ _ => rfl)) pe_int) pe_int (nomark _))
      (pss_one (ps_set (i := 6) sc.nd rfl (Or.inl rfl) (pe_un un_neg (pv 6))))
      pss_nil)
    (pss_cons (ps_setLc (i := 1) (own := [("row", 8)]) (g := gName 8) (by rfl) sc.nd rfl rfl (sw_true rfl rfl rfl (by decide +kernel)) (pi_list (pv 1)) (blkOk_by (own := [("row", 8)]) (N := ["rows", "open_rows", "width", "column", "rank_so_far", "last", "sign", "places", "row", "lead", "i"]) (sc := defScope s_swept) (by decide +kernel)) (fun _ _ _ _ _ => pg_name (i := 8) sc.nd rfl (Or.inl rfl)) (fun _ _ _ _ _ => pts_nil) (fun _ _ _ _ _ => (call_ C__cleared (hr.mono (by decide)) (by rfl) (pa_cons (pv 8) (pa_cons (pv 9) (pa_cons (pv 3) (pa_cons (pv 5) pa_nil)))))))
    (pss_cons (ps_set (i := 5) sc.nd rfl (Or.inr rfl) (pe_ix ix_list (pv 9) (pv 3) (fun _ _ => rfl)))
    (pss_one (ps_aug (i := 4) sc.nd rfl (Or.inl rfl) pe_int ip_add))))))
      pss_nil))))
    (pss_one (ps_ret (pe_tup (pa_cons (pv 4) (pa_cons (pe_op op_mulW (pv 6) (pv 5)) pa_nil))))))))), ?_⟩
    have lp : (ps.map V.ref).length = B.length := by rw [List.length_map, hR.1]
    have rowOf : ∀ i, i < B.length → ∃ p, ps[i]? = some p ∧ Row H p (B.getD i []) ∧ (B.getD i []).length = B.length := fun i hi => by
      have hp : ps[i]? = some (ps[i]'(by rw [hR.1]; exact hi)) := List.getElem?_eq_getElem _
      have hb : B[i]? = some (B.getD i []) := by
        rw [List.getD_eq_getElem?_getD, List.getElem?_eq_getElem hi]
        rfl
      obtain ⟨r1, r2⟩ := hR.2 i _ _ hp hb
      exact ⟨_, hp, r1, r2⟩
    have hA : ∀ r c, (mL B r c).natAbs ≤ 2 ^ 300 := mL_sm fun r hr => by
      obtain ⟨i, hi⟩ := List.getElem?_of_mem hr
      have il : i < ps.length := by
        rw [hR.1]
        exact (List.getElem?_eq_some_iff.mp hi).1
      exact (hR.2 i ps[i] r (List.getElem?_eq_getElem il) hi).1.2.2
    refine ⟨.ref a, rfl, a, rfl, ⟨_, ha.t⟩, fun D nD => ?_⟩
    refine lc_objs (walk_tup (K := K) (a := a) (xs := ps.map V.ref)) (fun i => .lst ((B.getD i []).map V.int)) (by rw [lp]; exact small (by omega)) nD (fun H' s => (ha.same s).t) ?_ ?_
    · rintro i x H1 H1' Qy hi s1 ⟨rfl, hx⟩ hq
      obtain ⟨p, hp, rfl⟩ := map_get hx
      rw [lp] at hi
      obtain ⟨p', hp', Rp, lr⟩ := rowOf i hi
      obtain rfl := Option.some.inj (hp.symm.trans hp')
      exact ⟨rfl, .ref p, rfl, p, _, rfl, .inr (Rp.1.same s1).t, fun l nl => hq l _ (same_new nl) nl upd_same⟩
    intro H1 qs s1 d1 lq nd fr ob
    have E0 : LL H1 D qs ((List.range B.length).map (rowE (mL B) (fun _ => 0) (fun _ => 0) 0 B.length)) := by
      refine ⟨d1, by rw [List.length_map, List.length_range, lq, lp], fun i p r e1 e2 => ⟨?_, ?_⟩⟩
      · rintro rfl
        have g1 := ob i p e1
        rw [d1] at g1
        exact absurd (HO.lst.inj (Option.some.inj g1)) (refs_ne (by have := (List.getElem?_eq_some_iff.mp e1).1; omega))
      · have hi : i < B.length := by
          have := (List.getElem?_eq_some_iff.mp e1).1
          omega
        rw [List.getElem?_map, List.getElem?_range hi] at e2
        obtain rfl := Option.some.inj e2
        obtain ⟨_, _, _, lr⟩ := rowOf i hi
        rw [rowE_zero lr]
        exact ob i p e1
    refine ⟨.ref a, rfl, !(ps.map V.ref).isEmpty, .inr (.inl ⟨_, (ha.same s1).t, rfl⟩), ?_⟩
    refine tif_both (fun v => v = .int B.length) (fun v hv => ?_) (fun e hq => ?_) (fun e hq => ?_)
    rotate_left
    · have l0 : 0 < B.length := by
        rw [← lp]
        cases hps : ps.map V.ref with
        | nil =>
          rw [hps] at e
          cases e
        | cons x y => exact Nat.succ_pos _
      obtain ⟨p, hp, Rp, lr⟩ := rowOf 0 l0
      refine ⟨.ref a, rfl, a, _, 0, .ref p, rfl, rfl, (ha.same s1).t, atI_nat (j := 0) (get_map hp), p, _, rfl, .inr (Rp.1.same s1).t, ?_⟩
      rw [List.length_map, lr]
      exact hq _ rfl
    · have l0 : B.length = 0 := by
        rw [← lp]
        cases hps : ps.map V.ref with
        | nil => rfl
        | cons x y =>
          rw [hps] at e
          cases e
      refine hq _ ?_
      rw [l0]
      rfl
    subst hv
    refine ⟨by show 3 ≤ sizeLine; decide, fun T nT => ?_⟩
    have s2 : Same H1 (upd H1 T (.tup [.int 0, .int 1, .int 1])) := same_new nT
    have g2 : Tp (upd H1 T (.tup [.int 0, .int 1, .int 1])) T [.int 0, .int 1, .int 1] := upd_same
    generalize upd H1 T (.tup [.int 0, .int 1, .int 1]) = H2 at s2 g2 ⊢
    refine ⟨T, _, rfl, g2.t, rfl, .int 0, [.int 1, .int 1], rfl, .int 1, [.int 1], rfl, .int 1, [], rfl, rfl, ?_⟩
    refine ⟨.int B.length, rfl, (B.length : Int), rfl, by omega, by omega, ?_⟩
    rw [Int.toNat_natCast]
    have LLs : ∀ {H H' : Hp} {L : Addr} {qs : List Addr} {E : List (List Int)}, LL H L qs E → Same H H' → LL H' L qs E := fun h s => ⟨s _ _ h.1, h.2.1, fun i q r a b => ⟨(h.2.2 i q r a b).1, s _ _ (h.2.2 i q r a b).2⟩⟩
    refine for_range (lo := 0) (n := B.length) (fun j σ H' => ∃ t os P G sgn L qs, (∃ y3 y7 y8 y9 y10, σ = [some (.ref a), some (.ref L), some (.int B.length), y3, some (.int ((t : Nat) : Int)), some (.int (Vd.dl (mL B) P G t)), some (.int sgn), y7, y8, y9, y10]) ∧ Sw B.length (mL B) j t os P G sgn ∧ LL H' L qs (os.map (rowE (mL B) P G t B.length)) ∧ Same H H' ∧ H L = none)
      ⟨0, List.range B.length, fun _ => 0, fun _ => 0, 1, D, qs, ⟨none, none, none, none, none, rfl⟩, Sw.start _ _, LLs E0 s2, s1.trans s2, nD⟩ ?_ ?_
    · rintro j σ H3 hj ⟨t, os, P, G, sgn, L, qs, ⟨y3, y7, y8, y9, y10, rfl⟩, W, hL, s3, nL⟩
      have t9 : t + 1 ≤ 9 := by
        have := W.tj
        omega
      have lqs : qs.length = os.length := by rw [hL.2.1, List.length_map]
      have lE : (qs.map V.ref).length = os.length := by rw [List.length_map, lqs]
      have hl := W.len
      have rowA : ∀ i, i < os.length → ∃ p o, qs[i]? = some p ∧ os[i]? = some o ∧ p ≠ L ∧ H3 p = some (.lst ((rowE (mL B) P G t B.length o).map V.int)) := fun i hi => by
        have h1 : qs[i]? = some (qs[i]'(by omega)) := List.getElem?_eq_getElem _
        have h2 : os[i]? = some os[i] := List.getElem?_eq_getElem hi
        obtain ⟨a1, a2⟩ := hL.2.2 i _ (rowE (mL B) P G t B.length os[i]) h1 (by rw [List.getElem?_map, h2]; rfl)
        exact ⟨_, _, h1, h2, a1, a2⟩
      refine ⟨.ref L, rfl, true, L, qs.map V.ref, rfl, SqL.of hL.1, fun D1 nD1 => ?_⟩
      refine lc_fl (walk_enumK (K := K) (b := true) (a := L) (xs := qs.map V.ref)) (fun i => decide (ent (mL B) P G t (os.getD i 0) j ≠ 0)) (fun i => .int (i : Nat)) (by rw [lE]; exact small (by omega)) nD1 (fun H' s => SqL.of (s _ _ hL.1)) ?_ ?_
      · rintro i x H4 H4' Qy Nx hi s4 ⟨T1, u, w, rfl, nT1, rfl, hu, hw⟩ hk hnk
        obtain rfl := Option.some.inj hu
        obtain ⟨p, hp, rfl⟩ := map_get hw
        rw [lE] at hi
        obtain ⟨p', o, hp', ho, _, hrow⟩ := rowA i hi
        obtain rfl := Option.some.inj (hp.symm.trans hp')
        have eo : os.getD i 0 = o := by
          rw [List.getD_eq_getElem?_getD, ho]
          rfl
        rw [eo] at hk hnk
        have sT : Same H4 (upd H4 T1 (.tup [.int (i : Nat), .ref p])) := same_new nT1
        refine ⟨T1, [.int (i : Nat), .ref p], rfl, SqT.of upd_same, rfl, .int (i : Nat), [.ref p], rfl, .ref p, [], rfl, rfl, rfl, .ref p, rfl, .int (0 + j), rfl, p, _, 0 + j, .int (ent (mL B) P G t o j), rfl, rfl, SqL.of (sT _ _ (s4 _ _ hrow)), atI_at (by omega) (get_map (rowE_get _ _ _ _ _ _ hj)), rfl, _, rfl, ite2 (fun h => ?_) (fun h => ?_)⟩
        · refine ⟨.int (i : Nat), rfl, hk (decide_eq_true (fun z => ?_)) _ sT⟩
          rw [z] at h
          exact absurd h (by decide)
        · refine hnk (decide_eq_false (fun z => h ?_)) _ sT
          rw [decide_eq_false (fun e => z (V.int.inj e))]
          rfl
      intro H4 s4 d4
      have kz : ((List.range (qs.map V.ref).length).filter fun i => decide (ent (mL B) P G t (os.getD i 0) j ≠ 0)) = [] → ∀ i, i ∈ os → ent (mL B) P G t i j = 0 := fun e i hi => by
        obtain ⟨x, hx⟩ := List.getElem?_of_mem hi
        have xl := (List.getElem?_eq_some_iff.mp hx).1
        have eo : os.getD x 0 = i := by
          rw [List.getD_eq_getElem?_getD, hx]
          rfl
        by_cases z : ent (mL B) P G t i j = 0
        · exact z
        · have m : x ∈ ((List.range (qs.map V.ref).length).filter fun i => decide (ent (mL B) P G t (os.getD i 0) j ≠ 0)) := List.mem_filter.mpr ⟨List.mem_range.mpr (by rw [lE]; exact xl), decide_eq_true (by rw [eo]; exact z)⟩
          rw [e] at m
          cases m
      have kk : ∀ k0 l, ((List.range (qs.map V.ref).length).filter fun i => decide (ent (mL B) P G t (os.getD i 0) j ≠ 0)) = k0 :: l → k0 < os.length ∧ ent (mL B) P G t (os.getD k0 0) j ≠ 0 := fun k0 l e => by
        have m : k0 ∈ ((List.range (qs.map V.ref).length).filter fun i => decide (ent (mL B) P G t (os.getD i 0) j ≠ 0)) := by
          rw [e]
          exact List.mem_cons_self
        obtain ⟨m1, m2⟩ := List.mem_filter.mp m
        have m1 := List.mem_range.mp m1
        rw [lE] at m1
        exact ⟨m1, of_decide_eq_true m2⟩
      generalize ((List.range (qs.map V.ref).length).filter fun i => decide (ent (mL B) P G t (os.getD i 0) j ≠ 0)) = ks at d4 kz kk
      have gL4 := s4 _ _ hL.1
      have D1L : D1 ≠ L := Ne.symm (ne_of_none hL.1 nD1)
      refine ⟨.ref D1, rfl, !(ks.map fun i => V.int (i : Nat)).isEmpty, .inl ⟨_, SqL.of d4, rfl⟩, ?_⟩
      cases ks with
      | nil => exact iteF ⟨t, os, P, G, sgn, L, qs, ⟨_, _, _, _, _, rfl⟩, W.skip hj (kz rfl), LLs hL s4, s3.trans s4, nL⟩
      | cons k0 kl =>
        obtain ⟨k0l, nz⟩ := kk k0 kl rfl
        obtain ⟨p, o, hp, ho, pL, hrow⟩ := rowA k0 k0l
        have eo : os.getD k0 0 = o := by
          rw [List.getD_eq_getElem?_getD, ho]
          rfl
        rw [eo] at nz
        have W' := W.take ho nz
        refine iteT ⟨.ref L, rfl, .inl ⟨rfl, _, SqL.of gL4⟩, .ref D1, rfl, D1, _, 0, .int (k0 : Nat), rfl, rfl, SqL.of d4, atI_nat (j := 0) rfl, L, _, (k0 : Int), k0, .ref p, rfl, rfl, gL4, by omega, by omega, ?_, get_map hp, ?_⟩
        · rw [lE]
          have := seqIndex_of (k := (k0 : Int)) (n := os.length) (by omega) (by omega)
          rw [this, Int.toNat_natCast]
        have eE : (qs.map V.ref).eraseIdx k0 = (qs.eraseIdx k0).map V.ref := erase_map _ _ _
        rw [eE]
        have rowB : ∀ i, i < (os.eraseIdx k0).length → ∃ p o, (qs.eraseIdx k0)[i]? = some p ∧ (os.eraseIdx k0)[i]? = some o ∧ p ≠ L ∧ H3 p = some (.lst ((rowE (mL B) P G t B.length o).map V.int)) := fun i hi => by
          rw [List.length_eraseIdx_of_lt k0l] at hi
          rcases Nat.lt_or_ge i k0 with l | l
          · obtain ⟨p, o, a1, a2, a3⟩ := rowA i (by omega)
            exact ⟨p, o, by rw [List.getElem?_eraseIdx_of_lt l]; exact a1, by rw [List.getElem?_eraseIdx_of_lt l]; exact a2, a3⟩
          · obtain ⟨p, o, a1, a2, a3⟩ := rowA (i + 1) (by omega)
            exact ⟨p, o, by rw [List.getElem?_eraseIdx_of_ge l]; exact a1, by rw [List.getElem?_eraseIdx_of_ge l]; exact a2, a3⟩
        have s35 : Same H (upd H4 L (.lst ((qs.eraseIdx k0).map V.ref))) := same_put (s3.trans s4) nL
        have g5 : upd H4 L (.lst ((qs.eraseIdx k0).map V.ref)) L = some (.lst ((qs.eraseIdx k0).map V.ref)) := upd_same
        have d5 : upd H4 L (.lst ((qs.eraseIdx k0).map V.ref)) D1 = some (.lst ((k0 :: kl).map fun i => V.int (i : Nat))) := by
          rw [upd_ne D1L]
          exact d4
        have r5 : ∀ {p : Addr} {x : HO}, p ≠ L → H3 p = some x → upd H4 L (.lst ((qs.eraseIdx k0).map V.ref)) p = some x := fun a b => by
          rw [upd_ne a]
          exact s4 _ _ b
        generalize upd H4 L (.lst ((qs.eraseIdx k0).map V.ref)) = H5 at s35 g5 d5 r5 ⊢
        refine gname_ ?_
        dsimp only
        refine seq_ ?_
        refine tifs_rest (fun σ' H' => ∃ y8 y10, σ' = [some (.ref a), some (.ref L), some (.int B.length), some (.int (0 + j)), some (.int ((t : Nat) : Int)), some (.int (Vd.dl (mL B) P G t)), some (.int (Vd.sg k0 * sgn)), some (.ref D1), y8, some (.ref p), y10] ∧ H' = H5) ?_ ?_
        · rintro σ' H' ⟨y8, y10, rfl, rfl⟩
          refine ⟨.ref L, rfl, L, rfl, ⟨_, SqL.of g5⟩, fun D2 nD2 => ?_⟩
          have le : ((qs.eraseIdx k0).map V.ref).length = (os.eraseIdx k0).length := by
            rw [List.length_map, List.length_eraseIdx_of_lt (by omega), List.length_eraseIdx_of_lt k0l]
            omega
          have lo9 : (os.eraseIdx k0).length ≤ 9 := by
            rw [List.length_eraseIdx_of_lt k0l]
            omega
          refine lc_objs (walk_list (K := K) (a := L) (xs := (qs.eraseIdx k0).map V.ref)) (fun i => .lst ((rowE (mL B) (cns o P) (cns j G) (t + 1) B.length ((os.eraseIdx k0).getD i 0)).map V.int)) (by rw [le]; exact small (by omega)) nD2 (fun H' s => SqL.of (s _ _ g5)) ?_ ?_
          · rintro i x H6 H6' Qy hi s6 ⟨rfl, hx⟩ hq
            obtain ⟨pi, hpi, rfl⟩ := map_get hx
            rw [le] at hi
            obtain ⟨p', o', hp', ho', pL', hrow'⟩ := rowB i hi
            obtain rfl := Option.some.inj (hpi.symm.trans hp')
            have eo' : (os.eraseIdx k0).getD i 0 = o' := by
              rw [List.getD_eq_getElem?_getD, ho']
              rfl
            rw [eo'] at hq
            refine ⟨rfl, .ref pi, rfl, .ref p, rfl, .int (0 + j), rfl, .int (Vd.dl (mL B) P G t), rfl, pi, p, _, _, j, Vd.dl (mL B) P G t, by rw [Int.zero_add], s6 _ _ (r5 pL' hrow'), s6 _ _ (r5 pL hrow), by rw [rowE_len, rowE_len], by rw [rowE_len]; exact hj, by rw [rowE_len]; omega, W.d0, dl_sm hA P G (by omega), fun x hx => ?_, fun x hx => ?_, fun r H7 s7 n7 g7 => ?_⟩
            · obtain ⟨c, _, rfl⟩ := List.mem_map.mp hx
              exact ent_sm hA P G (by omega) _ _
            · obtain ⟨c, _, rfl⟩ := List.mem_map.mp hx
              exact ent_sm hA P G (by omega) _ _
            · rw [clr_row W hj] at g7
              exact hq r H7 s7 n7 g7
          intro H6 us s6 d6 lu ndu fru obu
          have l6 := s6 _ _ (r5 pL hrow)
          refine ⟨.ref p, rfl, .int (0 + j), rfl, p, _, 0 + j, .int (ent (mL B) P G t o j), rfl, rfl, SqL.of l6, atI_at (by omega) (get_map (rowE_get _ _ _ _ _ _ hj)), ?_⟩
          refine ⟨.int ((t : Nat) : Int), rfl, _, _, rfl, rfl, ?_⟩
          have s6' := s35.trans s6
          refine ⟨t + 1, os.eraseIdx k0, cns o P, cns j G, Vd.sg k0 * sgn, D2, us, ⟨_, _, _, _, _, rfl⟩, W', ⟨d6, by rw [List.length_map, lu, le], fun i p' r e1 e2 => ?_⟩, s6', s35.free nD2⟩
          have hi : i < (os.eraseIdx k0).length := by
            have := (List.getElem?_eq_some_iff.mp e1).1
            omega
          have eo' : (os.eraseIdx k0)[i]? = some ((os.eraseIdx k0).getD i 0) := by
            rw [List.getD_eq_getElem?_getD, List.getElem?_eq_getElem hi]
            rfl
          rw [List.getElem?_map, eo'] at e2
          obtain rfl := Option.some.inj e2
          have g1 := obu i p' e1
          refine ⟨?_, g1⟩
          rintro rfl
          rw [d6] at g1
          exact absurd (HO.lst.inj (Option.some.inj g1)) (refs_ne (by omega))
        · intro rest
          refine ⟨.ref D1, rfl, D1, _, 0, .int (k0 : Nat), rfl, rfl, SqL.of d5, atI_nat (j := 0) rfl, _, _, rfl, rfl, (show (2 : Int) ≠ 0 by decide), rfl, _, rfl, ite2 (fun h => ?_) (fun h => ?_)⟩
          · have h := V.int.inj (of_decide_eq_true h)
            refine ⟨.int sgn, rfl, sgn, rfl, rest _ _ ⟨y8, y10, ?_, rfl⟩⟩
            have e : Vd.sg k0 * sgn = - sgn := by
              have : Vd.sg k0 = -1 := by
                unfold Vd.sg
                rw [Int.fmod_eq_emod_of_nonneg _ (by decide)] at h
                rw [if_neg (by omega)]
              rw [this]
              omega
            rw [e]
            rfl
          · refine rest _ _ ⟨y8, y10, ?_, rfl⟩
            have e : Vd.sg k0 * sgn = sgn := by
              have : Vd.sg k0 = 1 := by
                unfold Vd.sg
                refine if_pos ?_
                by_cases z : k0 % 2 = 0
                · exact z
                · refine absurd (decide_eq_true ?_) h
                  show V.int ((k0 : Int).fmod 2) = V.int 1
                  rw [Int.fmod_eq_emod_of_nonneg _ (by decide)]
                  congr 1
                  omega
              rw [this]
              omega
            rw [e]
            rfl
    · rintro σ H3 ⟨t, os, P, G, sgn, L, qs, ⟨y3, y7, y8, y9, y10, rfl⟩, W, hL, s3, nL⟩
      have t9 : t ≤ 9 := by
        have := W.tj
        omega
      have zs : SmZ 2 sgn := by
        rcases W.s with e | e
        · rw [e]; decide
        · rw [e]; decide
      refine ⟨.int ((t : Nat) : Int), rfl, .int sgn, rfl, .int (Vd.dl (mL B) P G t), rfl, _, _, rfl, rfl, mulB (by decide) (by decide) zs (dl_sm hA P G t9) (by decide), ?_⟩
      refine ⟨by show 2 ≤ sizeLine; decide, fun R nR => ?_⟩
      exact q R t (sgn * Vd.dl (mL B) P G t) _ (s3.trans (same_new nR)) upd_same W.done
end
end K10
namespace K10
open PySem PySem.Spec PyProof.Rows L2 Vk Vd
abbrev s_det : Stmt := topS 12
theorem sc_det : FnScope ["table", "size", "part"] ["table"] (defScope s_det) := ⟨rfl, rfl, rfl, by decide +kernel, rfl, by decide +kernel, by decide +kernel⟩
abbrev s_trow : Stmt := topS 16
theorem sc_trow : FnScope ["row", "table"] ["row", "table"] (defScope s_trow) := ⟨rfl, rfl, rfl, by decide +kernel, rfl, by decide +kernel, by decide +kernel⟩
abbrev s_tcol : Stmt := topS 17
theorem sc_tcol : FnScope ["table", "column", "row"] ["table", "column"] (defScope s_tcol) := ⟨rfl, rfl, rfl, by decide +kernel, rfl, by decide +kernel, by decide +kernel⟩
abbrev s_ttable : Stmt := topS 18
theorem sc_ttable : FnScope ["one", "other", "row"] ["one", "other"] (defScope s_ttable) := ⟨rfl, rfl, rfl, by decide +kernel, rfl, by decide +kernel, by decide +kernel⟩
abbrev s_turned : Stmt := topS 15
theorem sc_turned : FnScope ["rows", "width", "j", "row"] ["rows", "width"] (defScope s_turned) := ⟨rfl, rfl, rfl, by decide +kernel, rfl, by decide +kernel, by decide +kernel⟩
/-- the columns of a table -/
def colsI (rows : List (List Int)) (n : Nat) : List (List Int) := (List.range n).map fun j => rows.map fun r => r.getD j 0
theorem colsI_get {rows : List (List Int)} {n j : Nat} {z : List Int} (h : (colsI rows n)[j]? = some z) : z = rows.map fun r => r.getD j 0 := by
  unfold colsI at h
  rw [List.getElem?_map] at h
  cases e : (List.range n)[j]? with
  | none => rw [e] at h; cases h
  | some k =>
    rw [e] at h
    have hk : k = j := by
      have := List.getElem?_eq_some_iff.mp e
      obtain ⟨hj, hk⟩ := this
      rw [List.getElem_range] at hk
      exact hk.symm
    subst hk
    exact (Option.some.inj h).symm
/-- rows of n numbers -/
def TabR (H : Hp) (a : Addr) (B : List (List Int)) (n : Nat) : Prop := ∃ ps, Tp H a (ps.map V.ref) ∧ Rws H ps B n
theorem TabR.same {H H' : Hp} {a : Addr} {B : List (List Int)} {n : Nat} (h : TabR H a B n) (s : Same H H') : TabR H' a B n := by
  obtain ⟨ps, h1, h2⟩ := h
  exact ⟨ps, h1.same s, h2.same s⟩
theorem TabR.but {m a : Addr} {H H' : Hp} {B : List (List Int)} {n : Nat} {kvs : List (Key × V)} (h : TabR H a B n) (hm : H m = some (.dK kvs)) (s : SameBut m H H') : TabR H' a B n := by
  obtain ⟨ps, h1, h2⟩ := h
  exact ⟨ps, h1.but hm s, h2.but hm s⟩
theorem TabR.w {H : Hp} {a : Addr} {B : List (List Int)} {n : Nat} (h : TabR H a B n) : ∀ r ∈ B, r.length = n ∧ ∀ x ∈ r, SmZ 300 x := fun r hr => by
  obtain ⟨ps, h1, h2⟩ := h
  obtain ⟨i, hi⟩ := List.getElem?_of_mem hr
  have il : i < ps.length := by
    rw [h2.1]
    exact (List.getElem?_eq_some_iff.mp hi).1
  obtain ⟨R, l⟩ := h2.2 i ps[i] r (List.getElem?_eq_getElem il) hi
  exact ⟨l, R.2.2⟩
def spDet : Sp := fun vs H Q _ => ∃ (a : Addr) (B : List (List Int)), vs = [.ref a] ∧ TabR H a B B.length ∧ B.length ≤ 9 ∧ ∀ H', Same H H' → Q (.int (det B.length (mL B))) H'
def spTcol : Sp := fun vs H Q _ => ∃ (a c : Addr) (B : List (List Int)) (n : Nat) (xs : List Int), vs = [.ref a, .ref c] ∧ TabR H a B n ∧ Row H c xs ∧ xs.length = n ∧ B.length ≤ 90 ∧ ∀ r H', Same H H' → Tp H' r ((B.map fun b => dot b xs).map V.int) → Q (.ref r) H'
def spTrow : Sp := fun vs H Q _ => ∃ (c a : Addr) (B : List (List Int)) (xs : List Int), vs = [.ref c, .ref a] ∧ TabR H a B B.length ∧ Row H c xs ∧ xs.length = B.length ∧ B.length ≤ 9 ∧ ∀ r H', Same H H' → Tp H' r (((colsI B B.length).map fun b => dot b xs).map V.int) → Q (.ref r) H'
def mulI (X B : List (List Int)) : List (List Int) := X.map fun x => (colsI B B.length).map fun b => dot b x
def spTtab : Sp := fun vs H Q _ => ∃ (c a : Addr) (X B : List (List Int)), vs = [.ref c, .ref a] ∧ TabR H c X B.length ∧ TabR H a B B.length ∧ X.length ≤ 9 ∧ B.length ≤ 9 ∧ ∀ r ps H', Same H H' → Tp H' r (ps.map V.ref) → Rw H' ps (mulI X B) → Q (.ref r) H'
theorem colsI_len (B : List (List Int)) (n : Nat) : (colsI B n).length = n := by
  unfold colsI
  rw [List.length_map, List.length_range]
def spTurnedT : Sp := fun vs H Q _ => ∃ (a : Addr) (n : Nat) (ps : List Addr) (rows : List (List Int)), vs = [.ref a, .int n] ∧ Tp H a (ps.map V.ref) ∧ Rws H ps rows n ∧ rows.length ≤ 100 ∧ n ≤ 100 ∧ ∀ r qs H', Same H H' → Tp H' r (qs.map V.ref) → Rws H' qs (colsI rows n) rows.length → Q (.ref r) H'
section
variable {P : Program} {w : World} {K : PySem.W.Frag} {mg : Str → Option Value} {base : Heap}
theorem ok_det {f : Addr} {fd : FuncData} (F : Fun K "determinant" "determinant" s_det f fd) (C_swept : Cal P w K mg base 2 "swept" ["rows"] spSwept) (m_len : mg "len" = none) : FnOk P w K mg base CX0 3 f fd ["table"] spDet := by
  have sc := sc_det
  refine F.ok sc (fun vs H Q E h => ?_) (fun cdv A outer s H vs Q E hr h => ?_)
  · obtain ⟨a, B, rfl, _⟩ := h
    rfl
  · obtain ⟨a, B, rfl, ⟨ps, ha, hR⟩, h9, q⟩ := h
    refine ⟨_, (pss_cons (ps_asg (call_ C_swept (hr.mono (by decide)) (by rfl) (pa_cons (pv 0) pa_nil)) (pg_tup (n := 2) (by rfl) (pgs_cons (pg_name (i := 1) sc.nd rfl (Or.inl rfl)) (pgs_cons (pg_name (i := 2) sc.nd rfl (Or.inl rfl)) pgs_nil))))
    (pss_one (ps_ret (pe_ifExp (pt_cmpR op_eq (pv 1) (pe_callB call_len_seq (by rfl) m_len (by decide +kernel) (pa_cons (pv 0) pa_nil)) (nomark _)) (pv 2) pe_int)))), ?_⟩
    refine ⟨.ref a, rfl, a, ps, B, rfl, ha, hR, h9, fun r t v H1 s1 g1 e1 => ?_⟩
    refine ⟨r, _, rfl, g1.t, rfl, .int ((t : Nat) : Int), [.int v], rfl, .int v, [], rfl, rfl, ?_⟩
    refine ⟨.int ((t : Nat) : Int), rfl, .ref a, rfl, a, _, rfl, .inr (ha.same s1).t, rfl, _, rfl, ?_⟩
    rw [List.length_map, hR.1]
    by_cases e : t = B.length
    · rw [if_pos e] at e1
      rw [e, decide_eq_true rfl]
      have q := q H1 s1
      rw [e1] at q
      exact iteT ⟨.int v, rfl, q⟩
    · rw [if_neg e] at e1
      rw [decide_eq_false fun z => e (by have := V.int.inj z; omega)]
      have q := q H1 s1
      rw [e1] at q
      exact iteF q
theorem ok_turnedT {f : Addr} {fd : FuncData} (F : Fun K "turned" "turned" s_turned f fd) (m_tuple : mg "tuple" = none) (m_range : mg "range" = none) : FnOk P w K mg base CX0 1 f fd ["rows", "width"] spTurnedT := by
  have sc := sc_turned
  refine F.ok sc (fun vs H Q E h => ?_) (fun cdv A outer s H vs Q E hr h => ?_)
  · obtain ⟨a, n, ps, rows, rfl, _⟩ := h
    rfl
  · obtain ⟨a, n, ps, rows, rfl, ha, hR, hl, hn, q⟩ := h
    refine ⟨_, (pss_one (ps_ret (pe_callTy call_tuple_of (by rfl) m_tuple (by decide +kernel) (pa_cons (pe_lc (own := [("j", 2)]) (g := gName 2) (by rfl) sc.nd (pi_range1 rfl m_range (pa_cons (pv 1) pa_nil)) (blkOk_by (own := [("j", 2)]) (N := ["rows", "width", "j", "row"]) (sc := defScope s_turned) (by decide +kernel)) (fun _ _ _ _ _ => pg_name (i := 2) sc.nd rfl (Or.inr rfl)) (fun _ _ _ _ _ => pts_nil) (fun _ _ _ _ _ => (pe_callTy (call_tuple_ofK (K := K) rfl) (by rfl) m_tuple (by decide +kernel) (pa_cons (pe_lc (own := [("row", 3)]) (g := gName 3) (by rfl) sc.nd (pi_tupK (K := K) rfl (pv 0)) (blkOk_by (own := [("row", 3)]) (N := ["rows", "width", "j", "row"]) (sc := { kind := .function, names := [(".0", .local), ("j", .cell), ("tuple", .globalImplicit), ("rows", .cell)], isGenerator := false, isCoroutine := false }) (by decide +kernel)) (fun _ _ _ _ _ => pg_name (i := 3) sc.nd rfl (Or.inl rfl)) (fun _ _ _ _ _ => pts_nil) (fun _ _ _ _ _ => (pe_ix (ix_tupK (K := K) rfl) (pv 3) (pv 2) (fun _ _ => rfl)))) pa_nil)))) pa_nil)))), ?_⟩
    have lp : ps.length = rows.length := hR.1
    refine ⟨.int n, rfl, (n : Int), rfl, by omega, by omega, fun D nD => ?_⟩
    rw [Int.toNat_natCast]
    refine lc_objs (walk_range (lo := 0) (n := n)) (fun j => .tup ((rows.map fun r => r.getD j 0).map V.int)) (small hn) nD (fun H' s => True.intro) ?_ ?_
    · rintro j x H0 H0' Qy hj s0 ⟨rfl, rfl⟩ hq
      refine ⟨rfl, .ref a, rfl, a, rfl, ⟨_, (ha.same s0).t⟩, fun D2 nD2 => ?_⟩
      refine lc_to (walk_tup (K := K) (a := a) (xs := ps.map V.ref)) ((rows.map fun r => r.getD j 0).map V.int) (by rw [List.length_map, List.length_map, List.length_map, lp]) (by rw [List.length_map]; exact small (by omega)) nD2 (fun H' s => ((ha.same s0).same s).t) ?_ ?_
      · rintro i x z H1 H1' Qy hz hi s1 ⟨rfl, hx⟩ hq
        obtain ⟨p, hp, rfl⟩ := map_get hx
        obtain ⟨v, hv, rfl⟩ := map_get hz
        obtain ⟨r, hr', rfl⟩ := map_get hv
        obtain ⟨Rp, lr⟩ := hR.2 i p r hp hr'
        exact ⟨rfl, .ref p, rfl, .int (0 + j), rfl, p, _, 0 + j, .int (r.getD j 0), rfl, rfl, ((Rp.same s0).same s1).1.t, atI_at (i := j) (by omega) (get_map (getD_at (by omega))), hq _ (Same.refl _)⟩
      · intro H2 s2 d2
        exact ⟨D2, _, rfl, .inl ⟨SqL.of d2, fun T nT => hq T _ (s2.trans (same_new nT)) (s2.free nT) upd_same⟩⟩
    · intro H' qs s1 d l nd fr ob
      refine ⟨D, _, rfl, .inl ⟨SqL.of d, fun T nT => ?_⟩⟩
      have s2 := same_new (o := .tup (qs.map V.ref)) nT
      refine q T qs _ (s1.trans s2) upd_same ⟨by unfold colsI; rw [l, List.length_map, List.length_range], fun j p z hp hz => ?_⟩
      have ho := ob j p hp
      have hj : j < n := by
        have := (List.getElem?_eq_some_iff.mp hp).1
        omega
      obtain rfl := colsI_get hz
      refine ⟨⟨s2 _ _ ho, by rw [List.length_map]; exact hl, fun x hx => ?_⟩, by rw [List.length_map]⟩
      obtain ⟨r, hr', rfl⟩ := List.mem_map.mp hx
      obtain ⟨i, hi⟩ := List.getElem?_of_mem hr'
      have il : i < ps.length := by
        rw [lp]
        exact (List.getElem?_eq_some_iff.mp hi).1
      obtain ⟨Rp, lr⟩ := hR.2 i ps[i] r (List.getElem?_eq_getElem il) hi
      exact Rp.2.2 _ (List.mem_of_getElem? (getD_at (xs := r) (i := j) (by omega)))
theorem ok_tcol {f : Addr} {fd : FuncData} (F : Fun K "times_column" "times_column" s_tcol f fd) (C_product_sum : Cal P w K mg base 1 "product_sum" ["one", "other"] spPsum) (m_tuple : mg "tuple" = none) : FnOk P w K mg base CX0 2 f fd ["table", "column"] spTcol := by
  have sc := sc_tcol
  refine F.ok sc (fun vs H Q E h => ?_) (fun cdv A outer s H vs Q E hr h => ?_)
  · obtain ⟨a, c, B, n, xs, rfl, _⟩ := h
    rfl
  · obtain ⟨a, c, B, n, xs, rfl, ⟨ps, ha, hR⟩, hc, lx, h9, q⟩ := h
    refine ⟨_, (pss_one (ps_ret (pe_callTy call_tuple_of (by rfl) m_tuple (by decide +kernel) (pa_cons (pe_lc (own := [("row", 2)]) (g := gName 2) (by rfl) sc.nd (pi_tup (pv 0)) (blkOk_by (own := [("row", 2)]) (N := ["table", "column", "row"]) (sc := defScope s_tcol) (by decide +kernel)) (fun _ _ _ _ _ => pg_name (i := 2) sc.nd rfl (Or.inl rfl)) (fun _ _ _ _ _ => pts_nil) (fun _ _ _ _ _ => (call_ C_product_sum (hr.mono (by decide)) (by rfl) (pa_cons (pv 2) (pa_cons (pv 1) pa_nil))))) pa_nil)))), ?_⟩
    refine ⟨.ref a, rfl, a, rfl, ⟨_, ha.t⟩, fun D nD => ?_⟩
    refine lc_to (walk_tup (K := K) (a := a) (xs := ps.map V.ref)) ((B.map fun b => dot b xs).map V.int) (by rw [List.length_map, List.length_map, List.length_map, hR.1]) (by rw [List.length_map, hR.1]; exact small (by omega)) nD (fun H' s => (ha.same s).t) ?_ ?_
    · rintro i x z H1 H1' Qy hz hi s1 ⟨rfl, hx⟩ hq
      obtain ⟨p, hp, rfl⟩ := map_get hx
      obtain ⟨v, hv, rfl⟩ := map_get hz
      obtain ⟨b, hb, rfl⟩ := map_get hv
      obtain ⟨Rp, lr⟩ := hR.2 i p b hp hb
      exact ⟨rfl, .ref p, rfl, .ref c, rfl, p, c, b, xs, rfl, Rp.same s1, hc.same s1, by omega, fun H2 s2 => hq H2 s2⟩
    · intro H2 s2 d2
      exact ⟨D, _, rfl, .inl ⟨SqL.of d2, fun T nT => q T _ (s2.trans (same_new nT)) upd_same⟩⟩
theorem ok_trow {f : Addr} {fd : FuncData} (F : Fun K "times_row" "times_row" s_trow f fd) (C_times_column : Cal P w K mg base 2 "times_column" ["table", "column"] spTcol) (C_turned : Cal P w K mg base 1 "turned" ["rows", "width"] spTurnedT) (m_len : mg "len" = none) : FnOk P w K mg base CX0 3 f fd ["row", "table"] spTrow := by
  have sc := sc_trow
  refine F.ok sc (fun vs H Q E h => ?_) (fun cdv A outer s H vs Q E hr h => ?_)
  · obtain ⟨c, a, B, xs, rfl, _⟩ := h
    rfl
  · obtain ⟨c, a, B, xs, rfl, ⟨ps, ha, hR⟩, hc, lx, h9, q⟩ := h
    refine ⟨_, (pss_one (ps_ret (call_ C_times_column (hr.mono (by decide)) (by rfl) (pa_cons (call_ C_turned (hr.mono (by decide)) (by rfl) (pa_cons (pv 1) (pa_cons (pe_callB call_len_seq (by rfl) m_len (by decide +kernel) (pa_cons (pv 0) pa_nil)) pa_nil))) (pa_cons (pv 0) pa_nil))))), ?_⟩
    refine ⟨.ref a, rfl, .ref c, rfl, c, _, rfl, .inr hc.1.t, ?_⟩
    rw [List.length_map, lx]
    refine ⟨a, B.length, ps, B, rfl, ha, hR, by omega, by omega, fun r qs H1 s1 g1 R1 => ?_⟩
    exact ⟨.ref c, rfl, r, c, _, B.length, xs, rfl, ⟨qs, g1, R1⟩, hc.same s1, lx, by rw [colsI_len]; omega, fun r2 H2 s2 g2 => q r2 H2 (s1.trans s2) g2⟩
theorem ok_ttab {f : Addr} {fd : FuncData} (F : Fun K "times_table" "times_table" s_ttable f fd) (C_times_row : Cal P w K mg base 3 "times_row" ["row", "table"] spTrow) (m_tuple : mg "tuple" = none) : FnOk P w K mg base CX0 4 f fd ["one", "other"] spTtab := by
  have sc := sc_ttable
  refine F.ok sc (fun vs H Q E h => ?_) (fun cdv A outer s H vs Q E hr h => ?_)
  · obtain ⟨c, a, X, B, rfl, _⟩ := h
    rfl
  · obtain ⟨c, a, X, B, rfl, ⟨xs, hX, RX⟩, hB, h9, h9', q⟩ := h
    refine ⟨_, (pss_one (ps_ret (pe_callTy call_tuple_of (by rfl) m_tuple (by decide +kernel) (pa_cons (pe_lc (own := [("row", 2)]) (g := gName 2) (by rfl) sc.nd (pi_tup (pv 0)) (blkOk_by (own := [("row", 2)]) (N := ["one", "other", "row"]) (sc := defScope s_ttable) (by decide +kernel)) (fun _ _ _ _ _ => pg_name (i := 2) sc.nd rfl (Or.inl rfl)) (fun _ _ _ _ _ => pts_nil) (fun _ _ _ _ _ => (call_ C_times_row (hr.mono (by decide)) (by rfl) (pa_cons (pv 2) (pa_cons (pv 1) pa_nil))))) pa_nil)))), ?_⟩
    refine ⟨.ref c, rfl, c, rfl, ⟨_, hX.t⟩, fun D nD => ?_⟩
    refine lc_tps (walk_tup (K := K) (a := c) (xs := xs.map V.ref)) (mulI X B) (by unfold mulI; rw [List.length_map, List.length_map, RX.1]) (by rw [List.length_map, RX.1]; exact small (by omega)) nD (fun H' s => (hX.same s).t) ?_ ?_
    · rintro i x y H0 H0' Qy hy hi s0 ⟨rfl, hx⟩ hq
      obtain ⟨p, hp, rfl⟩ := map_get hx
      obtain ⟨r, hr', rfl⟩ := map_get hy
      obtain ⟨Rp, lr⟩ := RX.2 i p r hp hr'
      exact ⟨rfl, .ref p, rfl, .ref a, rfl, p, a, B, r, rfl, hB.same s0, Rp.same s0, lr, h9', fun r2 H2 s2 g2 => hq r2 H2 s2 g2⟩
    intro H2 us s2 d2 W2
    exact ⟨D, _, rfl, .inl ⟨SqL.of d2, fun T nT => q T us _ (s2.trans (same_new nT)) upd_same (W2.same (same_new nT))⟩⟩
end
end K10
namespace K10
open PySem PySem.Spec PyProof.Rows L2 Vk Vd
abbrev s_ldet : Stmt := topS 27
theorem sc_ldet : FnScope ["table", "j", "total", "sign", "inner", "row"] ["table"] (defScope s_ldet) := ⟨rfl, rfl, rfl, by decide +kernel, rfl, by decide +kernel, by decide +kernel⟩
def spLd (m : Nat) : Sp := fun vs H Q _ => ∃ (a : Addr) (B : List (List Int)), vs = [.ref a] ∧ TabR H a B B.length ∧ B.length < m ∧ ∀ H', Same H H' → Q (.int (det B.length (mL B))) H'
theorem mL_at {B : List (List Int)} {r c : Nat} {b : List Int} (h : B[r]? = some b) : mL B r c = b.getD c 0 := by
  unfold mL
  rw [List.getD_eq_getElem?_getD (l := B), h]
  rfl
theorem mL_mn {B : List (List Int)} {j : Nat} : ∀ r c, mL (B.tail.map fun b => b.take j ++ b.drop (j + 1)) r c = mn 0 j (mL B) r c := fun r c => by
  show _ = mL B (sk 0 r) (sk j c)
  rw [sk_zero]
  unfold mL
  by_cases h : r + 1 < B.length
  · have e1 : (B.tail.map fun b => b.take j ++ b.drop (j + 1)).getD r [] = (B.getD (r + 1) []).take j ++ (B.getD (r + 1) []).drop (j + 1) := by
      rw [List.getD_eq_getElem?_getD, List.getElem?_map, List.getElem?_tail, List.getD_eq_getElem?_getD, List.getElem?_eq_getElem h]
      rfl
    rw [e1, ← List.eraseIdx_eq_take_drop_succ, List.getD_eq_getElem?_getD, List.getD_eq_getElem?_getD (i := sk j c)]
    congr 1
    unfold sk
    split
    · next l => rw [List.getElem?_eraseIdx_of_lt l]
    · next l => rw [List.getElem?_eraseIdx_of_ge (by omega)]
  · have e1 : (B.tail.map fun b => b.take j ++ b.drop (j + 1)).getD r [] = [] := by
      rw [List.getD_eq_getElem?_getD, List.getElem?_eq_none (by rw [List.length_map, List.length_tail]; omega)]
      rfl
    have e2 : B.getD (r + 1) [] = [] := by
      rw [List.getD_eq_getElem?_getD, List.getElem?_eq_none (by omega)]
      rfl
    rw [e1, e2]
    rfl
theorem dp_rows {K : PySem.W.Frag} {H : Hp} {a : Addr} {B : List (List Int)} {n : Nat} (h : TabR H a B n) : Dp K H (.ref a) (.tuple (B.map dRow)) := by
  obtain ⟨ps, h1, h2⟩ := h
  refine .tup h1.t (dp_all ps _ (by rw [List.length_map, h2.1]) fun i q d e1 e2 => ?_)
  obtain ⟨z, hz, rfl⟩ := map_get e2
  exact dp_row (h2.2 i q z e1 hz).1.1
section
variable {P : Program} {w : World} {K : PySem.W.Frag} {mg : Str → Option Value} {base : Heap}
theorem ok_ldet {f : Addr} {fd : FuncData} {k m : Nat} (hm : m ≤ 5) (F : Fun K "_law_det" "_law_det" s_ldet f fd) (C__law_det : Cal P w K mg base k "_law_det" ["table"] (spLd m)) (m_len : mg "len" = none) (m_range : mg "range" = none) (m_tuple : mg "tuple" = none) : FnOk P w K mg base CX0 (k + 1) f fd ["table"] (spLd (m + 1)) := by
  have sc := sc_ldet
  refine F.ok sc (fun vs H Q E h => ?_) (fun cdv A outer s H vs Q E hr h => ?_)
  · obtain ⟨a, B, rfl, _⟩ := h
    rfl
  · obtain ⟨a, B, rfl, hT, hlm, q⟩ := h
    refine ⟨_, (pss_cons (ps_if (pt_cmpR (op_eqD hr.units) (pv 0) (pe_tup pa_nil) (nomark _))
      (pss_one (ps_ret pe_int))
      pss_nil)
    (pss_cons (ps_asg (pe_tup (pa_cons pe_int (pa_cons pe_int pa_nil))) (pg_tup (n := 2) (by rfl) (pgs_cons (pg_name (i := 2) sc.nd rfl (Or.inl rfl)) (pgs_cons (pg_name (i := 3) sc.nd rfl (Or.inl rfl)) pgs_nil))))
    (pss_cons (ps_for PassesOwn.never rfl (pi_range1 rfl m_range (pa_cons (pe_callB call_len_seq (by rfl) m_len (by decide +kernel) (pa_cons (pv 0) pa_nil)) pa_nil)) (pg_name (i := 1) sc.nd rfl (Or.inr rfl))
      (pss_cons (ps_if (pt_cmpR op_ne (pe_ix ix_tup (pe_ix ix_tup (pv 0) pe_int (fun _ _ => rfl)) (pv 1) (fun _ _ => rfl)) pe_int (nomark _))
      (pss_cons (ps_set (i := 4) sc.nd rfl (Or.inl rfl) (pe_callTy call_tuple_of (by rfl) m_tuple (by decide +kernel) (pa_cons (pe_lc (own := [("row", 5)]) (g := gName 5) (by rfl) sc.nd (pi_tup (pe_slice sl_tupA (pv 0) (po_some pe_int) po_none)) (blkOk_by (own := [("row", 5)]) (N := ["table", "j", "total", "sign", "inner", "row"]) (sc := defScope s_ldet) (by decide +kernel)) (fun _ _ _ _ _ => pg_name (i := 5) sc.nd rfl (Or.inl rfl)) (fun _ _ _ _ _ => pts_nil) (fun _ _ _ _ _ => (pe_op (op_catAK (K := K) rfl) (pe_slice (sl_tupAK (K := K) rfl) (pv 5) po_none (po_some (pv 1))) (pe_slice (sl_tupAK (K := K) rfl) (pv 5) (po_some (pe_op op_add (pv 1) pe_int)) po_none)))) pa_nil)))
    (pss_one (ps_set (i := 2) sc.nd rfl (Or.inl rfl) (pe_op op_add (pv 2) (pe_op op_mulW (pe_op op_mulW (pv 3) (pe_ix ix_tup (pe_ix ix_tup (pv 0) pe_int (fun _ _ => rfl)) (pv 1) (fun _ _ => rfl))) (call_ C__law_det (hr.mono (Nat.le_refl _)) (by rfl) (pa_cons (pv 4) pa_nil)))))))
      pss_nil)
    (pss_one (ps_set (i := 3) sc.nd rfl (Or.inl rfl) (pe_un un_neg (pv 3))))))
    (pss_one (ps_ret (pv 2)))))), ?_⟩
    have hT0 := hT
    obtain ⟨ps, ha, hR⟩ := hT
    have wid := hT0.w
    have hA : ∀ r c, (mL B r c).natAbs ≤ 2 ^ 300 := mL_sm fun r hr => (wid r hr).2
    refine ⟨.ref a, rfl, by show 0 ≤ sizeLine; decide, fun e ne => ?_⟩
    have s1 : Same H (upd H e (.tup [])) := same_new ne
    have g1 : Tp (upd H e (.tup [])) e [] := upd_same
    generalize upd H e (.tup []) = H1 at s1 g1 ⊢
    refine ⟨.tuple (B.map dRow), .tuple [], dp_rows (hT0.same s1), .tup g1.t .nil, (shaped_rows B).2, by decide, _, rfl, ?_⟩
    have eqe : PyData.eqv (.tuple (B.map dRow)) (.tuple []) = B.isEmpty := by
      cases B with
      | nil => rfl
      | cons a l => rfl
    rw [eqe]
    obtain ⟨n, hn⟩ : ∃ n, n = B.length := ⟨_, rfl⟩
    cases n with
    | zero =>
      have : B = [] := List.eq_nil_of_length_eq_zero hn.symm
      subst this
      exact iteT' rfl (q H1 s1)
    | succ n =>
      refine iteF' (by cases B with | nil => cases hn | cons a l => rfl) ?_
      have hp0 : ps[0]? = some (ps[0]'(by rw [hR.1]; omega)) := List.getElem?_eq_getElem _
      generalize ps[0]'(by rw [hR.1]; omega) = p0 at hp0
      have hb0 : B[0]? = some (B[0]'(by omega)) := List.getElem?_eq_getElem _
      generalize B[0]'(by omega) = b0 at hb0
      obtain ⟨R0, lb0⟩ := hR.2 0 p0 b0 hp0 hb0
      refine ⟨by show 2 ≤ sizeLine; decide, fun T nT => ?_⟩
      have s2 : Same H1 (upd H1 T (.tup [.int 0, .int 1])) := same_new nT
      have g2 : Tp (upd H1 T (.tup [.int 0, .int 1])) T [.int 0, .int 1] := upd_same
      generalize upd H1 T (.tup [.int 0, .int 1]) = H2 at s2 g2 ⊢
      have s12 := s1.trans s2
      refine ⟨T, _, rfl, g2.t, rfl, .int 0, [.int 1], rfl, .int 1, [], rfl, rfl, ?_⟩
      refine ⟨.ref a, rfl, a, _, rfl, .inr (ha.same s12).t, ((ps.map V.ref).length : Int), rfl, by omega, by rw [List.length_map, hR.1]; omega, ?_⟩
      have e0 : ((ps.map V.ref).length : Int).toNat = B.length := by
        rw [List.length_map, hR.1]
        omega
      rw [e0]
      obtain ⟨fj, hfj⟩ : ∃ fj : Nat → Int, fj = fun j => Vd.sg j * mL B 0 j * det n (mn 0 j (mL B)) := ⟨_, rfl⟩
      have eD : det B.length (mL B) = S B.length fj := by
        rw [← hn, hfj]
        rfl
      have fsm : ∀ j, (fj j).natAbs ≤ 2 ^ 2000 := fun j => by
        have h := det_abs (k := 300) n (mn 0 j (mL B)) (by omega) fun r c => hA _ _
        rw [hfj]
        show (Vd.sg j * mL B 0 j * det n (mn 0 j (mL B))).natAbs ≤ _
        rw [Int.natAbs_mul, Int.natAbs_mul, sg_abs, Nat.one_mul]
        refine Nat.le_trans (Nat.mul_le_mul (hA 0 j) h) ?_
        rw [← Nat.pow_add]
        refine Nat.pow_le_pow_right (by decide) ?_
        have : n * (300 + 4) ≤ 5 * 304 := Nat.mul_le_mul (by omega) (by omega)
        omega
      refine for_range (lo := 0) (n := B.length) (fun j σ H' => (∃ y1 y4 y5, σ = [some (.ref a), y1, some (.int (S j fj)), some (.int (Vd.sg j)), y4, y5]) ∧ Same H H') ⟨⟨none, none, none, rfl⟩, s12⟩ ?_ ?_
      · rintro j σ H3 hj ⟨⟨y1, y4, y5, rfl⟩, s3⟩
        have ej : (0 + (j : Int)) = ((j : Nat) : Int) := by omega
        refine seq_ ?_
        refine tifs_rest (fun σ' H' => (∃ y4 y5, σ' = [some (.ref a), some (.int (0 + j)), some (.int (S (j + 1) fj)), some (.int (Vd.sg j)), y4, y5]) ∧ Same H H') ?_ ?_
        · rintro σ' H' ⟨⟨y4, y5, rfl⟩, s4⟩
          refine ⟨.int (Vd.sg j), rfl, Vd.sg j, rfl, ⟨some (.int (0 + j)), y4, y5, ?_⟩, s4⟩
          rw [sg_succ]
          rfl
        · intro rest
          have gj := Vk.getD_at (xs := b0) (i := j) (by omega)
          have em := mL_at (c := j) hb0
          rw [← em] at gj
          refine ⟨.ref a, rfl, a, _, 0, .ref p0, rfl, rfl, (ha.same s3).t, atI_nat (j := 0) (get_map hp0), .int (0 + j), rfl, p0, _, 0 + j, .int (mL B 0 j), rfl, rfl, (R0.same s3).1.t, atI_at ej (get_map gj), rfl, _, rfl, ite2 (fun h => ?_) (fun h => ?_)⟩
          · refine ⟨.ref a, rfl, 1, rfl, ?_⟩
            unfold tNoPart
            refine slice_tp (ha.same s3) fun r1 H4 s4 g4 => ?_
            rw [show (some (1 : Int)) = some ((1 : Nat) : Int) from rfl, cut_from, ← List.map_drop] at g4
            have s34 := s3.trans s4
            have lR : (B.tail.map fun b => b.take j ++ b.drop (j + 1)).length = n := by
              rw [List.length_map, List.length_tail]
              omega
            have ld : ((ps.drop 1).map V.ref).length = n := by
              rw [List.length_map, List.length_drop, hR.1]
              omega
            refine ⟨r1, rfl, ⟨_, g4.t⟩, fun D nD => ?_⟩
            refine lc_tps (walk_tup (K := K) (a := r1) (xs := (ps.drop 1).map V.ref)) (B.tail.map fun b => b.take j ++ b.drop (j + 1)) (by rw [lR, ld]) (by rw [ld]; exact small (by omega)) nD (fun H' s => (g4.same s).t) ?_ ?_
            · rintro i x y H5 H5' Qy hy hi s5 ⟨rfl, hx⟩ hq
              obtain ⟨p, hp, rfl⟩ := map_get hx
              obtain ⟨b, hb, rfl⟩ := map_get hy
              rw [List.getElem?_drop] at hp
              rw [List.getElem?_tail] at hb
              obtain ⟨Rp, lb⟩ := hR.2 (i + 1) p b (by rw [Nat.add_comm]; exact hp) hb
              have R5 := Rp.same (s34.trans s5)
              refine ⟨rfl, .ref p, rfl, .int (0 + j), rfl, 0 + j, rfl, ?_⟩
              refine slice_tp R5.1 fun r5 H6 s6 g6 => ?_
              rw [ej, cut_to, ← List.map_take] at g6
              refine ⟨.ref p, rfl, .int (0 + j), rfl, 0 + j, 1, rfl, rfl, 0 + j + 1, rfl, ?_⟩
              refine slice_tp (R5.same s6).1 fun r7 H7 s7 g7 => ?_
              rw [show (0 + (j : Int) + 1) = ((j + 1 : Nat) : Int) by omega, cut_from, ← List.map_drop] at g7
              refine cat_tp (g6.same s7) g7 (by rw [List.length_map, List.length_map, List.length_take, List.length_drop]; exact Nat.le_of_lt (small (by omega))) fun r8 H8 s8 g8 => ?_
              rw [← List.map_append] at g8
              exact hq r8 H8 ((s6.trans s7).trans s8) g8
            intro H5 us s5 d5 W5
            refine ⟨D, _, rfl, .inl ⟨SqL.of d5, fun T2 nT2 => ?_⟩⟩
            have s6 : Same H5 (upd H5 T2 (.tup (us.map V.ref))) := same_new nT2
            have g6 : Tp (upd H5 T2 (.tup (us.map V.ref))) T2 (us.map V.ref) := upd_same
            generalize upd H5 T2 (.tup (us.map V.ref)) = H6 at s6 g6 ⊢
            have s36 := s34.trans (s5.trans s6)
            have W6 := W5.same s6
            have TR : TabR H6 T2 (B.tail.map fun b => b.take j ++ b.drop (j + 1)) (B.tail.map fun b => b.take j ++ b.drop (j + 1)).length := by
              refine ⟨us, g6, W6.1, fun i q r e1 e2 => ?_⟩
              have hT := W6.2 i q r e1 e2
              obtain ⟨b, hb, rfl⟩ := map_get e2
              rw [List.getElem?_tail] at hb
              obtain ⟨w1, w2⟩ := wid b (List.mem_of_getElem? hb)
              refine ⟨⟨hT, ?_, fun x hx => ?_⟩, ?_⟩
              · rw [List.length_append, List.length_take, List.length_drop]
                omega
              · rcases List.mem_append.mp hx with h | h
                · exact w2 x (List.mem_of_mem_take h)
                · exact w2 x (List.mem_of_mem_drop h)
              · rw [lR, List.length_append, List.length_take, List.length_drop]
                omega
            have em2 : det (B.tail.map fun b => b.take j ++ b.drop (j + 1)).length (mL (B.tail.map fun b => b.take j ++ b.drop (j + 1))) = det n (mn 0 j (mL B)) := by
              rw [lR]
              exact det_congr n fun r c _ _ => mL_mn r c
            generalize (B.tail.map fun b => b.take j ++ b.drop (j + 1)) = R at TR em2 lR
            have z1 : SmZ 301 (mL B 0 j) := Nat.lt_of_le_of_lt (hA 0 j) (Nat.pow_lt_pow_right (by decide) (by decide))
            have zs : SmZ 2 (Vd.sg j) := by
              unfold SmZ
              rw [sg_abs]
              decide
            have zd : SmZ 2000 (det n (mn 0 j (mL B))) := by
              have h := det_abs (k := 300) n (mn 0 j (mL B)) (by omega) fun r c => hA _ _
              refine Nat.lt_of_le_of_lt h (Nat.pow_lt_pow_right (by decide) ?_)
              have : n * (300 + 4) ≤ 5 * 304 := Nat.mul_le_mul (by omega) (by omega)
              omega
            refine ⟨.int (S j fj), rfl, .int (Vd.sg j), rfl, .ref a, rfl, a, _, 0, .ref p0, rfl, rfl, (ha.same s36).t, atI_nat (j := 0) (get_map hp0), .int (0 + j), rfl, p0, _, 0 + j, .int (mL B 0 j), rfl, rfl, (R0.same s36).1.t, atI_at ej (get_map gj), _, _, rfl, rfl, mulB (by decide) (by decide) zs z1 (by decide), .ref T2, rfl, T2, R, rfl, TR, by omega, fun H7 s7 => ?_⟩
            rw [em2]
            refine ⟨_, _, rfl, rfl, mulB (by decide) (by decide) (smz_mul zs z1) zd (by decide), _, _, rfl, rfl, rest _ _ ⟨⟨some (.ref T2), y5, ?_⟩, s36.trans s7⟩⟩
            have e : S (j + 1) fj = S j fj + Vd.sg j * mL B 0 j * det n (mn 0 j (mL B)) := by
              show S j fj + fj j = _
              rw [hfj]
            rw [e]
            rfl
          · have z : mL B 0 j = 0 := by
              by_cases z : mL B 0 j = 0
              · exact z
              · refine absurd ?_ h
                rw [decide_eq_false (fun e => z (V.int.inj e))]
                rfl
            refine rest _ _ ⟨⟨y4, y5, ?_⟩, s3⟩
            have e : S (j + 1) fj = S j fj := by
              show S j fj + fj j = S j fj
              rw [hfj]
              show _ + Vd.sg j * mL B 0 j * det n (mn 0 j (mL B)) = _
              rw [z, Int.mul_zero, Int.zero_mul, Int.add_zero]
            rw [e]
            rfl
      · rintro σ H3 ⟨⟨y1, y4, y5, rfl⟩, s3⟩
        refine ⟨.int (S B.length fj), rfl, ?_⟩
        rw [← eD]
        exact q H3 s3
end
end K10
namespace K10
open PySem PySem.Spec PyProof.Rows L2 Vk Vd
abbrev s_ltimes : Stmt := topS 28
theorem sc_ltimes : FnScope ["one", "other", "size", "found", "row", "j", "i"] ["one", "other"] (defScope s_ltimes) := ⟨rfl, rfl, rfl, by decide +kernel, rfl, by decide +kernel, by decide +kernel⟩
theorem dot_comm (xs ys : List Int) : dot xs ys = dot ys xs := by
  unfold dot
  rw [List.zipWith_comm]
  congr 1
  congr 1
  funext a b
  exact Int.mul_comm b a
theorem colsI_at {B : List (List Int)} {n j : Nat} (h : j < n) : (colsI B n)[j]? = some (B.map fun r => r.getD j 0) := by
  unfold colsI
  rw [List.getElem?_map, List.getElem?_range h]
  rfl
def spLtimes : Sp := fun vs H Q _ => ∃ (c a : Addr) (X B : List (List Int)), vs = [.ref c, .ref a] ∧ TabR H c X B.length ∧ TabR H a B B.length ∧ X.length = B.length ∧ B.length ≤ 9 ∧ (∀ r ∈ X, ∀ x ∈ r, SmZ 110 x) ∧ (∀ r ∈ B, ∀ x ∈ r, SmZ 110 x) ∧ ∀ r H', Same H H' → TabR H' r (mulI X B) B.length → Q (.ref r) H'
theorem mulI_sm {X B : List (List Int)} (hX : ∀ r ∈ X, r.length = B.length ∧ ∀ x ∈ r, SmZ 110 x) (hB : ∀ r ∈ B, ∀ x ∈ r, SmZ 110 x) (h9 : B.length ≤ 9) (hw : ∀ r ∈ B, r.length = B.length) : ∀ r ∈ mulI X B, r.length = B.length ∧ ∀ x ∈ r, SmZ 300 x := fun r hr => by
  unfold mulI at hr
  obtain ⟨x, hx, rfl⟩ := List.mem_map.mp hr
  refine ⟨by rw [List.length_map, colsI_len], fun z hz => ?_⟩
  obtain ⟨c, hc, rfl⟩ := List.mem_map.mp hz
  obtain ⟨j, hj⟩ := List.getElem?_of_mem hc
  have jl := (List.getElem?_eq_some_iff.mp hj).1
  rw [colsI_len] at jl
  obtain rfl := colsI_get hj
  refine smz_mono (dot_sm (k := 110) (j := 110) (fun y hy => ?_) (hX x hx).2) ?_
  · obtain ⟨b, hb, rfl⟩ := List.mem_map.mp hy
    exact hB b hb _ (List.mem_of_getElem? (Vk.getD_at (by rw [hw b hb]; exact jl)))
  · rw [List.length_map]
    omega
section
variable {P : Program} {w : World} {K : PySem.W.Frag} {mg : Str → Option Value} {base : Heap}
theorem ok_ltimes {f : Addr} {fd : FuncData} (F : Fun K "_law_times" "_law_times" s_ltimes f fd) (m_tuple : mg "tuple" = none) (m_range : mg "range" = none) (m_len : mg "len" = none) (m_sum : mg "sum" = none) : FnOk P w K mg base CX0 1 f fd ["one", "other"] spLtimes := by
  have sc := sc_ltimes
  refine F.ok sc (fun vs H Q E h => ?_) (fun cdv A outer s H vs Q E hr h => ?_)
  · obtain ⟨c, a, X, B, rfl, _⟩ := h
    rfl
  · obtain ⟨c, a, X, B, rfl, hX, hB, lX, h9, zX, zB, q⟩ := h
    refine ⟨_, (pss_cons (ps_set (i := 2) sc.nd rfl (Or.inr rfl) (pe_callB call_len_seq (by rfl) m_len (by decide +kernel) (pa_cons (pv 0) pa_nil)))
    (pss_cons (ps_set (i := 3) sc.nd rfl (Or.inl rfl) (pe_lst pa_nil))
    (pss_cons (ps_for PassesOwn.never rfl (pi_tup (pv 0)) (pg_name (i := 4) sc.nd rfl (Or.inr rfl))
      (pss_one (ps_expr (pe_bm PySem.F.plainAttrs_list PySem.F.slot_list_append PySem.F.type_list_append mt_append (pv 3) (pa_cons (pe_callTy call_tuple_of (by rfl) m_tuple (by decide +kernel) (pa_cons (pe_lc (own := [("j", 5)]) (g := gName 5) (by rfl) sc.nd (pi_range1 rfl m_range (pa_cons (pv 2) pa_nil)) (blkOk_by (own := [("j", 5)]) (N := ["one", "other", "size", "found", "row", "j", "i"]) (sc := defScope s_ltimes) (by decide +kernel)) (fun _ _ _ _ _ => pg_name (i := 5) sc.nd rfl (Or.inr rfl)) (fun _ _ _ _ _ => pts_nil) (fun _ _ _ _ _ => (pe_callB (cr_sumK (K := K) rfl rfl) (by rfl) m_sum (by decide +kernel) (pa_cons (pe_lc (own := [("i", 6)]) (g := gName 6) (by rfl) sc.nd (pi_range1 rfl m_range (pa_cons (pv 2) pa_nil)) (blkOk_by (own := [("i", 6)]) (N := ["one", "other", "size", "found", "row", "j", "i"]) (sc := { kind := .function, names := [(".0", .local), ("j", .cell), ("sum", .globalImplicit), ("range", .globalImplicit), ("other", .cell), ("row", .cell), ("size", .cell)], isGenerator := false, isCoroutine := false }) (by decide +kernel)) (fun _ _ _ _ _ => pg_name (i := 6) sc.nd rfl (Or.inl rfl)) (fun _ _ _ _ _ => pts_nil) (fun _ _ _ _ _ => (pe_op op_mulW (pe_ix (ix_tupK (K := K) rfl) (pv 4) (pv 6) (fun _ _ => rfl)) (pe_ix (ix_tupK (K := K) rfl) (pe_ix (ix_tupK (K := K) rfl) (pv 1) (pv 6) (fun _ _ => rfl)) (pv 5) (fun _ _ => rfl))))) pa_nil)))) pa_nil)) pa_nil)))))
    (pss_one (ps_ret (pe_callTy call_tuple_of (by rfl) m_tuple (by decide +kernel) (pa_cons (pv 3) pa_nil))))))), ?_⟩
    have wX := hX.w
    have wB := hB.w
    obtain ⟨xs, hX, RX⟩ := hX
    obtain ⟨ps, hB, RB⟩ := hB
    have lxs : (xs.map V.ref).length = B.length := by rw [List.length_map, RX.1, lX]
    refine ⟨.ref c, rfl, c, _, rfl, .inr hX.t, ?_⟩
    rw [lxs]
    refine ⟨by show 0 ≤ sizeLine; decide, fun R nR => ?_⟩
    have s1 : Same H (upd H R (.lst [])) := same_new nR
    have g1 : upd H R (.lst []) R = some (.lst (([] : List Addr).map V.ref)) := upd_same
    generalize upd H R (.lst []) = H1 at s1 g1 ⊢
    have msm := mulI_sm (X := X) (B := B) (fun r hr => ⟨(wX r hr).1, zX r hr⟩) zB h9 fun r hr => (wB r hr).1
    have lM : (mulI X B).length = B.length := by
      unfold mulI
      rw [List.length_map, lX]
    refine ⟨.ref c, rfl, c, rfl, ⟨_, (hX.same s1).t⟩, ?_⟩
    refine for_it (walk_tup (K := K) (a := c) (xs := xs.map V.ref)) (fun j σ H' => ∃ qs, (∃ y4 y5 y6, σ = [some (.ref c), some (.ref a), some (.int B.length), some (.ref R), y4, y5, y6]) ∧ Same H H' ∧ H' R = some (.lst ((qs : List Addr).map V.ref)) ∧ Rw H' qs ((mulI X B).take j)) ⟨[], ⟨none, none, none, rfl⟩, s1, g1, rfl, fun i p r e1 e2 => by cases e1⟩ (fun j σ H' _ p => by obtain ⟨_, _, s, _⟩ := p; exact (hX.same s).t) ?_ ?_
    · rintro j x σ H2 H2' hj ⟨qs, ⟨y4, y5, y6, rfl⟩, s2, g2, W2⟩ ⟨rfl, hx⟩
      obtain ⟨p, hp, rfl⟩ := map_get hx
      rw [lxs] at hj
      have hr0 : X[j]? = some (X[j]'(by omega)) := List.getElem?_eq_getElem _
      generalize X[j]'(by omega) = xr at hr0
      obtain ⟨Rp, lr⟩ := RX.2 j p xr hp hr0
      have hm : (mulI X B)[j]? = some ((colsI B B.length).map fun b => dot b xr) := by
        unfold mulI
        rw [List.getElem?_map, hr0]
        rfl
      refine ⟨.ref R, rfl, .inl ⟨rfl, _, SqL.of g2⟩, .int B.length, rfl, (B.length : Int), rfl, by omega, by omega, fun D nD => ?_⟩
      rw [Int.toNat_natCast]
      refine lc_to (walk_range (lo := 0) (n := B.length)) (((colsI B B.length).map fun b => dot b xr).map V.int) (by rw [List.length_map, List.length_map, colsI_len]) (small (by omega)) nD (fun H' s => True.intro) ?_ ?_
      · rintro i x z H3 H3' Qy hz hi s3 ⟨rfl, rfl⟩ hq
        obtain ⟨v, hv, rfl⟩ := map_get hz
        obtain ⟨b, hb, rfl⟩ := map_get hv
        obtain rfl := colsI_get hb
        have ei : (0 + (i : Int)) = ((i : Nat) : Int) := by omega
        refine ⟨rfl, .int B.length, rfl, (B.length : Int), rfl, by omega, by omega, fun D2 nD2 => ?_⟩
        rw [Int.toNat_natCast]
        refine lc_to (walk_range (lo := 0) (n := B.length)) ((List.zipWith (· * ·) xr (B.map fun r => r.getD i 0)).map V.int) (by rw [List.length_map, List.length_zipWith, List.length_map]; omega) (small (by omega)) nD2 (fun H' s => True.intro) ?_ ?_
        · rintro k x u H4 H4' Qy hu hk s4 ⟨rfl, rfl⟩ hq
          obtain ⟨v, hv, rfl⟩ := map_get hu
          obtain ⟨a1, b1, ha1, hb1, rfl⟩ := zipW_get hv
          obtain ⟨br, hbr, rfl⟩ := map_get hb1
          have ek : (0 + (k : Int)) = ((k : Nat) : Int) := by omega
          have hpk : ps[k]? = some (ps[k]'(by rw [RB.1]; exact hk)) := List.getElem?_eq_getElem _
          obtain ⟨Rk, lk⟩ := RB.2 k _ br hpk hbr
          have s04 := (s2.trans s3).trans s4
          have gb := Vk.getD_at (xs := br) (i := i) (by omega)
          exact ⟨rfl, .ref p, rfl, .int (0 + k), rfl, p, _, 0 + k, .int a1, rfl, rfl, (Rp.same s04).1.t, atI_at ek (get_map ha1), .ref a, rfl, .int (0 + k), rfl, a, _, 0 + k, .ref (ps[k]'(by rw [RB.1]; exact hk)), rfl, rfl, (hB.same s04).t, atI_at ek (get_map hpk), .int (0 + i), rfl, _, _, 0 + i, .int (br.getD i 0), rfl, rfl, (Rk.same s04).1.t, atI_at ei (get_map gb), a1, br.getD i 0, rfl, rfl, mulB (by decide) (by decide) (Rp.2.2 _ (List.mem_of_getElem? ha1)) (Rk.2.2 _ (List.mem_of_getElem? gb)) (by decide), hq _ (Same.refl _)⟩
        · intro H4 s4 d4
          refine ⟨D2, List.zipWith (· * ·) xr (B.map fun r => r.getD i 0), rfl, SqL.of d4, ?_⟩
          have e : (List.zipWith (· * ·) xr (B.map fun r => r.getD i 0)).sum = dot (B.map fun r => r.getD i 0) xr := dot_comm xr _
          rw [e]
          exact hq H4 s4
      intro H3 s3 d3
      refine ⟨D, _, rfl, .inl ⟨SqL.of d3, fun T nT => ?_⟩⟩
      have s4 : Same H3 (upd H3 T (.tup (((colsI B B.length).map fun b => dot b xr).map V.int))) := same_new nT
      have g4 : Tp (upd H3 T (.tup (((colsI B B.length).map fun b => dot b xr).map V.int))) T (((colsI B B.length).map fun b => dot b xr).map V.int) := upd_same
      generalize upd H3 T (.tup (((colsI B B.length).map fun b => dot b xr).map V.int)) = H4 at s4 g4 ⊢
      have s34 := s3.trans s4
      have gR := s34 _ _ g2
      have lq : qs.length = j := by
        rw [W2.1, List.length_take, lM]
        omega
      refine ⟨R, _, _, rfl, rfl, gR, by rw [List.length_map, lq]; exact small (by omega), qs ++ [T], ⟨_, _, _, rfl⟩, same_put (s2.trans s34) nR, by rw [upd_same, List.map_append]; rfl, ?_⟩
      rw [List.take_add_one, hm]
      exact ((W2.same s34).snoc g4).put gR
    · rintro σ H2 ⟨qs, ⟨y4, y5, y6, rfl⟩, s2, g2, W2⟩
      rw [lxs, ← lM, List.take_length] at W2
      refine ⟨.ref R, rfl, R, _, rfl, .inl ⟨SqL.of g2, fun T nT => ?_⟩⟩
      have s3 := same_new (o := .tup (qs.map V.ref)) nT
      refine q T _ (s2.trans s3) ⟨qs, upd_same, W2.1, fun i p r e1 e2 => ?_⟩
      obtain ⟨w1, w2⟩ := msm r (List.mem_of_getElem? e2)
      exact ⟨⟨(W2.2 i p r e1 e2).same s3, by omega, w2⟩, w1⟩
end
end K10
namespace Vd
theorem sg_add (i j : Nat) : sg (i + j) = sg i * sg j := by
  unfold sg
  split <;> split <;> split <;> omega
theorem mvd_id (i r : Nat) : mvd (fun x => x) 0 i (r + 1) = sk i r := by
  unfold mvd sk
  rw [if_neg (by omega), if_neg (by omega)]
  by_cases h : r < i
  · rw [if_pos (by omega), if_pos h]
    rfl
  · rw [if_neg (by omega), if_neg h]
/-- along row i -/
theorem exp_row {n : Nat} (A : Mt) {i : Nat} (hi : i < n + 1) : det (n + 1) A = S (n + 1) fun j => sg (i + j) * A i j * det n (mn i j A) := by
  have e := det_mvd (n := n + 1) A 0 i (fun x => x) (by omega)
  have l : det (n + 1) (fun r c => A (mvd (fun x => x) 0 i r) c) = S (n + 1) fun j => sg j * A i j * det n (mn i j A) := by
    refine S_congr _ fun j hj => ?_
    show sg j * A (mvd (fun x => x) 0 i 0) j * det n (mn 0 j fun r c => A (mvd (fun x => x) 0 i r) c) = _
    have e0 : mvd (fun x => x) 0 i 0 = i := by
      unfold mvd
      rw [if_neg (by omega), if_pos rfl, Nat.zero_add]
    have e1 : (mn 0 j fun r c => A (mvd (fun x => x) 0 i r) c) = mn i j A := by
      funext r c
      show A (mvd (fun x => x) 0 i (sk 0 r)) (sk j c) = A (sk i r) (sk j c)
      rw [sk_zero, mvd_id]
    rw [e0, e1]
  rw [l] at e
  have q := sg_sq i
  have m : sg i * (S (n + 1) fun j => sg j * A i j * det n (mn i j A)) = det (n + 1) A := by
    rw [e, ← Int.mul_assoc, q, Int.one_mul]
  rw [← m, ← S_mul]
  exact S_congr _ fun j _ => by rw [sg_add]; grind
theorem mn_upr (A : Mt) (k j : Nat) (v : Nat → Int) : mn k j (up A k v) = mn k j A := by
  funext r c
  show up A k v (sk k r) (sk j c) = A (sk k r) (sk j c)
  rw [up_ne (sk_ne k r)]
/-- along another row -/
theorem exp_off {n : Nat} (A : Mt) {i k : Nat} (hi : i < n + 1) (hk : k < n + 1) (ne : i ≠ k) : (S (n + 1) fun j => sg (k + j) * A i j * det n (mn k j A)) = 0 := by
  have z := (alt_det (n + 1)).eq_rows (up A k (A i)) hi hk ne fun c _ => by rw [up_at, up_ne ne]
  rw [exp_row _ hk] at z
  rw [← z]
  exact S_congr _ fun j _ => by rw [up_at, mn_upr]
/-- the cofactor of place i, j -/
def cof (n : Nat) (A : Mt) (i j : Nat) : Int := sg (i + j) * det n (mn i j A)
theorem cof_row {n : Nat} (A : Mt) {i k : Nat} (hi : i < n + 1) (hk : k < n + 1) : (S (n + 1) fun j => A i j * cof n A k j) = if i = k then det (n + 1) A else 0 := by
  by_cases e : i = k
  · rw [if_pos e, exp_row A hi, ← e]
    exact S_congr _ fun j _ => by unfold cof; grind
  · rw [if_neg e, ← exp_off A hi hk e]
    exact S_congr _ fun j _ => by unfold cof; grind
theorem cof_tr (n : Nat) (A : Mt) (i j : Nat) : cof n (fun r c => A c r) i j = cof n A j i := by
  unfold cof
  rw [Nat.add_comm i j]
  congr 1
  exact det_tr n (mn j i A)
theorem cof_col {n : Nat} (A : Mt) {i k : Nat} (hi : i < n + 1) (hk : k < n + 1) : (S (n + 1) fun j => cof n A j i * A j k) = if i = k then det (n + 1) A else 0 := by
  have e := cof_row (fun r c => A c r) hk hi
  rw [det_tr] at e
  rw [show (if i = k then det (n + 1) A else 0) = if k = i then det (n + 1) A else 0 by
    by_cases h : i = k
    · rw [if_pos h, if_pos h.symm]
    · rw [if_neg h, if_neg (Ne.symm h)], ← e]
  exact S_congr _ fun j _ => by rw [cof_tr]; grind
end Vd
namespace K10
open PySem PySem.Spec PyProof.Rows L2 Vk Vd
abbrev s_cofactor : Stmt := topS 13
theorem sc_cofactor : FnScope ["table", "i", "j", "rest", "part", "row"] ["table", "i", "j"] (defScope s_cofactor) := ⟨rfl, rfl, rfl, by decide +kernel, rfl, by decide +kernel, by decide +kernel⟩
abbrev s_adjoint : Stmt := topS 14
theorem sc_adjoint : FnScope ["table", "m", "i", "j"] ["table"] (defScope s_adjoint) := ⟨rfl, rfl, rfl, by decide +kernel, rfl, by decide +kernel, by decide +kernel⟩
def spSweptL : Sp := fun vs H Q _ => ∃ (a : Addr) (ps : List Addr) (B : List (List Int)), vs = [.ref a] ∧ H a = some (.lst (ps.map V.ref)) ∧ Rws H ps B B.length ∧ B.length ≤ 9 ∧
  ∀ r t v H', Same H H' → Tp H' r [.int ((t : Nat) : Int), .int v] → det B.length (mL B) = (if t = B.length then v else 0) → Q (.ref r) H'
def spDetL : Sp := fun vs H Q _ => ∃ (a : Addr) (ps : List Addr) (B : List (List Int)), vs = [.ref a] ∧ H a = some (.lst (ps.map V.ref)) ∧ Rws H ps B B.length ∧ B.length ≤ 9 ∧ ∀ H', Same H H' → Q (.int (det B.length (mL B))) H'
/-- without row i and column j -/
def less (B : List (List Int)) (i j : Nat) : List (List Int) := (B.take i ++ B.drop (i + 1)).map fun b => b.take j ++ b.drop (j + 1)
theorem less_mn {B : List (List Int)} {i j : Nat} : ∀ r c, mL (less B i j) r c = mn i j (mL B) r c := fun r c => by
  show _ = mL B (sk i r) (sk j c)
  unfold less mL
  rw [← List.eraseIdx_eq_take_drop_succ]
  have sel : ∀ {α : Type} (l : List α) (k x : Nat), (l.eraseIdx k)[x]? = l[sk k x]? := fun l k x => by
    unfold sk
    split
    · next h => rw [List.getElem?_eraseIdx_of_lt h]
    · next h => rw [List.getElem?_eraseIdx_of_ge (by omega)]
  have e1 : ((B.eraseIdx i).map fun b => b.take j ++ b.drop (j + 1)).getD r [] = (B.getD (sk i r) []).eraseIdx j := by
    rw [List.getD_eq_getElem?_getD, List.getElem?_map, sel, List.getD_eq_getElem?_getD]
    cases h : B[sk i r]? with
    | none => simp
    | some b =>
      show b.take j ++ b.drop (j + 1) = b.eraseIdx j
      rw [List.eraseIdx_eq_take_drop_succ]
  rw [e1, List.getD_eq_getElem?_getD, sel, ← List.getD_eq_getElem?_getD]
theorem less_len {B : List (List Int)} {i j : Nat} (hi : i < B.length) : (less B i j).length = B.length - 1 := by
  unfold less
  rw [List.length_map, List.length_append, List.length_take, List.length_drop]
  omega
theorem less_row {B : List (List Int)} {i j n : Nat} (hj : j < n) (h : ∀ r ∈ B, r.length = n ∧ ∀ x ∈ r, SmZ 300 x) : ∀ r ∈ less B i j, r.length = n - 1 ∧ ∀ x ∈ r, SmZ 300 x := fun r hr => by
  unfold less at hr
  obtain ⟨b, hb, rfl⟩ := List.mem_map.mp hr
  have hb : b ∈ B := by
    rcases List.mem_append.mp hb with m | m
    · exact List.mem_of_mem_take m
    · exact List.mem_of_mem_drop m
  obtain ⟨l, z⟩ := h b hb
  refine ⟨by rw [List.length_append, List.length_take, List.length_drop]; omega, fun x hx => ?_⟩
  rcases List.mem_append.mp hx with m | m
  · exact z x (List.mem_of_mem_take m)
  · exact z x (List.mem_of_mem_drop m)
theorem less_det {B : List (List Int)} {i j : Nat} (hi : i < B.length) : det (less B i j).length (mL (less B i j)) = det (B.length - 1) (mn i j (mL B)) := by
  rw [less_len hi]
  exact det_congr _ fun r c _ _ => less_mn r c
def spCof : Sp := fun vs H Q _ => ∃ (a : Addr) (B : List (List Int)) (i j : Nat), vs = [.ref a, .int i, .int j] ∧ TabR H a B B.length ∧ B.length ≤ 9 ∧ i < B.length ∧ j < B.length ∧ ∀ H', Same H H' → Q (.int (cof (B.length - 1) (mL B) i j)) H'
def adjI (B : List (List Int)) : List (List Int) := (List.range B.length).map fun i => (List.range B.length).map fun j => cof (B.length - 1) (mL B) j i
def spAdj : Sp := fun vs H Q _ => ∃ (a : Addr) (B : List (List Int)), vs = [.ref a] ∧ TabR H a B B.length ∧ B.length ≤ 9 ∧ ∀ r ps H', Same H H' → Tp H' r (ps.map V.ref) → Rw H' ps (adjI B) → Q (.ref r) H'
section
variable {P : Program} {w : World} {K : PySem.W.Frag} {mg : Str → Option Value} {base : Heap}
theorem ok_sweptL {f : Addr} {fd : FuncData} (F : Fun K "swept" "swept" s_swept f fd) (C__cleared : Cal P w K mg base 1 "_cleared" ["row", "lead", "column", "last"] spCleared) (m_list : mg "list" = none) (m_len : mg "len" = none) (m_range : mg "range" = none) (m_enumerate : mg "enumerate" = none) : FnOk P w K mg base CX0 2 f fd ["rows"] spSweptL := by
  have sc := sc_swept
  refine F.ok sc (fun vs H Q E h => ?_) (fun cdv A outer s H vs Q E hr h => ?_)
  · obtain ⟨a, ps, B, rfl, _⟩ := h
    rfl
  · obtain ⟨a, ps, B, rfl, ha, hR, h9, q⟩ := h
    refine ⟨_, (pss_cons (ps_setLc (i := 1) (own := [("row", 8)]) (g := gName 8) (by rfl) sc.nd rfl rfl (sw_true rfl rfl rfl (by decide +kernel)) (pi_list (pv 0)) (blkOk_by (own := [("row", 8)]) (N := ["rows", "open_rows", "width", "column", "rank_so_far", "last", "sign", "places", "row", "lead", "i"]) (sc := defScope s_swept) (by decide +kernel)) (fun _ _ _ _ _ => pg_name (i := 8) sc.nd rfl (Or.inl rfl)) (fun _ _ _ _ _ => pts_nil) (fun _ _ _ _ _ => (pe_callTy (call_list_ofK (K := K) rfl) (by rfl) m_list (by decide +kernel) (pa_cons (pv 8) pa_nil))))
    (pss_cons (ps_set (i := 2) sc.nd rfl (Or.inl rfl) (pe_ifExp (pt_truth (pv 0) (by intro _; rfl)) (pe_callB call_len_seq (by rfl) m_len (by decide +kernel) (pa_cons (pe_ix ix_list (pv 0) pe_int (fun _ _ => rfl)) pa_nil)) pe_int))
    (pss_cons (ps_asg (pe_tup (pa_cons pe_int (pa_cons pe_int (pa_cons pe_int pa_nil)))) (pg_tup (n := 3) (by rfl) (pgs_cons (pg_name (i := 4) sc.nd rfl (Or.inl rfl)) (pgs_cons (pg_name (i := 5) sc.nd rfl (Or.inr rfl)) (pgs_cons (pg_name (i := 6) sc.nd rfl (Or.inl rfl)) pgs_nil)))))
    (pss_cons (ps_for PassesOwn.never rfl (pi_range1 rfl m_range (pa_cons (pv 2) pa_nil)) (pg_name (i := 3) sc.nd rfl (Or.inr rfl))
      (pss_cons (ps_setLc (i := 7) (own := [("i", 10), ("row", 8)]) (g := gTup K 2 (gCons (gName 10) (gCons (gName 8) gNil))) (by rfl) sc.nd rfl rfl (sw_true rfl rfl rfl (by decide +kernel)) (pi_enumK (by rfl) m_enumerate (pa_cons (pv 1) pa_nil)) (blkOk_by (own := [("i", 10), ("row", 8)]) (N := ["rows", "open_rows", "width", "column", "rank_so_far", "last", "sign", "places", "row", "lead", "i"]) (sc := defScope s_swept) (by decide +kernel)) (fun _ _ _ _ _ => pg_tup (n := 2) (by rfl) (pgs_cons (pg_name (i := 10) sc.nd rfl (Or.inl rfl)) (pgs_cons (pg_name (i := 8) sc.nd rfl (Or.inl rfl)) pgs_nil))) (fun _ _ _ _ _ => (pts_one (pt_cmpR op_ne (pe_ix (ix_listK (K := K) rfl) (pv 8) (pv 3) (fun _ _ => rfl)) pe_int (nomark _)))) (fun _ _ _ _ _ => (pv 10)))
    (pss_one (ps_if (pt_truth (pv 7) (by intro _; rfl))
      (pss_cons (ps_set (i := 9) sc.nd rfl (Or.inr rfl) (pe_bm PySem.F.plainAttrs_list PySem.F.slot_list_pop PySem.F.type_list_pop mt_popAt (pv 1) (pa_cons (pe_ix ix_list (pv 7) pe_int (fun _ _ => rfl)) pa_nil)))
    (pss_cons (ps_if (pt_cmpR op_eq (pe_op op_modN (pe_ix ix_list (pv 7) pe_int (fun _ _ => rfl)) pe_int) pe_int (nomark _))
      (pss_one (ps_set (i := 6) sc.nd rfl (Or.inl rfl) (pe_un un_neg (pv 6))))
      pss_nil)
    (pss_cons (ps_setLc (i := 1) (own := [("row", 8)]) (g := gName 8) (by rfl) sc.nd rfl rfl (sw_true rfl rfl rfl (by decide +kernel)) (pi_list (pv 1)) (blkOk_by (own := [("row", 8)]) (N := ["rows", "open_rows", "width", "column", "rank_so_far", "last", "sign", "places", "row", "lead", "i"]) (sc := defScope s_swept) (by decide +kernel)) (fun _ _ _ _ _ => pg_name (i := 8) sc.nd rfl (Or.inl rfl)) (fun _ _ _ _ _ => pts_nil) (fun _ _ _ _ _ => (call_ C__cleared (hr.mono (by decide)) (by rfl) (pa_cons (pv 8) (pa_cons (pv 9) (pa_cons (pv 3) (pa_cons (pv 5) pa_nil)))))))
    (pss_cons (ps_set (i := 5) sc.nd rfl (Or.inr rfl) (pe_ix ix_list (pv 9) (pv 3) (fun _ _ => rfl)))
    (pss_one (ps_aug (i := 4) sc.nd rfl (Or.inl rfl) pe_int ip_add))))))
      pss_nil))))
    (pss_one (ps_ret (pe_tup (pa_cons (pv 4) (pa_cons (pe_op op_mulW (pv 6) (pv 5)) pa_nil))))))))), ?_⟩
    have lp : (ps.map V.ref).length = B.length := by rw [List.length_map, hR.1]
    have rowOf : ∀ i, i < B.length → ∃ p, ps[i]? = some p ∧ Row H p (B.getD i []) ∧ (B.getD i []).length = B.length := fun i hi => by
      have hp : ps[i]? = some (ps[i]'(by rw [hR.1]; exact hi)) := List.getElem?_eq_getElem _
      have hb : B[i]? = some (B.getD i []) := by
        rw [List.getD_eq_getElem?_getD, List.getElem?_eq_getElem hi]
        rfl
      obtain ⟨r1, r2⟩ := hR.2 i _ _ hp hb
      exact ⟨_, hp, r1, r2⟩
    have hA : ∀ r c, (mL B r c).natAbs ≤ 2 ^ 300 := mL_sm fun r hr => by
      obtain ⟨i, hi⟩ := List.getElem?_of_mem hr
      have il : i < ps.length := by
        rw [hR.1]
        exact (List.getElem?_eq_some_iff.mp hi).1
      exact (hR.2 i ps[i] r (List.getElem?_eq_getElem il) hi).1.2.2
    refine ⟨.ref a, rfl, a, rfl, ⟨_, SqL.of ha⟩, fun D nD => ?_⟩
    refine lc_objs (walk_list (K := K) (a := a) (xs := ps.map V.ref)) (fun i => .lst ((B.getD i []).map V.int)) (by rw [lp]; exact small (by omega)) nD (fun H' s => SqL.of (s _ _ ha)) ?_ ?_
    · rintro i x H1 H1' Qy hi s1 ⟨rfl, hx⟩ hq
      obtain ⟨p, hp, rfl⟩ := map_get hx
      rw [lp] at hi
      obtain ⟨p', hp', Rp, lr⟩ := rowOf i hi
      obtain rfl := Option.some.inj (hp.symm.trans hp')
      exact ⟨rfl, .ref p, rfl, p, _, rfl, .inr (Rp.1.same s1).t, fun l nl => hq l _ (same_new nl) nl upd_same⟩
    intro H1 qs s1 d1 lq nd fr ob
    have E0 : LL H1 D qs ((List.range B.length).map (rowE (mL B) (fun _ => 0) (fun _ => 0) 0 B.length)) := by
      refine ⟨d1, by rw [List.length_map, List.length_range, lq, lp], fun i p r e1 e2 => ⟨?_, ?_⟩⟩
      · rintro rfl
        have g1 := ob i p e1
        rw [d1] at g1
        exact absurd (HO.lst.inj (Option.some.inj g1)) (refs_ne (by have := (List.getElem?_eq_some_iff.mp e1).1; omega))
      · have hi : i < B.length := by
          have := (List.getElem?_eq_some_iff.mp e1).1
          omega
        rw [List.getElem?_map, List.getElem?_range hi] at e2
        obtain rfl := Option.some.inj e2
        obtain ⟨_, _, _, lr⟩ := rowOf i hi
        rw [rowE_zero lr]
        exact ob i p e1
    refine ⟨.ref a, rfl, !(ps.map V.ref).isEmpty, .inl ⟨_, SqL.of (s1 _ _ ha), rfl⟩, ?_⟩
    refine tif_both (fun v => v = .int B.length) (fun v hv => ?_) (fun e hq => ?_) (fun e hq => ?_)
    rotate_left
    · have l0 : 0 < B.length := by
        rw [← lp]
        cases hps : ps.map V.ref with
        | nil =>
          rw [hps] at e
          cases e
        | cons x y => exact Nat.succ_pos _
      obtain ⟨p, hp, Rp, lr⟩ := rowOf 0 l0
      refine ⟨.ref a, rfl, a, _, 0, .ref p, rfl, rfl, SqL.of (s1 _ _ ha), atI_nat (j := 0) (get_map hp), p, _, rfl, .inr (Rp.1.same s1).t, ?_⟩
      rw [List.length_map, lr]
      exact hq _ rfl
    · have l0 : B.length = 0 := by
        rw [← lp]
        cases hps : ps.map V.ref with
        | nil => rfl
        | cons x y =>
          rw [hps] at e
          cases e
      refine hq _ ?_
      rw [l0]
      rfl
    subst hv
    refine ⟨by show 3 ≤ sizeLine; decide, fun T nT => ?_⟩
    have s2 : Same H1 (upd H1 T (.tup [.int 0, .int 1, .int 1])) := same_new nT
    have g2 : Tp (upd H1 T (.tup [.int 0, .int 1, .int 1])) T [.int 0, .int 1, .int 1] := upd_same
    generalize upd H1 T (.tup [.int 0, .int 1, .int 1]) = H2 at s2 g2 ⊢
    refine ⟨T, _, rfl, g2.t, rfl, .int 0, [.int 1, .int 1], rfl, .int 1, [.int 1], rfl, .int 1, [], rfl, rfl, ?_⟩
    refine ⟨.int B.length, rfl, (B.length : Int), rfl, by omega, by omega, ?_⟩
    rw [Int.toNat_natCast]
    have LLs : ∀ {H H' : Hp} {L : Addr} {qs : List Addr} {E : List (List Int)}, LL H L qs E → Same H H' → LL H' L qs E := fun h s => ⟨s _ _ h.1, h.2.1, fun i q r a b => ⟨(h.2.2 i q r a b).1, s _ _ (h.2.2 i q r a b).2⟩⟩
    refine for_range (lo := 0) (n := B.length) (fun j σ H' => ∃ t os P G sgn L qs, (∃ y3 y7 y8 y9 y10, σ = [some (.ref a), some (.ref L), some (.int B.length), y3, some (.int ((t : Nat) : Int)), some (.int (Vd.dl (mL B) P G t)), some (.int sgn), y7, y8, y9, y10]) ∧ Sw B.length (mL B) j t os P G sgn ∧ LL H' L qs (os.map (rowE (mL B) P G t B.length)) ∧ Same H H' ∧ H L = none)
      ⟨0, List.range B.length, fun _ => 0, fun _ => 0, 1, D, qs, ⟨none, none, none, none, none, rfl⟩, Sw.start _ _, LLs E0 s2, s1.trans s2, nD⟩ ?_ ?_
    · rintro j σ H3 hj ⟨t, os, P, G, sgn, L, qs, ⟨y3, y7, y8, y9, y10, rfl⟩, W, hL, s3, nL⟩
      have t9 : t + 1 ≤ 9 := by
        have := W.tj
        omega
      have lqs : qs.length = os.length := by rw [hL.2.1, List.length_map]
      have lE : (qs.map V.ref).length = os.length := by rw [List.length_map, lqs]
      have hl := W.len
      have rowA : ∀ i, i < os.length → ∃ p o, qs[i]? = some p ∧ os[i]? = some o ∧ p ≠ L ∧ H3 p = some (.lst ((rowE (mL B) P G t B.length o).map V.int)) := fun i hi => by
        have h1 : qs[i]? = some (qs[i]'(by omega)) := List.getElem?_eq_getElem _
        have h2 : os[i]? = some os[i] := List.getElem?_eq_getElem hi
        obtain ⟨a1, a2⟩ := hL.2.2 i _ (rowE (mL B) P G t B.length os[i]) h1 (by rw [List.getElem?_map, h2]; rfl)
        exact ⟨_, _, h1, h2, a1, a2⟩
      refine ⟨.ref L, rfl, true, L, qs.map V.ref, rfl, SqL.of hL.1, fun D1 nD1 => ?_⟩
      refine lc_fl (walk_enumK (K := K) (b := true) (a := L) (xs := qs.map V.ref)) (fun i => decide (ent (mL B) P G t (os.getD i 0) j ≠ 0)) (fun i => .int (i : Nat)) (by rw [lE]; exact small (by omega)) nD1 (fun H' s => SqL.of (s _ _ hL.1)) ?_ ?_
      · rintro i x H4 H4' Qy Nx hi s4 ⟨T1, u, w, rfl, nT1, rfl, hu, hw⟩ hk hnk
        obtain rfl := Option.some.inj hu
        obtain ⟨p, hp, rfl⟩ := map_get hw
        rw [lE] at hi
        obtain ⟨p', o, hp', ho, _, hrow⟩ := rowA i hi
        obtain rfl := Option.some.inj (hp.symm.trans hp')
        have eo : os.getD i 0 = o := by
          rw [List.getD_eq_getElem?_getD, ho]
          rfl
        rw [eo] at hk hnk
        have sT : Same H4 (upd H4 T1 (.tup [.int (i : Nat), .ref p])) := same_new nT1
        refine ⟨T1, [.int (i : Nat), .ref p], rfl, SqT.of upd_same, rfl, .int (i : Nat), [.ref p], rfl, .ref p, [], rfl, rfl, rfl, .ref p, rfl, .int (0 + j), rfl, p, _, 0 + j, .int (ent (mL B) P G t o j), rfl, rfl, SqL.of (sT _ _ (s4 _ _ hrow)), atI_at (by omega) (get_map (rowE_get _ _ _ _ _ _ hj)), rfl, _, rfl, ite2 (fun h => ?_) (fun h => ?_)⟩
        · refine ⟨.int (i : Nat), rfl, hk (decide_eq_true (fun z => ?_)) _ sT⟩
          rw [z] at h
          exact absurd h (by decide)
        · refine hnk (decide_eq_false (fun z => h ?_)) _ sT
          rw [decide_eq_false (fun e => z (V.int.inj e))]
          rfl
      intro H4 s4 d4
      have kz : ((List.range (qs.map V.ref).length).filter fun i => decide (ent (mL B) P G t (os.getD i 0) j ≠ 0)) = [] → ∀ i, i ∈ os → ent (mL B) P G t i j = 0 := fun e i hi => by
        obtain ⟨x, hx⟩ := List.getElem?_of_mem hi
        have xl := (List.getElem?_eq_some_iff.mp hx).1
        have eo : os.getD x 0 = i := by
          rw [List.getD_eq_getElem?_getD, hx]
          rfl
        by_cases z : ent (mL B) P G t i j = 0
        · exact z
        · have m : x ∈ ((List.range (qs.map V.ref).length).filter fun i => decide (ent (mL B) P G t (os.getD i 0) j ≠ 0)) := List.mem_filter.mpr ⟨List.mem_range.mpr (by rw [lE]; exact xl), decide_eq_true (by rw [eo]; exact z)⟩
          rw [e] at m
          cases m
      have kk : ∀ k0 l, ((List.range (qs.map V.ref).length).filter fun i => decide (ent (mL B) P G t (os.getD i 0) j ≠ 0)) = k0 :: l → k0 < os.length ∧ ent (mL B) P G t (os.getD k0 0) j ≠ 0 := fun k0 l e => by
        have m : k0 ∈ ((List.range (qs.map V.ref).length).filter fun i => decide (ent (mL B) P G t (os.getD i 0) j ≠ 0)) := by
          rw [e]
          exact List.mem_cons_self
        obtain ⟨m1, m2⟩ := List.mem_filter.mp m
        have m1 := List.mem_range.mp m1
        rw [lE] at m1
        exact ⟨m1, of_decide_eq_true m2⟩
      generalize ((List.range (qs.map V.ref).length).filter fun i => decide (ent (mL B) P G t (os.getD i 0) j ≠ 0)) = ks at d4 kz kk
      have gL4 := s4 _ _ hL.1
      have D1L : D1 ≠ L := Ne.symm (ne_of_none hL.1 nD1)
      refine ⟨.ref D1, rfl, !(ks.map fun i => V.int (i : Nat)).isEmpty, .inl ⟨_, SqL.of d4, rfl⟩, ?_⟩
      cases ks with
      | nil => exact iteF ⟨t, os, P, G, sgn, L, qs, ⟨_, _, _, _, _, rfl⟩, W.skip hj (kz rfl), LLs hL s4, s3.trans s4, nL⟩
      | cons k0 kl =>
        obtain ⟨k0l, nz⟩ := kk k0 kl rfl
        obtain ⟨p, o, hp, ho, pL, hrow⟩ := rowA k0 k0l
        have eo : os.getD k0 0 = o := by
          rw [List.getD_eq_getElem?_getD, ho]
          rfl
        rw [eo] at nz
        have W' := W.take ho nz
        refine iteT ⟨.ref L, rfl, .inl ⟨rfl, _, SqL.of gL4⟩, .ref D1, rfl, D1, _, 0, .int (k0 : Nat), rfl, rfl, SqL.of d4, atI_nat (j := 0) rfl, L, _, (k0 : Int), k0, .ref p, rfl, rfl, gL4, by omega, by omega, ?_, get_map hp, ?_⟩
        · rw [lE]
          have := seqIndex_of (k := (k0 : Int)) (n := os.length) (by omega) (by omega)
          rw [this, Int.toNat_natCast]
        have eE : (qs.map V.ref).eraseIdx k0 = (qs.eraseIdx k0).map V.ref := erase_map _ _ _
        rw [eE]
        have rowB : ∀ i, i < (os.eraseIdx k0).length → ∃ p o, (qs.eraseIdx k0)[i]? = some p ∧ (os.eraseIdx k0)[i]? = some o ∧ p ≠ L ∧ H3 p = some (.lst ((rowE (mL B) P G t B.length o).map V.int)) := fun i hi => by
          rw [List.length_eraseIdx_of_lt k0l] at hi
          rcases Nat.lt_or_ge i k0 with l | l
          · obtain ⟨p, o, a1, a2, a3⟩ := rowA i (by omega)
            exact ⟨p, o, by rw [List.getElem?_eraseIdx_of_lt l]; exact a1, by rw [List.getElem?_eraseIdx_of_lt l]; exact a2, a3⟩
          · obtain ⟨p, o, a1, a2, a3⟩ := rowA (i + 1) (by omega)
            exact ⟨p, o, by rw [List.getElem?_eraseIdx_of_ge l]; exact a1, by rw [List.getElem?_eraseIdx_of_ge l]; exact a2, a3⟩
        have s35 : Same H (upd H4 L (.lst ((qs.eraseIdx k0).map V.ref))) := same_put (s3.trans s4) nL
        have g5 : upd H4 L (.lst ((qs.eraseIdx k0).map V.ref)) L = some (.lst ((qs.eraseIdx k0).map V.ref)) := upd_same
        have d5 : upd H4 L (.lst ((qs.eraseIdx k0).map V.ref)) D1 = some (.lst ((k0 :: kl).map fun i => V.int (i : Nat))) := by
          rw [upd_ne D1L]
          exact d4
        have r5 : ∀ {p : Addr} {x : HO}, p ≠ L → H3 p = some x → upd H4 L (.lst ((qs.eraseIdx k0).map V.ref)) p = some x := fun a b => by
          rw [upd_ne a]
          exact s4 _ _ b
        generalize upd H4 L (.lst ((qs.eraseIdx k0).map V.ref)) = H5 at s35 g5 d5 r5 ⊢
        refine gname_ ?_
        dsimp only
        refine seq_ ?_
        refine tifs_rest (fun σ' H' => ∃ y8 y10, σ' = [some (.ref a), some (.ref L), some (.int B.length), some (.int (0 + j)), some (.int ((t : Nat) : Int)), some (.int (Vd.dl (mL B) P G t)), some (.int (Vd.sg k0 * sgn)), some (.ref D1), y8, some (.ref p), y10] ∧ H' = H5) ?_ ?_
        · rintro σ' H' ⟨y8, y10, rfl, rfl⟩
          refine ⟨.ref L, rfl, L, rfl, ⟨_, SqL.of g5⟩, fun D2 nD2 => ?_⟩
          have le : ((qs.eraseIdx k0).map V.ref).length = (os.eraseIdx k0).length := by
            rw [List.length_map, List.length_eraseIdx_of_lt (by omega), List.length_eraseIdx_of_lt k0l]
            omega
          have lo9 : (os.eraseIdx k0).length ≤ 9 := by
            rw [List.length_eraseIdx_of_lt k0l]
            omega
          refine lc_objs (walk_list (K := K) (a := L) (xs := (qs.eraseIdx k0).map V.ref)) (fun i => .lst ((rowE (mL B) (cns o P) (cns j G) (t + 1) B.length ((os.eraseIdx k0).getD i 0)).map V.int)) (by rw [le]; exact small (by omega)) nD2 (fun H' s => SqL.of (s _ _ g5)) ?_ ?_
          · rintro i x H6 H6' Qy hi s6 ⟨rfl, hx⟩ hq
            obtain ⟨pi, hpi, rfl⟩ := map_get hx
            rw [le] at hi
            obtain ⟨p', o', hp', ho', pL', hrow'⟩ := rowB i hi
            obtain rfl := Option.some.inj (hpi.symm.trans hp')
            have eo' : (os.eraseIdx k0).getD i 0 = o' := by
              rw [List.getD_eq_getElem?_getD, ho']
              rfl
            rw [eo'] at hq
            refine ⟨rfl, .ref pi, rfl, .ref p, rfl, .int (0 + j), rfl, .int (Vd.dl (mL B) P G t), rfl, pi, p, _, _, j, Vd.dl (mL B) P G t, by rw [Int.zero_add], s6 _ _ (r5 pL' hrow'), s6 _ _ (r5 pL hrow), by rw [rowE_len, rowE_len], by rw [rowE_len]; exact hj, by rw [rowE_len]; omega, W.d0, dl_sm hA P G (by omega), fun x hx => ?_, fun x hx => ?_, fun r H7 s7 n7 g7 => ?_⟩
            · obtain ⟨c, _, rfl⟩ := List.mem_map.mp hx
              exact ent_sm hA P G (by omega) _ _
            · obtain ⟨c, _, rfl⟩ := List.mem_map.mp hx
              exact ent_sm hA P G (by omega) _ _
            · rw [clr_row W hj] at g7
              exact hq r H7 s7 n7 g7
          intro H6 us s6 d6 lu ndu fru obu
          have l6 := s6 _ _ (r5 pL hrow)
          refine ⟨.ref p, rfl, .int (0 + j), rfl, p, _, 0 + j, .int (ent (mL B) P G t o j), rfl, rfl, SqL.of l6, atI_at (by omega) (get_map (rowE_get _ _ _ _ _ _ hj)), ?_⟩
          refine ⟨.int ((t : Nat) : Int), rfl, _, _, rfl, rfl, ?_⟩
          have s6' := s35.trans s6
          refine ⟨t + 1, os.eraseIdx k0, cns o P, cns j G, Vd.sg k0 * sgn, D2, us, ⟨_, _, _, _, _, rfl⟩, W', ⟨d6, by rw [List.length_map, lu, le], fun i p' r e1 e2 => ?_⟩, s6', s35.free nD2⟩
          have hi : i < (os.eraseIdx k0).length := by
            have := (List.getElem?_eq_some_iff.mp e1).1
            omega
          have eo' : (os.eraseIdx k0)[i]? = some ((os.eraseIdx k0).getD i 0) := by
            rw [List.getD_eq_getElem?_getD, List.getElem?_eq_getElem hi]
            rfl
          rw [List.getElem?_map, eo'] at e2
          obtain rfl := Option.some.inj e2
          have g1 := obu i p' e1
          refine ⟨?_, g1⟩
          rintro rfl
          rw [d6] at g1
          exact absurd (HO.lst.inj (Option.some.inj g1)) (refs_ne (by omega))
        · intro rest
          refine ⟨.ref D1, rfl, D1, _, 0, .int (k0 : Nat), rfl, rfl, SqL.of d5, atI_nat (j := 0) rfl, _, _, rfl, rfl, (show (2 : Int) ≠ 0 by decide), rfl, _, rfl, ite2 (fun h => ?_) (fun h => ?_)⟩
          · have h := V.int.inj (of_decide_eq_true h)
            refine ⟨.int sgn, rfl, sgn, rfl, rest _ _ ⟨y8, y10, ?_, rfl⟩⟩
            have e : Vd.sg k0 * sgn = - sgn := by
              have : Vd.sg k0 = -1 := by
                unfold Vd.sg
                rw [Int.fmod_eq_emod_of_nonneg _ (by decide)] at h
                rw [if_neg (by omega)]
              rw [this]
              omega
            rw [e]
            rfl
          · refine rest _ _ ⟨y8, y10, ?_, rfl⟩
            have e : Vd.sg k0 * sgn = sgn := by
              have : Vd.sg k0 = 1 := by
                unfold Vd.sg
                refine if_pos ?_
                by_cases z : k0 % 2 = 0
                · exact z
                · refine absurd (decide_eq_true ?_) h
                  show V.int ((k0 : Int).fmod 2) = V.int 1
                  rw [Int.fmod_eq_emod_of_nonneg _ (by decide)]
                  congr 1
                  omega
              rw [this]
              omega
            rw [e]
            rfl
    · rintro σ H3 ⟨t, os, P, G, sgn, L, qs, ⟨y3, y7, y8, y9, y10, rfl⟩, W, hL, s3, nL⟩
      have t9 : t ≤ 9 := by
        have := W.tj
        omega
      have zs : SmZ 2 sgn := by
        rcases W.s with e | e
        · rw [e]; decide
        · rw [e]; decide
      refine ⟨.int ((t : Nat) : Int), rfl, .int sgn, rfl, .int (Vd.dl (mL B) P G t), rfl, _, _, rfl, rfl, mulB (by decide) (by decide) zs (dl_sm hA P G t9) (by decide), ?_⟩
      refine ⟨by show 2 ≤ sizeLine; decide, fun R nR => ?_⟩
      exact q R t (sgn * Vd.dl (mL B) P G t) _ (s3.trans (same_new nR)) upd_same W.done
theorem ok_detL {f : Addr} {fd : FuncData} (F : Fun K "determinant" "determinant" s_det f fd) (C_swept : Cal P w K mg base 2 "swept" ["rows"] spSweptL) (m_len : mg "len" = none) : FnOk P w K mg base CX0 3 f fd ["table"] spDetL := by
  have sc := sc_det
  refine F.ok sc (fun vs H Q E h => ?_) (fun cdv A outer s H vs Q E hr h => ?_)
  · obtain ⟨a, ps, B, rfl, _⟩ := h
    rfl
  · obtain ⟨a, ps, B, rfl, ha, hR, h9, q⟩ := h
    refine ⟨_, (pss_cons (ps_asg (call_ C_swept (hr.mono (by decide)) (by rfl) (pa_cons (pv 0) pa_nil)) (pg_tup (n := 2) (by rfl) (pgs_cons (pg_name (i := 1) sc.nd rfl (Or.inl rfl)) (pgs_cons (pg_name (i := 2) sc.nd rfl (Or.inl rfl)) pgs_nil))))
    (pss_one (ps_ret (pe_ifExp (pt_cmpR op_eq (pv 1) (pe_callB call_len_seq (by rfl) m_len (by decide +kernel) (pa_cons (pv 0) pa_nil)) (nomark _)) (pv 2) pe_int)))), ?_⟩
    refine ⟨.ref a, rfl, a, ps, B, rfl, ha, hR, h9, fun r t v H1 s1 g1 e1 => ?_⟩
    refine ⟨r, _, rfl, g1.t, rfl, .int ((t : Nat) : Int), [.int v], rfl, .int v, [], rfl, rfl, ?_⟩
    refine ⟨.int ((t : Nat) : Int), rfl, .ref a, rfl, a, _, rfl, .inl (SqL.of (s1 _ _ ha)), rfl, _, rfl, ?_⟩
    rw [List.length_map, hR.1]
    by_cases e : t = B.length
    · rw [if_pos e] at e1
      rw [e, decide_eq_true rfl]
      have q := q H1 s1
      rw [e1] at q
      exact iteT ⟨.int v, rfl, q⟩
    · rw [if_neg e] at e1
      rw [decide_eq_false fun z => e (by have := V.int.inj z; omega)]
      have q := q H1 s1
      rw [e1] at q
      exact iteF q
theorem ok_cofactor {f : Addr} {fd : FuncData} (F : Fun K "_cofactor" "_cofactor" s_cofactor f fd) (C_determinant : Cal P w K mg base 3 "determinant" ["table"] spDetL) : FnOk P w K mg base CX0 4 f fd ["table", "i", "j"] spCof := by
  have sc := sc_cofactor
  refine F.ok sc (fun vs H Q E h => ?_) (fun cdv A outer s H vs Q E hr h => ?_)
  · obtain ⟨a, B, i, j, rfl, _⟩ := h
    rfl
  · obtain ⟨a, B, i, j, rfl, hT, h9, hi, hj, q⟩ := h
    refine ⟨_, (pss_cons (ps_setLc (i := 3) (own := [("row", 5)]) (g := gName 5) (by rfl) sc.nd rfl rfl (sw_true rfl rfl rfl (by decide +kernel)) (pi_tup (pe_tup (StX.pa_star (pe_slice sl_tupA (pv 0) po_none (po_some (pv 1))) (StX.pa_star (pe_slice sl_tupA (pv 0) (po_some (pe_op op_add (pv 1) pe_int)) po_none) pa_nil)))) (blkOk_by (own := [("row", 5)]) (N := ["table", "i", "j", "rest", "part", "row"]) (sc := defScope s_cofactor) (by decide +kernel)) (fun _ _ _ _ _ => pg_name (i := 5) sc.nd rfl (Or.inl rfl)) (fun _ _ _ _ _ => pts_nil) (fun _ _ _ _ _ => (pe_tup (pa_starK (K := K) rfl (pe_slice (sl_tupAK (K := K) rfl) (pv 5) po_none (po_some (pv 2))) (pa_starK (K := K) rfl (pe_slice (sl_tupAK (K := K) rfl) (pv 5) (po_some (pe_op op_add (pv 2) pe_int)) po_none) pa_nil)))))
    (pss_cons (ps_set (i := 4) sc.nd rfl (Or.inl rfl) (call_ C_determinant (hr.mono (by decide)) (by rfl) (pa_cons (pv 3) pa_nil)))
    (pss_one (ps_ret (pe_ifExp (pt_cmpR op_eq (pe_op op_modN (pe_op op_add (pv 1) (pv 2)) pe_int) pe_int (nomark _)) (pv 4) (pe_un un_neg (pv 4))))))), ?_⟩
    have wid := hT.w
    obtain ⟨ps, ha, hR⟩ := hT
    have lp : ps.length = B.length := hR.1
    refine ⟨.ref a, rfl, .int i, rfl, i, rfl, ?_⟩
    refine slice_tp ha fun r1 H1 s1 g1 => ?_
    rw [cut_to, ← List.map_take] at g1
    refine ⟨r1, _, rfl, .inl g1.t, ?_⟩
    refine ⟨.ref a, rfl, .int i, rfl, i, 1, rfl, rfl, (i : Int) + 1, rfl, ?_⟩
    unfold tNoPart
    dsimp only
    refine slice_tp (ha.same s1) fun r2 H2 s2 g2 => ?_
    rw [show ((i : Int) + 1) = ((i + 1 : Nat) : Int) by omega, cut_from, ← List.map_drop] at g2
    refine ⟨r2, _, rfl, .inl g2.t, ?_⟩
    unfold tNil
    have lsz : ((ps.take i).map V.ref ++ ((ps.drop (i + 1)).map V.ref ++ [])).length = B.length - 1 := by
      rw [List.length_append, List.length_append, List.length_map, List.length_map, List.length_take, List.length_drop]
      simp only [List.length_nil]
      omega
    refine ⟨by rw [lsz]; exact Nat.le_of_lt (small (by omega)), fun P0 nP0 => ?_⟩
    have s3 : Same H2 (upd H2 P0 (.tup ((ps.take i).map V.ref ++ ((ps.drop (i + 1)).map V.ref ++ [])))) := same_new nP0
    have g3 : Tp (upd H2 P0 (.tup ((ps.take i).map V.ref ++ ((ps.drop (i + 1)).map V.ref ++ [])))) P0 ((ps.take i ++ ps.drop (i + 1)).map V.ref) := by
      show upd _ _ _ _ = _
      rw [upd_same, List.append_nil, ← List.map_append]
    generalize upd H2 P0 (.tup ((ps.take i).map V.ref ++ ((ps.drop (i + 1)).map V.ref ++ []))) = H3 at s3 g3 ⊢
    have s13 := (s1.trans s2).trans s3
    have lq : (ps.take i ++ ps.drop (i + 1)).length = B.length - 1 := by
      rw [List.length_append, List.length_take, List.length_drop]
      omega
    have ll := less_len (j := j) hi
    refine ⟨P0, rfl, ⟨_, g3.t⟩, fun D nD => ?_⟩
    refine lc_tps (walk_tup (K := K) (a := P0) (xs := (ps.take i ++ ps.drop (i + 1)).map V.ref)) (less B i j) (by rw [ll, List.length_map, lq]) (by rw [List.length_map, lq]; exact small (by omega)) nD (fun H' s => (g3.same s).t) ?_ ?_
    · rintro x v y H4 H4' Qy hy hx s4 ⟨rfl, hv⟩ hq
      obtain ⟨p, hp, rfl⟩ := map_get hv
      unfold less at hy
      obtain ⟨b, hb, rfl⟩ := map_get hy
      rw [← List.eraseIdx_eq_take_drop_succ] at hp hb
      obtain ⟨y', h1, h2⟩ : ∃ y' : Nat, ps[y']? = some p ∧ B[y']? = some b := by
        rcases Nat.lt_or_ge x i with l | l
        · rw [List.getElem?_eraseIdx_of_lt l] at hp hb
          exact ⟨x, hp, hb⟩
        · rw [List.getElem?_eraseIdx_of_ge l] at hp hb
          exact ⟨x + 1, hp, hb⟩
      obtain ⟨Rp, lb⟩ := hR.2 y' p b h1 h2
      have R4 := Rp.same (s13.trans s4)
      refine ⟨rfl, .ref p, rfl, .int j, rfl, j, rfl, ?_⟩
      refine slice_tp R4.1 fun r5 H5 s5 g5 => ?_
      rw [cut_to, ← List.map_take] at g5
      refine ⟨r5, _, rfl, .inl g5.t, ?_⟩
      refine ⟨.ref p, rfl, .int j, rfl, j, 1, rfl, rfl, (j : Int) + 1, rfl, ?_⟩
      dsimp only
      refine slice_tp (R4.same s5).1 fun r6 H6 s6 g6 => ?_
      rw [show ((j : Int) + 1) = ((j + 1 : Nat) : Int) by omega, cut_from, ← List.map_drop] at g6
      refine ⟨r6, _, rfl, .inl g6.t, ?_⟩
      refine ⟨by rw [List.length_append, List.length_append, List.length_map, List.length_map, List.length_take, List.length_drop]; simp only [List.length_nil]; exact Nat.le_of_lt (small (by omega)), fun T nT => ?_⟩
      refine hq T _ ((s5.trans s6).trans (same_new nT)) ?_
      show upd _ _ _ _ = _
      rw [upd_same, List.append_nil, ← List.map_append]
    intro H4 us s4 d4 W4
    have lessr := less_row (i := i) hj wid
    refine ⟨.ref D, rfl, D, us, less B i j, rfl, d4, ⟨W4.1, fun x p r e1 e2 => ?_⟩, by rw [ll]; omega, fun H5 s5 => ?_⟩
    · obtain ⟨l, z⟩ := lessr r (List.mem_of_getElem? e2)
      exact ⟨⟨W4.2 x p r e1 e2, by omega, z⟩, by rw [ll]; exact l⟩
    · rw [less_det hi]
      have q := q H5 ((s13.trans s4).trans s5)
      unfold cof at q
      generalize det (B.length - 1) (mn i j (mL B)) = dd at q ⊢
      refine ⟨.int i, rfl, .int j, rfl, i, j, rfl, rfl, _, _, rfl, rfl, (show (2 : Int) ≠ 0 by decide), rfl, _, rfl, ite2 (fun h => ?_) (fun h => ?_)⟩
      · have h := V.int.inj (of_decide_eq_true h)
        have e : Vd.sg (i + j) = 1 := by
          unfold Vd.sg
          rw [Int.fmod_eq_emod_of_nonneg _ (by decide)] at h
          rw [if_pos (by omega)]
        rw [e, Int.one_mul] at q
        exact ⟨.int dd, rfl, q⟩
      · have e : Vd.sg (i + j) = -1 := by
          unfold Vd.sg
          refine if_neg fun z => h (decide_eq_true ?_)
          show V.int (((i : Int) + j).fmod 2) = V.int 0
          rw [Int.fmod_eq_emod_of_nonneg _ (by decide)]
          congr 1
          omega
        rw [e] at q
        refine ⟨.int dd, rfl, dd, rfl, ?_⟩
        rw [show -1 * dd = -dd by omega] at q
        exact q
theorem ok_adjoint {f : Addr} {fd : FuncData} (F : Fun K "adjoint" "adjoint" s_adjoint f fd) (C__cofactor : Cal P w K mg base 4 "_cofactor" ["table", "i", "j"] spCof) (m_tuple : mg "tuple" = none) (m_range : mg "range" = none) (m_len : mg "len" = none) : FnOk P w K mg base CX0 5 f fd ["table"] spAdj := by
  have sc := sc_adjoint
  refine F.ok sc (fun vs H Q E h => ?_) (fun cdv A outer s H vs Q E hr h => ?_)
  · obtain ⟨a, B, rfl, _⟩ := h
    rfl
  · obtain ⟨a, B, rfl, hT, h9, q⟩ := h
    refine ⟨_, (pss_cons (ps_set (i := 1) sc.nd rfl (Or.inr rfl) (pe_callB call_len_seq (by rfl) m_len (by decide +kernel) (pa_cons (pv 0) pa_nil)))
    (pss_one (ps_ret (pe_callTy call_tuple_of (by rfl) m_tuple (by decide +kernel) (pa_cons (pe_lc (own := [("i", 2)]) (g := gName 2) (by rfl) sc.nd (pi_range1 rfl m_range (pa_cons (pv 1) pa_nil)) (blkOk_by (own := [("i", 2)]) (N := ["table", "m", "i", "j"]) (sc := defScope s_adjoint) (by decide +kernel)) (fun _ _ _ _ _ => pg_name (i := 2) sc.nd rfl (Or.inr rfl)) (fun _ _ _ _ _ => pts_nil) (fun _ _ _ _ _ => (pe_callTy (call_tuple_ofK (K := K) rfl) (by rfl) m_tuple (by decide +kernel) (pa_cons (pe_lc (own := [("j", 3)]) (g := gName 3) (by rfl) sc.nd (pi_range1 rfl m_range (pa_cons (pv 1) pa_nil)) (blkOk_by (own := [("j", 3)]) (N := ["table", "m", "i", "j"]) (sc := { kind := .function, names := [(".0", .local), ("i", .cell), ("tuple", .globalImplicit), ("range", .globalImplicit), ("m", .cell), ("table", .cell)], isGenerator := false, isCoroutine := false }) (by decide +kernel)) (fun _ _ _ _ _ => pg_name (i := 3) sc.nd rfl (Or.inl rfl)) (fun _ _ _ _ _ => pts_nil) (fun _ _ _ _ _ => (call_ C__cofactor (hr.mono (by decide)) (by rfl) (pa_cons (pv 0) (pa_cons (pv 3) (pa_cons (pv 2) pa_nil)))))) pa_nil)))) pa_nil))))), ?_⟩
    have lp : ∀ {H' : Hp} {ps : List Addr}, Rws H' ps B B.length → (ps.map V.ref).length = B.length := fun h => by rw [List.length_map, h.1]
    obtain ⟨ps, ha, hR⟩ := id hT
    refine ⟨.ref a, rfl, a, _, rfl, .inr ha.t, ?_⟩
    rw [lp hR]
    refine ⟨.int B.length, rfl, (B.length : Int), rfl, by omega, by omega, fun D nD => ?_⟩
    rw [Int.toNat_natCast]
    refine lc_tps (walk_range (lo := 0) (n := B.length)) (adjI B) (by unfold adjI; rw [List.length_map, List.length_range]) (small (by omega)) nD (fun H' s => True.intro) ?_ ?_
    · rintro i x y H1 H1' Qy hy hi s1 ⟨rfl, rfl⟩ hq
      unfold adjI at hy
      rw [List.getElem?_map, List.getElem?_range hi] at hy
      obtain rfl := Option.some.inj hy
      refine ⟨rfl, .int B.length, rfl, (B.length : Int), rfl, by omega, by omega, fun D2 nD2 => ?_⟩
      rw [Int.toNat_natCast]
      refine lc_to (walk_range (lo := 0) (n := B.length)) (((List.range B.length).map fun j => cof (B.length - 1) (mL B) j i).map V.int) (by rw [List.length_map, List.length_map, List.length_range]) (small (by omega)) nD2 (fun H' s => True.intro) ?_ ?_
      · rintro j x z H2 H2' Qy hz hj s2 ⟨rfl, rfl⟩ hq
        obtain ⟨v, hv, rfl⟩ := map_get hz
        rw [List.getElem?_map, List.getElem?_range hj] at hv
        obtain rfl := Option.some.inj hv
        exact ⟨rfl, .ref a, rfl, .int (0 + j), rfl, .int (0 + i), rfl, a, B, j, i, by rw [Int.zero_add, Int.zero_add], (hT.same s1).same s2, h9, hj, hi, fun H3 s3 => hq H3 s3⟩
      · intro H2 s2 d2
        exact ⟨D2, _, rfl, .inl ⟨SqL.of d2, fun T nT => hq T _ (s2.trans (same_new nT)) upd_same⟩⟩
    intro H1 us s1 d1 W1
    exact ⟨D, _, rfl, .inl ⟨SqL.of d1, fun T nT => q T us _ (s1.trans (same_new nT)) upd_same (W1.same (same_new nT))⟩⟩
end
end K10
namespace K08
/-- the divisor that takes the common part out and puts the sign above -/
def prt (a b : Int) : Int := if 0 < b then (Int.gcd a b : Int) else -(Int.gcd a b : Int)
def low (a b : Int) : Int × Int := (a.fdiv (prt a b), b.fdiv (prt a b))
theorem prt_ne {a b : Int} (h : b ≠ 0) : prt a b ≠ 0 := by
  have g : Int.gcd a b ≠ 0 := fun z => h (Int.gcd_eq_zero_iff.mp z).2
  unfold prt
  split <;> omega
theorem prt_abs (a b : Int) : (prt a b).natAbs = Int.gcd a b := by
  unfold prt
  split <;> omega
theorem prt_dvd_left (a b : Int) : prt a b ∣ a := by
  rw [← Int.natAbs_dvd, prt_abs]
  exact Int.gcd_dvd_left _ _
theorem prt_dvd_right (a b : Int) : prt a b ∣ b := by
  rw [← Int.natAbs_dvd, prt_abs]
  exact Int.gcd_dvd_right _ _
theorem low_mul {a b : Int} (h : b ≠ 0) : a = prt a b * (low a b).1 ∧ b = prt a b * (low a b).2 := by
  have hp := prt_ne (a := a) h
  constructor
  · exact (Int.mul_fdiv_cancel' (prt_dvd_left a b)).symm
  · exact (Int.mul_fdiv_cancel' (prt_dvd_right a b)).symm
theorem low_pos {a b : Int} (h : b ≠ 0) : 0 < (low a b).2 := by
  obtain ⟨_, e⟩ := low_mul (a := a) h
  have hp := prt_ne (a := a) h
  by_cases hb : 0 < b
  · have p0 : 0 < prt a b := by
      have : prt a b = (Int.gcd a b : Int) := if_pos hb
      omega
    by_cases z : 0 < (low a b).2
    · exact z
    · have : prt a b * (low a b).2 ≤ 0 := Int.mul_nonpos_of_nonneg_of_nonpos (Int.le_of_lt p0) (by omega)
      omega
  · have p0 : prt a b < 0 := by
      have : prt a b = -(Int.gcd a b : Int) := if_neg hb
      omega
    by_cases z : 0 < (low a b).2
    · exact z
    · have : 0 ≤ prt a b * (low a b).2 := Int.mul_nonneg_of_nonpos_of_nonpos (Int.le_of_lt p0) (by omega)
      omega
theorem low_gcd {a b : Int} (h : b ≠ 0) : Int.gcd (low a b).1 (low a b).2 = 1 := by
  obtain ⟨e1, e2⟩ := low_mul (a := a) h
  have hp := prt_ne (a := a) h
  have g : Int.gcd a b = (prt a b).natAbs * Int.gcd (low a b).1 (low a b).2 := by
    have key := Int.gcd_mul_left (prt a b) (low a b).1 (low a b).2
    rw [← e1, ← e2] at key
    exact key
  rw [← prt_abs a b] at g
  have g0 : 0 < (prt a b).natAbs := by omega
  have z : (prt a b).natAbs * 1 = (prt a b).natAbs * Int.gcd (low a b).1 (low a b).2 := by omega
  exact (Nat.eq_of_mul_eq_mul_left g0 z).symm
theorem low_abs {a b : Int} (h : b ≠ 0) : (low a b).1.natAbs ≤ a.natAbs ∧ (low a b).2.natAbs ≤ b.natAbs := by
  obtain ⟨e1, e2⟩ := low_mul (a := a) h
  have g0 : 0 < (prt a b).natAbs := by have := prt_ne (a := a) h; omega
  have f : ∀ x : Int, x.natAbs ≤ (prt a b * x).natAbs := fun x => by
    rw [Int.natAbs_mul]
    exact Nat.le_mul_of_pos_left _ g0
  constructor
  · conv => rhs; rw [e1]
    exact f _
  · conv => rhs; rw [e2]
    exact f _
theorem low_self {x y : Int} (hy : 0 < y) (hg : Int.gcd x y = 1) : low x y = (x, y) := by
  unfold low prt
  rw [if_pos hy, hg]
  show (x.fdiv 1, y.fdiv 1) = _
  rw [Int.fdiv_one, Int.fdiv_one]
theorem low_zero {c : Int} (h : c ≠ 0) : low 0 c = (0, 1) := by
  unfold low prt
  rw [Int.zero_fdiv, Int.gcd_zero_left]
  by_cases hc : 0 < c
  · rw [if_pos hc]
    have e : (c.natAbs : Int) = c := by omega
    rw [e, Int.fdiv_self h]
  · rw [if_neg hc]
    have e : -(c.natAbs : Int) = c := by omega
    rw [e, Int.fdiv_self h]
theorem low_neg {u v : Int} (h : v ≠ 0) : low (-u) (-v) = low u v := by
  have e : prt (-u) (-v) = -prt u v := by
    unfold prt
    rw [Int.gcd_neg, Int.neg_gcd]
    by_cases hv : 0 < v
    · rw [if_neg (by omega), if_pos hv]
    · rw [if_pos (by omega), if_neg hv, Int.neg_neg]
  unfold low
  rw [e, Int.neg_fdiv_neg, Int.neg_fdiv_neg]
theorem low_floor {a c : Int} (h : c ≠ 0) : (low a c).1.fdiv (low a c).2 = a.fdiv c := by
  obtain ⟨e1, e2⟩ := low_mul (a := a) h
  have hp := prt_ne (a := a) h
  have y0 := low_pos (a := a) h
  have goal : ∀ p x y : Int, p ≠ 0 → 0 < y → x.fdiv y = (p * x).fdiv (p * y) := ?_
  · have z := goal _ (low a c).1 (low a c).2 hp y0
    rw [← e1, ← e2] at z
    exact z
  intro p x y hp y0
  by_cases hp0 : 0 < p
  · rw [Int.fdiv_eq_ediv_of_nonneg _ (Int.le_of_lt y0), Int.fdiv_eq_ediv_of_nonneg _ (Int.le_of_lt (Int.mul_pos hp0 y0)), Int.mul_ediv_mul_of_pos _ _ hp0]
  · have hq : 0 < -p := by omega
    have e : (p * x).fdiv (p * y) = (-p * x).fdiv (-p * y) := by
      rw [Int.neg_mul, Int.neg_mul, Int.neg_fdiv_neg]
    rw [e, Int.fdiv_eq_ediv_of_nonneg _ (Int.le_of_lt y0), Int.fdiv_eq_ediv_of_nonneg _ (Int.le_of_lt (Int.mul_pos hq y0)), Int.mul_ediv_mul_of_pos _ _ hq]
end K08
/-! Raising and hearing an error without attributes. -/
namespace Vk
open PySem PySem.Spec PyProof.Rows L2
/-- X(), X an own exception class without own __init__ -/
theorem pmk_own0 {X : Cx} {C : Addr} {bmB : List Value} {B newId initId : String} {x : Str} {p pos : Pos} (F : ExcBaseFacts B newId initId bmB) (q : PySem.W.excIn X.K C bmB newId = true) (gC : X.mg x = some (.ref C))
    (kC : PySem.W.keepIn X.K (.ref C) = true) (r : Raises X (.ref C)) (hg : Gl X x) (hdb : (x == ("__debug__" : Str)) = false := by decide) :
    PMk X (.Call (.Name x p) [] [] pos) (fun _ H Q => Q (.ref C) none H) := by
  intro pins s σ H Q I h
  obtain ⟨bm, N, nm, qn, bs, hd, sn, sub, ab, col, dd, k0, k1, k2, k3, k5, mN, hC, hN, hni, T⟩ := exc_obj I.kIn q
  refine wpAny_Call_Name_kw (ld_glob I hg gC (PySem.W.callWith_K0 I.kIn kC ?_) hdb)
  exact wpAny_call_exc_subT F T hC hN hni (fun h' e hm => mk_of I hm r h (I.hok.gone hm.new)) (Nat.zero_le _)
/-- what is known of an own exception class -/
structure ExcT (K : PySem.W.Frag) (mg : Str → Option Value) (x : Str) (C : Addr) : Prop where
  g : mg x = some (.ref C)
  ex : PySem.W.excIn K C [.type "ValueError", .type "Exception", .type "BaseException", .type "object"] "ValueError.__new__" = true
  k : PySem.W.keepIn K (.ref C) = true
  b : PySem.W.subIn K (.ref C) (.type "BaseException") = some true
  t : PySem.W.typeIn K (.ref C) = some (.type "type")
/-- the def that may refuse, by its name -/
def CalX (P : Program) (w : World) (K : PySem.W.Frag) (mg : Str → Option Value) (base : Heap) (k : Nat) (x : Str) (ps : List Str) (sp : Sp) : Prop :=
  ∃ f fd, FnOk P w K mg base (L2.CX P w) k f fd ps sp ∧ mg x = some (.ref f) ∧ PySem.W.keepIn K (.ref f) = true ∧ Binds K fd ps []
/-- the body of a def keeps its promise -/
def Bdy (P : Program) (w : World) (K : PySem.W.Frag) (mg : Str → Option Value) (base : Heap) (k : Nat) (f : Addr) (qual : Str) (st : Stmt) (N : List Str) (sp : Sp) : Prop :=
  ∀ (cdv : Value) (A : Around) (outer : List Env) (s : Shared) (H : Hp) (vs : List V) (Q : VK) (E : XK), Room k (A.deeper (envOfC qual (defScope st) s.heap.objs.size f cdv)) → sp vs H Q E →
    ∃ t, PSs (cxOf CX0 P w K mg base N qual (defScope st) f cdv A outer s H E).nox (defBody st) t ∧ t { nx := fun _ H' => Q .non H', rt := Q } (start N vs) H
section
variable {P : Program} {w : World} {K : PySem.W.Frag} {mg : Str → Option Value} {base : Heap}
theorem ok_bdy {x qual : Str} {st : Stmt} {f : Addr} {fd : FuncData} {N ps : List Str} {k : Nat} {sp : Sp} (F : Fun K x qual st f fd) (S : FnScope N ps (defScope st)) (len : ∀ vs H Q E, sp vs H Q E → vs.length = ps.length) (hbody : Bdy P w K mg base k f qual st N sp) : FnOk P w K mg base CX0 (k + 1) f fd ps sp := F.ok S len hbody
theorem okX_bdy {x qual : Str} {st : Stmt} {f : Addr} {fd : FuncData} {N ps : List Str} {k : Nat} {sp : Sp} (F : Fun K x qual st f fd) (S : FnScope N ps (defScope st)) (len : ∀ vs H Q E, sp vs H Q E → vs.length = ps.length) (hbody : Bdy P w K mg base k f qual st N sp) : FnOk P w K mg base (L2.CX P w) (k + 1) f fd ps sp := by
  refine F.okX S len fun cdv A outer s H vs Q E hr hsp => ?_
  obtain ⟨t, h, q⟩ := hbody cdv A outer s H vs Q E hr hsp
  exact ⟨t, PSs.nox (X := cxOf (L2.CX P w) P w K mg base N qual (defScope st) f cdv A outer s H E) h, q⟩
theorem fn_or {CX : CXT} {k : Nat} {f : Addr} {fd : FuncData} {ps : List Str} {sp1 sp2 : Sp} (a : FnOk P w K mg base CX k f fd ps sp1) (b : FnOk P w K mg base CX k f fd ps sp2) : FnOk P w K mg base CX k f fd ps (fun vs H Q E => sp1 vs H Q E ∨ sp2 vs H Q E) :=
  ⟨fun vs H Q E h => h.elim (a.len vs H Q E) (b.len vs H Q E), fun A outer s H args us vs Q E hr he hb hv hs => hs.elim (a.run A outer s H args us vs Q E hr he hb hv) (b.run A outer s H args us vs Q E hr he hb hv)⟩
end
end Vk
namespace K10
open PySem PySem.Spec PyProof.Rows L2 Vk Vd
open K08 (prt low prt_ne prt_abs)
abbrev s_fraction : Stmt := topS 8
theorem sc_fraction : FnScope ["a", "b", "part"] ["a", "b"] (defScope s_fraction) := ⟨rfl, rfl, rfl, by decide +kernel, rfl, by decide +kernel, by decide +kernel⟩
abbrev s_parts : Stmt := topS 19
theorem sc_parts : FnScope ["rays", "w", "whole", "numbers", "i", "number"] ["rays", "w"] (defScope s_parts) := ⟨rfl, rfl, rfl, by decide +kernel, rfl, by decide +kernel, by decide +kernel⟩
abbrev s_solved : Stmt := topS 20
theorem sc_solved : FnScope ["table", "column", "numbers", "size", "number"] ["table", "column"] (defScope s_solved) := ⟨rfl, rfl, rfl, by decide +kernel, rfl, by decide +kernel, by decide +kernel⟩
theorem prt_lt {a b : Int} {n : Nat} (h : b ≠ 0) (hb : b.natAbs < 2 ^ n) (hn : 0 < n) : (prt a b).natAbs.log2 < n := by
  have g : Int.gcd a b ≤ b.natAbs := Nat.le_of_dvd (by omega) (Nat.gcd_dvd_right _ _)
  have e : (prt a b).natAbs = Int.gcd a b := by
    unfold prt
    split <;> omega
  rw [e]
  exact PySem.Flt.log2_lt_of hn (by omega)
/-- a fraction stands at p -/
def Pr (H : Hp) (p : Addr) (x : Int × Int) : Prop := H p = some (.tup [.int x.1, .int x.2])
def spFrac : Sp := fun vs H Q _ => ∃ a b : Int, vs = [.int a, .int b] ∧ b ≠ 0 ∧ b.natAbs < 2 ^ 8000 ∧ ∀ H' p, Same H H' → H p = none → Pr H' p (low a b) → Q (.ref p) H'
theorem Pr.same {H H' : Hp} {p : Addr} {x : Int × Int} (h : Pr H p x) (e : Same H H') : Pr H' p x := e _ _ h
/-- the determinant with row i replaced -/
def repD (B : List (List Int)) (xs : List Int) (i : Nat) : Int := det B.length (mL (B.set i xs))
def sgnZ (d : Int) : Int := if d < 0 then -1 else 1
def numsI (B : List (List Int)) (xs : List Int) : List Int := (List.range B.length).map fun i => sgnZ (det B.length (mL B)) * repD B xs i
def spParts : Sp := fun vs H Q _ => ∃ (a c : Addr) (B : List (List Int)) (xs : List Int), vs = [.ref a, .ref c] ∧ TabR H a B B.length ∧ B.length ≤ 5 ∧ Row H c xs ∧ xs.length = B.length ∧ det B.length (mL B) ≠ 0 ∧
  ∀ r p H', Same H H' → Tp H' r [.ref p, .int ((det B.length (mL B)).natAbs : Int)] → Tp H' p ((numsI B xs).map V.int) → Q (.ref r) H'
def spPartsX (C : Addr) : Sp := fun vs H Q E => ∃ (a c : Addr) (B : List (List Int)), vs = [.ref a, .ref c] ∧ TabR H a B B.length ∧ B.length ≤ 5 ∧ det B.length (mL B) = 0 ∧ ∀ H', Same H H' → E (.ref C) none H'
section
variable {P : Program} {w : World} {K : PySem.W.Frag} {mg : Str → Option Value} {base : Heap}
theorem ok_fraction {f : Addr} {fd : FuncData} (F : Fun K "fraction" "fraction" s_fraction f fd) (g_gcd : mg "gcd" = some (.builtin "math.gcd")) : FnOk P w K mg base CX0 1 f fd ["a", "b"] spFrac := by
  have sc := sc_fraction
  refine F.ok sc (fun vs H Q E h => ?_) (fun cdv A outer s H vs Q E hr h => ?_)
  · obtain ⟨a, b, rfl, _⟩ := h
    rfl
  · obtain ⟨a, b, rfl, hb, hz, q⟩ := h
    refine ⟨_, (pss_cons (ps_if (pt_cmpR op_eq (pv 1) pe_int (nomark _))
      (pss_one ps_never)
      pss_nil)
    (pss_cons (ps_set (i := 2) sc.nd rfl (Or.inl rfl) (pe_ifExp (pt_cmpR op_gt (pv 1) pe_int (nomark _)) (pe_callBfun cr_gcd rfl g_gcd (pa_cons (pv 0) (pa_cons (pv 1) pa_nil))) (pe_un un_neg (pe_callBfun cr_gcd rfl g_gcd (pa_cons (pv 0) (pa_cons (pv 1) pa_nil))))))
    (pss_one (ps_ret (pe_tup (pa_cons (pe_op op_fdivX (pv 0) (pv 2)) (pa_cons (pe_op op_fdivX (pv 1) (pv 2)) pa_nil))))))), ?_⟩
    refine ⟨.int b, rfl, rfl, _, rfl, ite2 (fun e => ?_) (fun _ => ?_)⟩
    · exact absurd (V.int.inj (of_decide_eq_true e)) hb
    have c1 := prt_ne (a := a) hb
    have c2 : (prt a b).natAbs.log2 < 9000 := Nat.lt_trans (prt_lt hb hz (by decide)) (by decide)
    refine ⟨.int b, rfl, b, 0, rfl, rfl, _, rfl, tif_both (fun v => v = .int (prt a b)) ?_ ?_ ?_⟩
    · rintro _ rfl
      refine ⟨.int a, rfl, .int (prt a b), rfl, a, _, rfl, rfl, ⟨c1, c2⟩, .int b, rfl, .int (prt a b), rfl, b, _, rfl, rfl, ⟨c1, c2⟩, by show 2 ≤ sizeLine; decide, fun p np => ?_⟩
      exact q _ p (same_new np) np upd_same
    · intro c hQ
      refine ⟨.int a, rfl, .int b, rfl, a, b, rfl, hQ _ ?_⟩
      unfold prt
      rw [if_pos (of_decide_eq_true c)]
      rfl
    · intro c hQ
      refine ⟨.int a, rfl, .int b, rfl, a, b, rfl, _, rfl, hQ _ ?_⟩
      unfold prt
      rw [if_neg (of_decide_eq_false c)]
      rfl
theorem bd_parts {f : Addr} (C_determinant : Cal P w K mg base 3 "determinant" ["table"] spDet) (m_tuple : mg "tuple" = none) (m_range : mg "range" = none) (m_len : mg "len" = none) (m_abs : mg "abs" = none) : Bdy P w K mg base 3 f "parts_of" s_parts ["rays", "w", "whole", "numbers", "i", "number"] spParts := by
  have sc := sc_parts
  intro cdv A outer s H vs Q E hr h
  obtain ⟨a, c, B, xs, rfl, hT, h5, hc, lx, d0, q⟩ := h
  refine ⟨_, (pss_cons (ps_set (i := 2) sc.nd rfl (Or.inl rfl) (call_ C_determinant (hr.mono (by decide)) (by rfl) (pa_cons (pv 0) pa_nil)))
    (pss_cons (ps_if (pt_cmpR op_eq (pv 2) pe_int (nomark _))
      (pss_one ps_never)
      pss_nil)
    (pss_cons (ps_setLc (i := 3) (own := [("i", 4)]) (g := gName 4) (by rfl) sc.nd rfl rfl (sw_true rfl rfl rfl (by decide +kernel)) (pi_range1 rfl m_range (pa_cons (pe_callB call_len_seq (by rfl) m_len (by decide +kernel) (pa_cons (pv 0) pa_nil)) pa_nil)) (blkOk_by (own := [("i", 4)]) (N := ["rays", "w", "whole", "numbers", "i", "number"]) (sc := defScope s_parts) (by decide +kernel)) (fun _ _ _ _ _ => pg_name (i := 4) sc.nd rfl (Or.inl rfl)) (fun _ _ _ _ _ => pts_nil) (fun _ _ _ _ _ => (call_ C_determinant (hr.mono (by decide)) (by rfl) (pa_cons (pe_tup (pa_starK (K := K) rfl (pe_slice (sl_tupAK (K := K) rfl) (pv 0) po_none (po_some (pv 4))) (pa_cons (pv 1) (pa_starK (K := K) rfl (pe_slice (sl_tupAK (K := K) rfl) (pv 0) (po_some (pe_op op_add (pv 4) pe_int)) po_none) pa_nil)))) pa_nil))))
    (pss_cons (ps_if (pt_cmpR op_lt (pv 2) pe_int (nomark _))
      (pss_one (ps_setLc (i := 3) (own := [("number", 5)]) (g := gName 5) (by rfl) sc.nd rfl rfl (sw_true rfl rfl rfl (by decide +kernel)) (pi_list (pv 3)) (blkOk_by (own := [("number", 5)]) (N := ["rays", "w", "whole", "numbers", "i", "number"]) (sc := defScope s_parts) (by decide +kernel)) (fun _ _ _ _ _ => pg_name (i := 5) sc.nd rfl (Or.inl rfl)) (fun _ _ _ _ _ => pts_nil) (fun _ _ _ _ _ => (pe_un un_neg (pv 5)))))
      pss_nil)
    (pss_one (ps_ret (pe_tup (pa_cons (pe_callTy call_tuple_of (by rfl) m_tuple (by decide +kernel) (pa_cons (pv 3) pa_nil)) (pa_cons (pe_callB call_abs (by rfl) m_abs (by decide +kernel) (pa_cons (pv 2) pa_nil)) pa_nil))))))))), ?_⟩
  refine ⟨.ref a, rfl, a, B, rfl, hT, by omega, fun H1 s1 => ?_⟩
  have wid := hT.w
  have hT1 := hT.same s1
  obtain ⟨ps, ha, hR⟩ := id hT1
  have lp : ps.length = B.length := hR.1
  obtain ⟨d, hd⟩ : ∃ d, d = det B.length (mL B) := ⟨_, rfl⟩
  rw [← hd] at d0 q ⊢
  refine ⟨.int d, rfl, rfl, _, rfl, ite2 (fun h => absurd (V.int.inj (of_decide_eq_true h)) d0) (fun _ => ?_)⟩
  refine ⟨.ref a, rfl, a, _, rfl, .inr ha.t, ((ps.map V.ref).length : Int), rfl, by omega, by rw [List.length_map]; omega, fun D nD => ?_⟩
  have e0 : ((ps.map V.ref).length : Int).toNat = B.length := by
    rw [List.length_map]
    omega
  rw [e0]
  refine lc_to (walk_range (lo := 0) (n := B.length)) (((List.range B.length).map fun i => repD B xs i).map V.int) (by rw [List.length_map, List.length_map, List.length_range]) (small (by omega)) nD (fun H' s => True.intro) ?_ ?_
  · rintro i x z H2 H2' Qy hz hi s2 ⟨rfl, rfl⟩ hq
    obtain ⟨v, hv, rfl⟩ := map_get hz
    rw [List.getElem?_map, List.getElem?_range hi] at hv
    obtain rfl := Option.some.inj hv
    have ei : (0 + (i : Int)) = ((i : Nat) : Int) := by omega
    refine ⟨rfl, .ref a, rfl, .int (0 + i), rfl, 0 + i, rfl, ?_⟩
    refine slice_tp (ha.same s2) fun r3 H3 s3 g3 => ?_
    rw [ei, cut_to, ← List.map_take] at g3
    refine ⟨r3, _, rfl, .inl g3.t, .ref c, rfl, ?_⟩
    refine ⟨.ref a, rfl, .int (0 + i), rfl, 0 + i, 1, rfl, rfl, 0 + i + 1, rfl, ?_⟩
    unfold tNoPart
    dsimp only
    refine slice_tp ((ha.same s2).same s3) fun r4 H4 s4 g4 => ?_
    rw [show (0 + (i : Int) + 1) = ((i + 1 : Nat) : Int) by omega, cut_from, ← List.map_drop] at g4
    refine ⟨r4, _, rfl, .inl g4.t, ?_⟩
    have eset : (ps.take i).map V.ref ++ (V.ref c :: ((ps.drop (i + 1)).map V.ref ++ [])) = (ps.set i c).map V.ref := by
      rw [List.append_nil, ← List.map_cons, ← List.map_append, List.set_eq_take_append_cons_drop, if_pos (by omega)]
    unfold tNil
    dsimp only
    rw [eset]
    refine ⟨by rw [List.length_map, List.length_set, lp]; exact Nat.le_of_lt (small (by omega)), fun T nT => ?_⟩
    have s5 : Same H4 (upd H4 T (.tup ((ps.set i c).map V.ref))) := same_new nT
    have g5 : Tp (upd H4 T (.tup ((ps.set i c).map V.ref))) T ((ps.set i c).map V.ref) := upd_same
    generalize upd H4 T (.tup ((ps.set i c).map V.ref)) = H5 at s5 g5 ⊢
    have s25 := ((s2.trans s3).trans s4).trans s5
    have R5 : Rws H5 (ps.set i c) (B.set i xs) B.length := by
      refine ⟨by rw [List.length_set, List.length_set]; exact hR.1, fun y p r e1 e2 => ?_⟩
      by_cases e : i = y
      · subst e
        rw [List.getElem?_set_self (by omega)] at e1
        rw [List.getElem?_set_self hi] at e2
        obtain rfl := Option.some.inj e1
        obtain rfl := Option.some.inj e2
        exact ⟨(hc.same s1).same s25, lx⟩
      · rw [List.getElem?_set_ne e] at e1 e2
        have q := hR.2 y p r e1 e2
        exact ⟨q.1.same s25, q.2⟩
    refine ⟨T, B.set i xs, rfl, ⟨ps.set i c, g5, by rw [List.length_set]; exact R5⟩, by rw [List.length_set]; omega, fun H6 s6 => ?_⟩
    rw [List.length_set]
    exact hq H6 (((s3.trans s4).trans s5).trans s6)
  intro H2 s2 d2
  refine gname_ ?_
  dsimp only
  refine seq_ ?_
  have s12 := s1.trans s2
  refine tifs_rest (fun σ' H' => ∃ L y4 y5, σ' = [some (.ref a), some (.ref c), some (.int d), some (.ref L), y4, y5] ∧ Same H H' ∧ H' L = some (.lst ((numsI B xs).map V.int))) ?_ ?_
  · rintro σ' H3 ⟨L, y4, y5, rfl, s3, g3⟩
    refine ⟨.ref L, rfl, L, _, rfl, .inl ⟨SqL.of g3, fun T nT => ?_⟩⟩
    have s4 : Same H3 (upd H3 T (.tup ((numsI B xs).map V.int))) := same_new nT
    have g4 : Tp (upd H3 T (.tup ((numsI B xs).map V.int))) T ((numsI B xs).map V.int) := upd_same
    generalize upd H3 T (.tup ((numsI B xs).map V.int)) = H4 at s4 g4 ⊢
    refine ⟨.int d, rfl, d, rfl, ?_⟩
    rw [show (if d < 0 then -d else d) = (d.natAbs : Int) by split <;> omega]
    refine ⟨by show 2 ≤ sizeLine; decide, fun R nR => ?_⟩
    exact q R T _ ((s3.trans s4).trans (same_new nR)) upd_same (g4.same (same_new nR))
  · intro rest
    have eN : ∀ z : Int, sgnZ d = z → numsI B xs = (List.range B.length).map fun i => z * repD B xs i := fun z e => by
      unfold numsI
      rw [← hd, e]
    refine ⟨.int d, rfl, d, 0, rfl, rfl, _, rfl, ite2 (fun h => ?_) (fun h => ?_)⟩
    · have h := of_decide_eq_true h
      have e1 := eN (-1) (if_pos h)
      refine ⟨.ref D, rfl, D, rfl, ⟨_, SqL.of d2⟩, fun D2 nD2 => ?_⟩
      refine lc_to (walk_list (K := K) (a := D) (xs := ((List.range B.length).map fun i => repD B xs i).map V.int)) ((numsI B xs).map V.int) (by rw [e1, List.length_map, List.length_map, List.length_map, List.length_map]) (by rw [List.length_map, List.length_map, List.length_range]; exact small (by omega)) nD2 (fun H' s => SqL.of (s _ _ d2)) ?_ ?_
      · rintro i x z H3 H3' Qy hz hi s3 ⟨rfl, hx⟩ hq
        obtain ⟨v, hv, rfl⟩ := map_get hz
        obtain ⟨u, hu, rfl⟩ := map_get hx
        rw [List.length_map, List.length_map, List.length_range] at hi
        rw [e1, List.getElem?_map, List.getElem?_range hi] at hv
        rw [List.getElem?_map, List.getElem?_range hi] at hu
        obtain rfl := Option.some.inj hu
        obtain rfl := Option.some.inj hv
        refine ⟨rfl, .int (repD B xs i), rfl, repD B xs i, rfl, ?_⟩
        have hq : Qy (.int (-1 * repD B xs i)) H3' := hq _ (Same.refl _)
        rw [show -1 * repD B xs i = - repD B xs i by omega] at hq
        exact hq
      · intro H3 s3 d3
        exact rest _ _ ⟨D2, none, none, rfl, s12.trans s3, d3⟩
    · have h : ¬ d < 0 := fun z => h (decide_eq_true z)
      have e1 := eN 1 (if_neg h)
      refine rest _ _ ⟨D, none, none, rfl, s12, ?_⟩
      rw [d2, e1]
      congr 3
      exact List.map_congr_left fun i _ => (Int.one_mul _).symm
theorem ok_parts {f : Addr} {fd : FuncData} (F : Fun K "parts_of" "parts_of" s_parts f fd) (C_determinant : Cal P w K mg base 3 "determinant" ["table"] spDet) (m_tuple : mg "tuple" = none) (m_range : mg "range" = none) (m_len : mg "len" = none) (m_abs : mg "abs" = none) : FnOk P w K mg base CX0 4 f fd ["rays", "w"] spParts :=
  ok_bdy F sc_parts (fun vs H Q E h => by obtain ⟨a, c, B, xs, rfl, _⟩ := h; rfl) (bd_parts C_determinant m_tuple m_range m_len m_abs)
theorem ok_partsX {f C : Addr} {fd : FuncData} (F : Fun K "parts_of" "parts_of" s_parts f fd) (C_determinant : Cal P w K mg base 3 "determinant" ["table"] spDet) (T : ExcT K mg "Singular" C) : FnOk P w K mg base (L2.CX P w) 4 f fd ["rays", "w"] (spPartsX C) := by
  have sc := sc_parts
  refine F.okX sc (fun vs H Q E h => ?_) (fun cdv A outer s H vs Q E hr h => ?_)
  · obtain ⟨a, c, B, rfl, _⟩ := h
    rfl
  · obtain ⟨a, c, B, rfl, hT, h5, d0, q⟩ := h
    refine ⟨_, (pss_cons (ps_set (i := 2) sc.nd rfl (Or.inl rfl) (call_ C_determinant (hr.mono (by decide)) (by rfl) (pa_cons (pv 0) pa_nil)))
    (pss_cons (ps_if (pt_cmpR op_eq (pv 2) pe_int (nomark _))
      (pss_one (ps_raise rfl (takes_of rfl rfl rfl rfl) (pmk_own0 PySem.F.excBase_ValueError T.ex T.g T.k (raises_own T.b T.t) rfl)))
      pss_nil)
    (pss_cons ps_never (pss_cons ps_never (pss_one ps_never))))), ?_⟩
    refine ⟨.ref a, rfl, a, B, rfl, hT, by omega, fun H1 s1 => ?_⟩
    rw [d0]
    exact ⟨.int 0, rfl, rfl, _, rfl, iteT' (decide_eq_true rfl) (q H1 s1)⟩
/-- what is told of a system -/
def solI (B : List (List Int)) (xs : List Int) : List (Int × Int) := (numsI (colsI B B.length) xs).map fun z => low z ((det B.length (mL B)).natAbs : Int)
def Prs (H : Hp) (ps : List Addr) (zs : List (Int × Int)) : Prop := ps.length = zs.length ∧ ∀ (i : Nat) (p : Addr) (z : Int × Int), ps[i]? = some p → zs[i]? = some z → Pr H p z
theorem mL_smk {k : Nat} {B : List (List Int)} (h : ∀ r ∈ B, ∀ x ∈ r, SmZ k x) (r c : Nat) : (mL B r c).natAbs ≤ 2 ^ k := by
  unfold mL
  by_cases hr : r < B.length
  · have e1 : B[r]? = some (B.getD r []) := by
      rw [List.getD_eq_getElem?_getD, List.getElem?_eq_getElem hr]
      rfl
    by_cases hc : c < (B.getD r []).length
    · exact Nat.le_of_lt (h _ (List.mem_of_getElem? e1) _ (List.mem_of_getElem? (Vk.getD_at hc)))
    · rw [List.getD_eq_getElem?_getD, List.getElem?_eq_none (by omega)]
      exact Nat.zero_le _
  · have : B.getD r [] = [] := by
      rw [List.getD_eq_getElem?_getD, List.getElem?_eq_none (by omega)]
      rfl
    rw [this]
    exact Nat.zero_le _
theorem cols_det {X : List (List Int)} : det (colsI X X.length).length (mL (colsI X X.length)) = det X.length (mL X) := by
  rw [colsI_len, ← det_tr]
  refine det_congr _ fun r c hr hc => ?_
  rw [mL_at (colsI_at hc), List.getD_eq_getElem?_getD, List.getElem?_map]
  unfold mL
  rw [List.getD_eq_getElem?_getD (l := X), List.getElem?_eq_getElem hr]
  rfl
def spSolved : Sp := fun vs H Q _ => ∃ (a c : Addr) (B : List (List Int)) (xs : List Int), vs = [.ref a, .ref c] ∧ TabR H a B B.length ∧ B.length ≤ 5 ∧ Row H c xs ∧ xs.length = B.length ∧ det B.length (mL B) ≠ 0 ∧ (∀ r ∈ B, ∀ x ∈ r, SmZ 110 x) ∧
  ∀ r ps H', Same H H' → Tp H' r (ps.map V.ref) → Prs H' ps (solI B xs) → Q (.ref r) H'
def spSolvedX (C : Addr) : Sp := fun vs H Q E => ∃ (a c : Addr) (B : List (List Int)), vs = [.ref a, .ref c] ∧ TabR H a B B.length ∧ B.length ≤ 5 ∧ det B.length (mL B) = 0 ∧ ∀ H', Same H H' → E (.ref C) none H'
theorem bd_solved {f : Addr} (C_parts_of : Cal P w K mg base 4 "parts_of" ["rays", "w"] spParts) (C_turned : Cal P w K mg base 1 "turned" ["rows", "width"] spTurnedT) (C_fraction : Cal P w K mg base 1 "fraction" ["a", "b"] spFrac) (m_tuple : mg "tuple" = none) (m_len : mg "len" = none) : Bdy P w K mg base 4 f "solved" s_solved ["table", "column", "numbers", "size", "number"] spSolved := by
  have sc := sc_solved
  intro cdv A outer s H vs Q E hr h
  obtain ⟨a, c, B, xs, rfl, hT, h5, hc, lx, d0, zB, q⟩ := h
  refine ⟨_, (pss_cons (ps_asg (call_ C_parts_of (hr.mono (by decide)) (by rfl) (pa_cons (call_ C_turned (hr.mono (by decide)) (by rfl) (pa_cons (pv 0) (pa_cons (pe_callB call_len_seq (by rfl) m_len (by decide +kernel) (pa_cons (pv 0) pa_nil)) pa_nil))) (pa_cons (pv 1) pa_nil))) (pg_tup (n := 2) (by rfl) (pgs_cons (pg_name (i := 2) sc.nd rfl (Or.inl rfl)) (pgs_cons (pg_name (i := 3) sc.nd rfl (Or.inr rfl)) pgs_nil))))
    (pss_one (ps_ret (pe_callTy call_tuple_of (by rfl) m_tuple (by decide +kernel) (pa_cons (pe_lc (own := [("number", 4)]) (g := gName 4) (by rfl) sc.nd (pi_tup (pv 2)) (blkOk_by (own := [("number", 4)]) (N := ["table", "column", "numbers", "size", "number"]) (sc := defScope s_solved) (by decide +kernel)) (fun _ _ _ _ _ => pg_name (i := 4) sc.nd rfl (Or.inl rfl)) (fun _ _ _ _ _ => pts_nil) (fun _ _ _ _ _ => (call_ C_fraction (hr.mono (by decide)) (by rfl) (pa_cons (pv 4) (pa_cons (pv 3) pa_nil))))) pa_nil))))), ?_⟩
  obtain ⟨ps, ha, hR⟩ := hT
  have lp : ps.length = B.length := hR.1
  refine ⟨.ref a, rfl, .ref a, rfl, a, _, rfl, .inr ha.t, ?_⟩
  rw [List.length_map, lp]
  refine ⟨a, B.length, ps, B, rfl, ha, hR, by omega, by omega, fun r qs H1 s1 g1 R1 => ?_⟩
  have cd := cols_det (X := B)
  refine ⟨.ref c, rfl, r, c, colsI B B.length, xs, rfl, ⟨qs, g1, by rw [colsI_len]; exact R1⟩, by rw [colsI_len]; omega, hc.same s1, by rw [colsI_len]; exact lx, by rw [cd]; exact d0, fun r2 p2 H2 s2 g2 g2' => ?_⟩
  rw [cd] at g2
  have ln : (numsI (colsI B B.length) xs).length = B.length := by
    unfold numsI
    rw [List.length_map, List.length_range, colsI_len]
  obtain ⟨d, hd⟩ : ∃ d, d = ((det B.length (mL B)).natAbs : Int) := ⟨_, rfl⟩
  have dz : d ≠ 0 := by omega
  have dl : d.natAbs < 2 ^ 8000 := by
    have h := det_abs (k := 110) B.length (mL B) (by omega) (mL_smk zB)
    rw [hd, Int.natAbs_natCast]
    refine Nat.lt_of_le_of_lt h (Nat.pow_lt_pow_right (by decide) ?_)
    have : B.length * (110 + 4) ≤ 5 * 114 := Nat.mul_le_mul (by omega) (by omega)
    omega
  unfold solI at q
  rw [← hd] at g2 q
  refine ⟨r2, _, rfl, g2.t, rfl, .ref p2, [.int d], rfl, .int d, [], rfl, rfl, ?_⟩
  refine ⟨.ref p2, rfl, p2, rfl, ⟨_, g2'.t⟩, fun D nD => ?_⟩
  have s12 := s1.trans s2
  refine lc_objs (walk_tup (K := K) (a := p2) (xs := (numsI (colsI B B.length) xs).map V.int)) (fun i => .tup [.int (low ((numsI (colsI B B.length) xs).getD i 0) d).1, .int (low ((numsI (colsI B B.length) xs).getD i 0) d).2]) (by rw [List.length_map, ln]; exact small (by omega)) nD (fun H' s => (g2'.same s).t) ?_ ?_
  · rintro i x H3 H3' Qy hi s3 ⟨rfl, hx⟩ hq
    obtain ⟨z, hz, rfl⟩ := map_get hx
    rw [getD_of hz] at hq
    exact ⟨rfl, .int z, rfl, .int d, rfl, z, d, rfl, dz, dl, fun H4 p s4 n4 g4 => hq p H4 s4 n4 g4⟩
  intro H3 us s3 d3 lus _ _ obu
  refine ⟨D, _, rfl, .inl ⟨SqL.of d3, fun T nT => ?_⟩⟩
  have s4 := same_new (o := .tup (us.map V.ref)) nT
  refine q T us _ ((s12.trans s3).trans s4) upd_same ⟨by rw [lus, List.length_map, List.length_map], fun i p z e1 e2 => ?_⟩
  obtain ⟨u, hu, rfl⟩ := map_get e2
  have g := obu i p e1
  rw [getD_of hu] at g
  exact s4 _ _ g
theorem len_solved : ∀ vs H Q E, spSolved vs H Q E → vs.length = 2 := fun vs H Q E h => by obtain ⟨a, c, B, xs, rfl, _⟩ := h; rfl
theorem ok_solvedX {f fP C : Addr} {fd fdP : FuncData} (F : Fun K "solved" "solved" s_solved f fd) (G : FnOk P w K mg base (L2.CX P w) 4 fP fdP ["rays", "w"] (spPartsX C)) (gP : mg "parts_of" = some (.ref fP)) (kP : PySem.W.keepIn K (.ref fP) = true) (bP : Binds K fdP ["rays", "w"] []) (C_turned : Cal P w K mg base 1 "turned" ["rows", "width"] spTurnedT) (m_len : mg "len" = none) : FnOk P w K mg base (L2.CX P w) 5 f fd ["table", "column"] (spSolvedX C) := by
  have sc := sc_solved
  refine F.okX sc (fun vs H Q E h => ?_) (fun cdv A outer s H vs Q E hr h => ?_)
  · obtain ⟨a, c, B, rfl, _⟩ := h
    rfl
  · obtain ⟨a, c, B, rfl, hT, h5, d0, q⟩ := h
    refine ⟨_, (pss_cons (ps_asg (pe_call G (hr.mono (by decide)) (by rfl) gP kP bP .nil (passes_call (takes_of rfl rfl rfl rfl) (fun _ _ _ _ z => z)) (pa_cons (call_ C_turned (hr.mono (by decide)) (by rfl) (pa_cons (pv 0) (pa_cons (pe_callB call_len_seq (by rfl) m_len (by decide +kernel) (pa_cons (pv 0) pa_nil)) pa_nil))) (pa_cons (pv 1) pa_nil))) (pg_tup (n := 2) (by rfl) (pgs_cons (pg_name (i := 2) sc.nd rfl (Or.inl rfl)) (pgs_cons (pg_name (i := 3) sc.nd rfl (Or.inr rfl)) pgs_nil))))
    (pss_one ps_never)), ?_⟩
    obtain ⟨ps, ha, hR⟩ := hT
    have lp : ps.length = B.length := hR.1
    refine ⟨.ref a, rfl, .ref a, rfl, a, _, rfl, .inr ha.t, ?_⟩
    rw [List.length_map, lp]
    refine ⟨a, B.length, ps, B, rfl, ha, hR, by omega, by omega, fun r qs H1 s1 g1 R1 => ?_⟩
    exact ⟨.ref c, rfl, r, c, colsI B B.length, rfl, ⟨qs, g1, by rw [colsI_len]; exact R1⟩, by rw [colsI_len]; omega, by rw [cols_det]; exact d0, fun H2 s2 => q H2 (s1.trans s2)⟩
end
end K10
namespace K10
open PySem PySem.Spec PyProof.Rows L2 Vk Vd
open K08 (prt low prt_ne prt_abs)
abbrev s_table : Stmt := topS 31
theorem sc_table : FnScope ["m", "size_so", "i", "word", "rows", "row", "made", "first", "second", "j", "x"] ["m", "size_so"] (defScope s_table) := ⟨rfl, rfl, rfl, by decide +kernel, rfl, by decide +kernel, by decide +kernel⟩
theorem lc_drW {J : It} {n w : Nat} {G : Hp → Prop} {Y : Nat → Hp → V → Hp → Prop} (wk : Walk J n G Y) {g : TG} {te : TE} {vs : List Nat} {σ : L2.St} {H1 : Hp} {D : Addr} {Qd : Hp → Prop} {m c : Addr} {q : Nat} (R : Nat → Int → Prop) (hz : n < sizeLine) (hM : MOk H1 m c q) (nD : H1 D = none)
    (hG : ∀ H, SameBut m H1 H → G H)
    (hs : ∀ (i : Nat) (x : V) (H H' : Hp) (Qy : VK), i < n → SameBut m H1 H → MOk H m c (q + w * i) → Y i H x H' → (∀ H4 v, SameBut m H H4 → MOk H4 m c (q + w * i + w) → R i v → Qy (.int v) H4) → g x (wipe σ vs) H' fun σ2 H2 => wipe σ2 vs = wipe σ vs ∧ te σ2 H2 Qy)
    (hd : ∀ H (xs : List Int), SameBut m H1 H → MOk H m c (q + w * n) → H D = some (.lst (xs.map V.int)) → xs.length = n → (∀ (i : Nat) (x : Int), xs[i]? = some x → R i x) → Qd H) :
    ∃ W : Nat → Nat → Hp → Prop, (∃ m, W 0 m (upd H1 D (.lst []))) ∧ ∀ i m H, W i m H →
      (J.stop i H ∧ Qd H) ∨ (J.go i H ∧ ∃ Nx : Hp → Prop, (∀ H', Nx H' → ∃ m', m' < m ∧ W (i + 1) m' H') ∧ ∀ x H', J.yld i H x H' → g x (wipe σ vs) H' fun σ2 H2 => wipe σ2 vs = wipe σ vs ∧ tYes σ2 H2 fun b H3 =>
        if b = true then te σ2 H3 fun y H4 => ∃ acc, H4 D = some (.lst acc) ∧ acc.length < sizeLine ∧ Nx (upd H4 D (.lst (acc ++ [y]))) else Nx H3) := by
  obtain ⟨kvs, hm⟩ := hM.m_some
  obtain ⟨ys, hc⟩ := hM.c_some
  have dm : D ≠ m := Ne.symm (ne_of_none hm nD)
  have dc : D ≠ c := Ne.symm (ne_of_none hc nD)
  refine lc_it wk (tt := tYes) (fun i H => ∃ xs : List Int, SameBut m H1 H ∧ MOk H m c (q + w * i) ∧ H D = some (.lst (xs.map V.int)) ∧ xs.length = i ∧ ∀ (j : Nat) (x : Int), xs[j]? = some x → R j x) ⟨[], SameBut.of (same_new nD), hM.put dm dc, upd_same, rfl, fun j x hx => by cases hx⟩ (fun i H _ p => by obtain ⟨_, s, _⟩ := p; exact hG H s) ?_ ?_
  · rintro i x H H' hi ⟨xs, sb, M, d, l, bd⟩ hY
    refine hs i x H H' (fun y H4 => ∃ acc, H4 D = some (.lst acc) ∧ acc.length < sizeLine ∧ ∃ xs : List Int, SameBut m H1 (upd H4 D (.lst (acc ++ [y]))) ∧ MOk (upd H4 D (.lst (acc ++ [y]))) m c (q + w * (i + 1)) ∧ upd H4 D (.lst (acc ++ [y])) D = some (.lst (xs.map V.int)) ∧ xs.length = i + 1 ∧ ∀ (j : Nat) (x : Int), xs[j]? = some x → R j x) hi sb M hY fun H4 v b4 M4 v0 => ?_
    refine ⟨xs.map V.int, b4 _ _ dm d, by rw [List.length_map]; omega, xs ++ [v], sb_put nD (sb.trans b4), (M4.put dm dc).mono (by rw [Nat.mul_succ]; omega), ?_, by rw [List.length_append, l]; rfl, fun j x hx => ?_⟩
    · rw [upd_same, List.map_append]
      rfl
    · by_cases hj : j < xs.length
      · rw [List.getElem?_append_left hj] at hx
        exact bd j x hx
      · have hj2 := (List.getElem?_eq_some_iff.mp hx).1
        rw [List.length_append] at hj2
        have hj3 : j = xs.length := by
          simp only [List.length_cons, List.length_nil] at hj2
          omega
        subst hj3
        rw [List.getElem?_append_right (Nat.le_refl _), Nat.sub_self] at hx
        obtain rfl := Option.some.inj hx
        rw [l]
        exact v0
  · rintro H ⟨xs, sb, M, d, l, bd⟩
    exact hd H xs sb M d l bd
/-- rows of n small numbers -/
def RwS (H : Hp) (ps : List Addr) (B : List (List Int)) (n : Nat) : Prop := Rws H ps B n ∧ ∀ r ∈ B, ∀ x ∈ r, SmZ 68 x
theorem ix_of {n : Nat} {k : Int} {j : Nat} (h : k = j) (l : j < n) : ixN n k = some j := by
  unfold ixN
  rw [if_pos (by omega), if_pos (by omega), h, Int.toNat_natCast]
theorem rws_put {H : Hp} {D : Addr} {l : List V} {o : HO} {ps : List Addr} {B : List (List Int)} {n : Nat} (h : Rws H ps B n) (d : H D = some (.lst l)) : Rws (upd H D o) ps B n := ⟨h.1, fun i p r e1 e2 => ⟨⟨tp_put (h.2 i p r e1 e2).1.1 d, (h.2 i p r e1 e2).1.2⟩, (h.2 i p r e1 e2).2⟩⟩
theorem rwS_set0 {H : Hp} {p : Addr} {ps : List Addr} {B : List (List Int)} {n : Nat} {r : List Int} (h : RwS H ps B n) (hp : Row H p r) (lr : r.length = n) (zr : ∀ x ∈ r, SmZ 68 x) (j : Nat) : RwS H (ps.set j p) (B.set j r) n := by
  refine ⟨⟨by rw [List.length_set, List.length_set]; exact h.1.1, fun i q x e1 e2 => ?_⟩, fun x hx => ?_⟩
  · by_cases e : j = i
    · subst e
      have il : j < ps.length := by
        have := (List.getElem?_eq_some_iff.mp e1).1
        rwa [List.length_set] at this
      rw [List.getElem?_set_self il] at e1
      rw [List.getElem?_set_self (by rw [← h.1.1]; exact il)] at e2
      obtain rfl := Option.some.inj e1
      obtain rfl := Option.some.inj e2
      exact ⟨hp, lr⟩
    · rw [List.getElem?_set_ne e] at e1 e2
      exact h.1.2 i q x e1 e2
  · rcases List.mem_or_eq_of_mem_set hx with m | rfl
    · exact h.2 x m
    · exact zr
theorem RwS.same {H H' : Hp} {ps : List Addr} {B : List (List Int)} {n : Nat} (h : RwS H ps B n) (s : Same H H') : RwS H' ps B n := ⟨h.1.same s, h.2⟩
theorem rwS_set {H : Hp} {D p : Addr} {l : List V} {o : HO} {ps : List Addr} {B : List (List Int)} {n : Nat} {r : List Int} (h : RwS H ps B n) (d : H D = some (.lst l)) (hp : Row H p r) (lr : r.length = n) (zr : ∀ x ∈ r, SmZ 68 x) (j : Nat) : RwS (upd H D o) (ps.set j p) (B.set j r) n := ⟨rws_put (rwS_set0 h hp lr zr j).1 d, (rwS_set0 h hp lr zr j).2⟩
theorem RwS.put {H : Hp} {D : Addr} {l : List V} {o : HO} {ps : List Addr} {B : List (List Int)} {n : Nat} (h : RwS H ps B n) (d : H D = some (.lst l)) : RwS (upd H D o) ps B n := ⟨rws_put h.1 d, h.2⟩
theorem c_ne {H : Hp} {m c R : Addr} {n : Nat} {ps : List Addr} (M : MOk H m c n) (g : H R = some (.lst (ps.map V.ref))) : R ≠ c := by
  obtain ⟨L, sd, sp, cells, h1, h2, h3, _⟩ := M
  rintro rfl
  rw [h2] at g
  have e := HO.lst.inj (Option.some.inj g)
  cases cells with
  | nil => cases h3
  | cons x l =>
    cases ps with
    | nil => cases e
    | cons y l' =>
      have := (List.cons.inj e).1
      cases this
def spSignedB : Sp := fun vs H Q _ => ∃ (m c : Addr) (q : Nat) (b : Int), vs = [.ref m, .int b] ∧ MOk H m c q ∧ q ≤ 50000 ∧ 0 ≤ b ∧ b ≤ 1000000000 ∧ ∀ H' v, SameBut m H H' → MOk H' m c (q + 2) → -b ≤ v → v ≤ b → Q (.int v) H'
def spTable : Sp := fun vs H Q _ => ∃ (m c : Addr) (q n : Nat), vs = [.ref m, .int n] ∧ MOk H m c q ∧ q ≤ 4000 ∧ n ≤ 5 ∧ ∀ H' r B, SameBut m H H' → MOk H' m c (q + 80) → TabR H' r B n → B.length = n → (∀ r ∈ B, ∀ x ∈ r, SmZ 68 x) → Q (.ref r) H'
section
variable {P : Program} {w : World} {K : PySem.W.Frag} {mg : Str → Option Value} {base : Heap}
theorem ok_signedB {f : Addr} {fd : FuncData} (F : Fun K "_law_signed" "_law_signed" s_signed f fd) (C__law_draw : Cal P w K mg base 1 "_law_draw" ["m", "bound"] spDraw) : FnOk P w K mg base CX0 2 f fd ["m", "most"] spSignedB := by
  have sc := sc_signed
  refine F.ok sc (fun vs H Q E h => ?_) (fun cdv A outer s H vs Q E hr h => ?_)
  · obtain ⟨m, c, q, b, rfl, _⟩ := h
    rfl
  · obtain ⟨m, c, q, b, rfl, hM, hq, b0, b1, k⟩ := h
    refine ⟨_, (pss_cons (ps_set (i := 2) sc.nd rfl (Or.inl rfl) (call_ C__law_draw (hr.mono (by decide)) (by rfl) (pa_cons (pv 0) (pa_cons (pe_op op_add (pv 1) pe_int) pa_nil))))
    (pss_one (ps_ret (pe_ifExp (pt_cmpR op_eq (call_ C__law_draw (hr.mono (by decide)) (by rfl) (pa_cons (pv 0) (pa_cons pe_int pa_nil))) pe_int (nomark _)) (pv 2) (pe_un un_neg (pv 2)))))), ?_⟩
    have lim : ∀ z : Int, 0 ≤ z → z ≤ 100000000000000 → z.natAbs < 2 ^ 200 := fun z h0 h1 => Nat.lt_of_le_of_lt (show z.natAbs ≤ 100000000000000 by omega) (by decide)
    refine ⟨.ref m, rfl, .int b, rfl, b, 1, rfl, rfl, m, c, q, b + 1, rfl, hM, by omega, by omega, lim _ (by omega) (by omega), fun H1 v s1 M1 v0 v1 => ?_⟩
    refine ⟨.ref m, rfl, m, c, q + 1, 2, rfl, M1, by omega, by decide, by decide, fun H2 u s2 M2 u0 u1 => ?_⟩
    have s12 := s1.trans s2
    have M3 := M2.mono (show q + 1 + 1 ≤ q + 2 by omega)
    refine ⟨rfl, _, rfl, ite2 (fun _ => ?_) (fun _ => ?_)⟩
    · exact ⟨_, rfl, k H2 _ s12 M3 (by omega) (by omega)⟩
    · exact ⟨_, rfl, v, rfl, k H2 _ s12 M3 (by omega) (by omega)⟩
theorem ok_table {f : Addr} {fd : FuncData} (F : Fun K "_law_table" "_law_table" s_table f fd) (C__law_draw : Cal P w K mg base 1 "_law_draw" ["m", "bound"] spDraw) (C__law_signed : Cal P w K mg base 2 "_law_signed" ["m", "most"] spSignedB) (m_tuple : mg "tuple" = none) (m_range : mg "range" = none) : FnOk P w K mg base CX0 3 f fd ["m", "size_so"] spTable := by
  have sc := sc_table
  refine F.ok sc (fun vs H Q E h => ?_) (fun cdv A outer s H vs Q E hr h => ?_)
  · obtain ⟨m, c, q, n, rfl, _⟩ := h
    rfl
  · obtain ⟨m, c, q, n, rfl, hM, hq, hn, k⟩ := h
    refine ⟨_, (pss_cons (ps_asg (pe_tup (pa_cons (call_ C__law_draw (hr.mono (by decide)) (by rfl) (pa_cons (pv 0) (pa_cons pe_int pa_nil))) (pa_cons (pe_lst pa_nil) pa_nil))) (pg_tup (n := 2) (by rfl) (pgs_cons (pg_name (i := 3) sc.nd rfl (Or.inr rfl)) (pgs_cons (pg_name (i := 4) sc.nd rfl (Or.inr rfl)) pgs_nil))))
    (pss_cons (ps_for PassesOwn.never rfl (pi_range1 rfl m_range (pa_cons (pv 1) pa_nil)) (pg_name (i := 2) sc.nd rfl (Or.inl rfl))
      (pss_cons (ps_setLc (i := 5) (own := [("j", 9)]) (g := gName 9) (by rfl) sc.nd rfl rfl (sw_true rfl rfl rfl (by decide +kernel)) (pi_range1 rfl m_range (pa_cons (pv 1) pa_nil)) (blkOk_by (own := [("j", 9)]) (N := ["m", "size_so", "i", "word", "rows", "row", "made", "first", "second", "j", "x"]) (sc := defScope s_table) (by decide +kernel)) (fun _ _ _ _ _ => pg_name (i := 9) sc.nd rfl (Or.inl rfl)) (fun _ _ _ _ _ => pts_nil) (fun _ _ _ _ _ => (call_ C__law_signed (hr.mono (by decide)) (by rfl) (pa_cons (pv 0) (pa_cons (pe_ifExp (pt_cmpR op_gt (pv 3) pe_int (nomark _)) pe_int (pe_op op_pow pe_int pe_int)) pa_nil)))))
    (pss_one (ps_expr (pe_bm PySem.F.plainAttrs_list PySem.F.slot_list_append PySem.F.type_list_append mt_append (pv 4) (pa_cons (pe_callTy call_tuple_of (by rfl) m_tuple (by decide +kernel) (pa_cons (pe_ifExp (pt_cmpR op_eq (pv 3) pe_int (nomark _)) (pe_lc (own := [("x", 10)]) (g := gName 10) (by rfl) sc.nd (pi_list (pv 5)) (blkOk_by (own := [("x", 10)]) (N := ["m", "size_so", "i", "word", "rows", "row", "made", "first", "second", "j", "x"]) (sc := defScope s_table) (by decide +kernel)) (fun _ _ _ _ _ => pg_name (i := 10) sc.nd rfl (Or.inl rfl)) (fun _ _ _ _ _ => pts_nil) (fun _ _ _ _ _ => (pe_op op_add (pe_op op_mulW (pv 10) (pe_op op_pow pe_int pe_int)) pe_int))) (pv 5)) pa_nil)) pa_nil))))))
    (pss_cons (ps_if (PW.pt (pw_and (pt_cmpR op_eq (pv 3) pe_int (nomark _)) (pw_and1 (pt_cmpR op_gt (pv 1) pe_int (nomark _)))))
      (pss_cons (ps_asg (pe_tup (pa_cons (call_ C__law_signed (hr.mono (by decide)) (by rfl) (pa_cons (pv 0) (pa_cons pe_int pa_nil))) (pa_cons (call_ C__law_signed (hr.mono (by decide)) (by rfl) (pa_cons (pv 0) (pa_cons pe_int pa_nil))) pa_nil))) (pg_tup (n := 2) (by rfl) (pgs_cons (pg_name (i := 7) sc.nd rfl (Or.inr rfl)) (pgs_cons (pg_name (i := 8) sc.nd rfl (Or.inr rfl)) pgs_nil))))
    (pss_cons (ps_setLc (i := 6) (own := [("j", 9)]) (g := gName 9) (by rfl) sc.nd rfl rfl (sw_true rfl rfl rfl (by decide +kernel)) (pi_range1 rfl m_range (pa_cons (pv 1) pa_nil)) (blkOk_by (own := [("j", 9)]) (N := ["m", "size_so", "i", "word", "rows", "row", "made", "first", "second", "j", "x"]) (sc := defScope s_table) (by decide +kernel)) (fun _ _ _ _ _ => pg_name (i := 9) sc.nd rfl (Or.inl rfl)) (fun _ _ _ _ _ => pts_nil) (fun _ _ _ _ _ => (pe_op op_add (pe_op op_mulW (pv 7) (pe_ix (ix_tupK (K := K) rfl) (pe_ix (ix_listK (K := K) rfl) (pv 4) pe_int (fun _ _ => rfl)) (pv 9) (fun _ _ => rfl))) (pe_op op_mulW (pv 8) (pe_ix (ix_tupK (K := K) rfl) (pe_ix (ix_listK (K := K) rfl) (pv 4) (pe_op op_sub (pv 1) pe_int) (fun _ _ => rfl)) (pv 9) (fun _ _ => rfl))))))
    (pss_one (ps_asg (pe_callTy call_tuple_of (by rfl) m_tuple (by decide +kernel) (pa_cons (pv 6) pa_nil)) (pg_sub (pv 4) (pe_op op_sub (pv 1) pe_int) set_list)))))
      pss_nil)
    (pss_one (ps_ret (pe_callTy call_tuple_of (by rfl) m_tuple (by decide +kernel) (pa_cons (pv 4) pa_nil))))))), ?_⟩
    refine ⟨.ref m, rfl, m, c, q, 6, rfl, hM, by omega, by decide, by decide, fun H1 wv b1 M1 w0 w1 => ?_⟩
    refine ⟨by show 0 ≤ sizeLine; decide, fun R nR => ?_⟩
    obtain ⟨kv1, hm1⟩ := M1.m_some
    have rm : R ≠ m := Ne.symm (ne_of_none hm1 nR)
    have nR0 : H R = none := by
      cases h : H R with
      | none => rfl
      | some o => exact absurd (b1 R o rm h) (by rw [nR]; intro z; cases z)
    have s2 : Same H1 (upd H1 R (.lst [])) := same_new nR
    have g2 : upd H1 R (.lst []) R = some (.lst (([] : List Addr).map V.ref)) := upd_same
    generalize upd H1 R (.lst []) = H2 at s2 g2 ⊢
    refine ⟨by show 2 ≤ sizeLine; decide, fun T0 nT0 => ?_⟩
    have s3 : Same H2 (upd H2 T0 (.tup [.int wv, .ref R])) := same_new nT0
    have g3 : Tp (upd H2 T0 (.tup [.int wv, .ref R])) T0 [.int wv, .ref R] := upd_same
    generalize upd H2 T0 (.tup [.int wv, .ref R]) = H3 at s3 g3 ⊢
    refine ⟨T0, _, rfl, g3.t, rfl, .int wv, [.ref R], rfl, .ref R, [], rfl, rfl, ?_⟩
    have g2 := s3 _ _ g2
    refine ⟨.int n, rfl, (n : Int), rfl, by omega, by omega, ?_⟩
    rw [Int.toNat_natCast]
    refine for_range (lo := 0) (n := n) (fun i σ H' => ∃ ps B, (∃ y2 y5 y6 y7 y8 y9 y10, σ = [some (.ref m), some (.int n), y2, some (.int wv), some (.ref R), y5, y6, y7, y8, y9, y10]) ∧ SameBut m H H' ∧ MOk H' m c (q + 1 + 10 * i) ∧ H' R = some (.lst ((ps : List Addr).map V.ref)) ∧ Rws H' ps B n ∧ (∀ r ∈ B, ∀ x ∈ r, SmZ 68 x ∧ (wv ≠ 0 → SmZ 5 x)) ∧ ps.length = i) ⟨[], [], ⟨none, none, none, none, none, none, none, rfl⟩, b1.trans (SameBut.of (s2.trans s3)), (M1.same s2).same s3, g2, ⟨rfl, fun i p r e1 e2 => by cases e1⟩, (fun r hr => by cases hr), rfl⟩ ?_ ?_
    · rintro i σ H4 hi ⟨ps, B, ⟨y2, y5, y6, y7, y8, y9, y10, rfl⟩, b4, M4, g4, W4, z4, l4⟩
      refine ⟨.int n, rfl, (n : Int), rfl, by omega, by omega, fun D nD => ?_⟩
      rw [Int.toNat_natCast]
      obtain ⟨kv4, hm4⟩ := M4.m_some
      refine lc_dr (w := 2) (q := q + 1 + 10 * i) (m := m) (c := c) (fun _ x => -1000000000 ≤ x ∧ x ≤ 1000000000 ∧ (wv ≠ 0 → -9 ≤ x ∧ x ≤ 9)) (small (by omega)) M4 nD ?_ ?_
      · intro j H5 Qy hj _ M' hQ
        have e9 : (10 : Int) ^ (9 : Int).toNat = 1000000000 := by decide
        refine ⟨rfl, .ref m, rfl, .int wv, rfl, wv, 0, rfl, rfl, _, rfl, ?_⟩
        refine tif_both (fun v => ∃ b : Int, v = .int b ∧ 0 ≤ b ∧ b ≤ 1000000000 ∧ (wv ≠ 0 → b = 9)) (fun v hv => ?_) (fun _ hq => hq _ ⟨9, rfl, by decide, by decide, fun _ => rfl⟩) (fun c hq => ⟨10, 9, rfl, rfl, ⟨by decide, by decide, by decide⟩, hq _ ⟨_, rfl, by decide, by decide, fun z => absurd (of_decide_eq_false c) (by omega)⟩⟩)
        obtain ⟨b, rfl, b0, b9, bw⟩ := hv
        exact ⟨m, c, q + 1 + 10 * i + 2 * j, b, rfl, M', by omega, b0, b9, fun H5 v b5 M5 v0 v1 => hQ H5 _ b5 M5 ⟨by omega, by omega, fun z => by have := bw z; omega⟩⟩
      intro H5 xs b5 M5 d5 l5 bd
      have bd := all_of_get bd
      have nDR : D ≠ R := Ne.symm (ne_of_none g4 nD)
      have nDm : D ≠ m := Ne.symm (ne_of_none hm4 nD)
      have g5 := b5 _ _ rm g4
      have W5 := W4.but hm4 b5
      have z9 : ∀ x ∈ xs, SmZ 30 x := fun x hx => by
        have := bd x hx
        exact Nat.lt_of_le_of_lt (show x.natAbs ≤ 1000000000 by omega) (by decide)
      have z5 : wv ≠ 0 → ∀ x ∈ xs, SmZ 5 x := fun z x hx => by
        have := (bd x hx).2.2 z
        exact Nat.lt_of_le_of_lt (show x.natAbs ≤ 9 by omega) (by decide)
      refine ⟨.ref R, rfl, .inl ⟨rfl, _, SqL.of g5⟩, .int wv, rfl, rfl, _, rfl, ?_⟩
      refine tif_bothH (fun v H' => ∃ L zs, v = .ref L ∧ Same H5 H' ∧ H' L = some (.lst ((zs : List Int).map V.int)) ∧ zs.length = n ∧ ∀ x ∈ zs, SmZ 68 x ∧ (wv ≠ 0 → SmZ 5 x)) (fun v H6 hv => ?_) (fun cw hq => ?_) (fun _ hq => ⟨.ref D, rfl, hq _ _ ⟨D, xs, rfl, Same.refl _, d5, l5, fun x hx => ⟨smz_mono (z9 x hx) (by decide), fun z => z5 z x hx⟩⟩⟩)
      · obtain ⟨L, zs, rfl, s6, d6, l6, z6⟩ := hv
        refine ⟨L, _, rfl, .inl ⟨SqL.of d6, fun T nT => ?_⟩⟩
        have s7 : Same H6 (upd H6 T (.tup (zs.map V.int))) := same_new nT
        have g7 : Tp (upd H6 T (.tup (zs.map V.int))) T (zs.map V.int) := upd_same
        generalize upd H6 T (.tup (zs.map V.int)) = H7 at s7 g7 ⊢
        have s57 := s6.trans s7
        have gR := s57 _ _ g5
        have W7 := W5.same s57
        have lB : B.length = i := by rw [← W4.1, l4]
        have Rz : Row H7 T zs := ⟨g7, by omega, fun x hx => smz_mono (z6 x hx).1 (by decide)⟩
        have M7 := M5.same s57
        refine ⟨R, _, _, rfl, rfl, gR, by rw [List.length_map, l4]; exact small (by omega), ps ++ [T], B ++ [zs], ⟨_, _, _, _, _, _, _, rfl⟩, sb_put nR0 ((b4.trans b5).trans (SameBut.of s57)), (M7.put rm (c_ne M7 gR)).mono (by omega), by rw [upd_same, List.map_append]; rfl, rws_put (W7.snoc Rz l6) gR, fun r hr => ?_, by rw [List.length_append, l4]; rfl⟩
        rcases List.mem_append.mp hr with h | h
        · exact z4 r h
        · obtain rfl := List.mem_singleton.mp h
          exact z6
      · refine ⟨.ref D, rfl, D, rfl, ⟨_, SqL.of d5⟩, fun D2 nD2 => ?_⟩
        have e11 : SmZ 37 ((10 : Int) ^ (11 : Int).toNat) := by decide
        refine lc_to (walk_list (K := K) (a := D) (xs := xs.map V.int)) ((xs.map fun x => x * (10 : Int) ^ (11 : Int).toNat + 1).map V.int) (by rw [List.length_map, List.length_map, List.length_map]) (by rw [List.length_map]; exact small (by omega)) nD2 (fun H' s => SqL.of (s _ _ d5)) ?_ ?_
        · rintro j x u H6 H6' Qy hu hj s6 ⟨rfl, hx⟩ hq
          obtain ⟨v, hv, rfl⟩ := map_get hu
          obtain ⟨v1, hv1, rfl⟩ := map_get hv
          obtain ⟨v2, hv2, rfl⟩ := map_get hx
          obtain rfl := Option.some.inj (hv1.symm.trans hv2)
          exact ⟨rfl, .int v1, rfl, 10, 11, rfl, rfl, ⟨by decide, by decide, by decide⟩, v1, _, rfl, rfl, mulB (by decide) (by decide) (z9 v1 (List.mem_of_getElem? hv1)) e11 (by decide), _, 1, rfl, rfl, hq _ (Same.refl _)⟩
        · intro H6 s6 d6
          refine hq _ _ ⟨D2, _, rfl, s6, d6, by rw [List.length_map, l5], fun x hx => ?_⟩
          obtain ⟨y, hy, rfl⟩ := List.mem_map.mp hx
          exact ⟨smz_mono (smz_add (smz_mul (z9 y hy) e11) (show SmZ 67 1 by decide)) (by decide), fun z => absurd (V.int.inj (of_decide_eq_true cw)) z⟩
    · rintro σ H4 ⟨ps, B, ⟨y2, y5, y6, y7, y8, y9, y10, rfl⟩, b4, M4, g4, W4, z4, l4⟩
      dsimp only
      refine seq_ ?_
      refine tifs_rest (fun σ' H' => ∃ ps B y2 y5 y6 y7 y8 y9 y10, σ' = [some (.ref m), some (.int n), y2, some (.int wv), some (.ref R), y5, y6, y7, y8, y9, y10] ∧ SameBut m H H' ∧ MOk H' m c (q + 80) ∧ H' R = some (.lst ((ps : List Addr).map V.ref)) ∧ RwS H' ps B n ∧ ps.length = n) ?_ ?_
      rotate_left
      · intro rest
        have W0 : RwS H4 ps B n := ⟨W4, fun r hr x hx => (z4 r hr x hx).1⟩
        refine ⟨.int wv, rfl, rfl, _, rfl, ite2 (fun hw => ?_) (fun h => rest _ _ ⟨ps, B, y2, y5, y6, y7, y8, y9, y10, rfl, b4, M4.mono (by omega), g4, W0, l4⟩)⟩
        refine ⟨.int n, rfl, n, 1, rfl, rfl, _, rfl, ite2 (fun h => ?_) (fun h => rest _ _ ⟨ps, B, y2, y5, y6, y7, y8, y9, y10, rfl, b4, M4.mono (by omega), g4, W0, l4⟩)⟩
        have h := of_decide_eq_true h
        have hw : wv ≠ 0 := by have := V.int.inj (of_decide_eq_true hw); omega
        refine ⟨.ref m, rfl, m, c, _, 3, rfl, M4, by omega, by decide, by decide, fun H5 fv b5 M5 f0 f1 => ?_⟩
        refine ⟨.ref m, rfl, m, c, _, 3, rfl, M5, by omega, by decide, by decide, fun H6 sv b6 M6 v0 v1 => ?_⟩
        refine ⟨by show 2 ≤ sizeLine; decide, fun T nT => ?_⟩
        have s7 : Same H6 (upd H6 T (.tup [.int fv, .int sv])) := same_new nT
        have g7 : Tp (upd H6 T (.tup [.int fv, .int sv])) T [.int fv, .int sv] := upd_same
        generalize upd H6 T (.tup [.int fv, .int sv]) = H7 at s7 g7 ⊢
        refine ⟨T, _, rfl, g7.t, rfl, .int fv, [.int sv], rfl, .int sv, [], rfl, rfl, ?_⟩
        obtain ⟨kv4, hm4⟩ := M4.m_some
        have b46 := (b5.trans b6).trans (SameBut.of s7)
        have W7 : RwS H7 ps B n := ⟨W4.but hm4 b46, W0.2⟩
        have gR := b46 _ _ rm g4
        have M7 := M6.same s7
        have zf : SmZ 3 fv := Nat.lt_of_le_of_lt (show fv.natAbs ≤ 3 by omega) (by decide)
        have zv : SmZ 3 sv := Nat.lt_of_le_of_lt (show sv.natAbs ≤ 3 by omega) (by decide)
        have rowN : ∀ x, x < n → ∃ p b, ps[x]? = some p ∧ B[x]? = some b ∧ Row H7 p b ∧ b.length = n ∧ ∀ y ∈ b, SmZ 5 y := fun x hx => by
          have h1 : ps[x]? = some (ps[x]'(by omega)) := List.getElem?_eq_getElem _
          have h2 : B[x]? = some (B[x]'(by have := W4.1; omega)) := List.getElem?_eq_getElem _
          obtain ⟨r1, r2⟩ := W7.1.2 x _ _ h1 h2
          exact ⟨_, _, h1, h2, r1, r2, fun y hy => (z4 _ (List.mem_of_getElem? h2) y hy).2 hw⟩
        obtain ⟨p0, c0, hp0, hb0, R0, l0, z0⟩ := rowN 0 (by omega)
        obtain ⟨p1, c1, hp1, hb1, R1, l1, z1⟩ := rowN (n - 2) (by omega)
        refine ⟨.int n, rfl, (n : Int), rfl, by omega, by omega, fun D nD => ?_⟩
        rw [Int.toNat_natCast]
        refine lc_to (walk_range (lo := 0) (n := n)) (((List.range n).map fun j => fv * c0.getD j 0 + sv * c1.getD j 0).map V.int) (by rw [List.length_map, List.length_map, List.length_range]) (small (by omega)) nD (fun H' s => True.intro) ?_ ?_
        · rintro j x u H8 H8' Qy hu hj s8 ⟨rfl, rfl⟩ hq
          obtain ⟨v, hv, rfl⟩ := map_get hu
          rw [List.getElem?_map, List.getElem?_range hj] at hv
          obtain rfl := Option.some.inj hv
          have ej : (0 + (j : Int)) = ((j : Nat) : Int) := by omega
          have g0 := Vk.getD_at (xs := c0) (i := j) (by omega)
          have g1 := Vk.getD_at (xs := c1) (i := j) (by omega)
          exact ⟨rfl, .int fv, rfl, .ref R, rfl, R, _, 0, .ref p0, rfl, rfl, SqL.of (s8 _ _ gR), atI_nat (j := 0) (get_map hp0), .int (0 + j), rfl, p0, _, 0 + j, .int (c0.getD j 0), rfl, rfl, (R0.same s8).1.t, atI_at ej (get_map g0), fv, _, rfl, rfl, mulB (by decide) (by decide) zf (z0 _ (List.mem_of_getElem? g0)) (by decide), .int sv, rfl, .ref R, rfl, .int n, rfl, n, 2, rfl, rfl, R, _, (n : Int) - 2, .ref p1, rfl, rfl, SqL.of (s8 _ _ gR), atI_at (i := n - 2) (by omega) (get_map hp1), .int (0 + j), rfl, p1, _, 0 + j, .int (c1.getD j 0), rfl, rfl, (R1.same s8).1.t, atI_at ej (get_map g1), sv, _, rfl, rfl, mulB (by decide) (by decide) zv (z1 _ (List.mem_of_getElem? g1)) (by decide), _, _, rfl, rfl, hq _ (Same.refl _)⟩
        intro H8 s8 d8
        refine ⟨.ref D, rfl, D, _, rfl, .inl ⟨SqL.of d8, fun T2 nT2 => ?_⟩⟩
        have s9 : Same H8 (upd H8 T2 (.tup (((List.range n).map fun j => fv * c0.getD j 0 + sv * c1.getD j 0).map V.int))) := same_new nT2
        have g9 : Tp (upd H8 T2 (.tup (((List.range n).map fun j => fv * c0.getD j 0 + sv * c1.getD j 0).map V.int))) T2 (((List.range n).map fun j => fv * c0.getD j 0 + sv * c1.getD j 0).map V.int) := upd_same
        generalize upd H8 T2 (.tup (((List.range n).map fun j => fv * c0.getD j 0 + sv * c1.getD j 0).map V.int)) = H9 at s9 g9 ⊢
        have s79 := s8.trans s9
        have zm : ∀ x ∈ (List.range n).map fun j => fv * c0.getD j 0 + sv * c1.getD j 0, SmZ 68 x := fun x hx => by
          obtain ⟨j, hj, rfl⟩ := List.mem_map.mp hx
          have hj := List.mem_range.mp hj
          exact smz_mono (smz_add (smz_mul zf (z0 _ (List.mem_of_getElem? (Vk.getD_at (by omega))))) (smz_mul zv (z1 _ (List.mem_of_getElem? (Vk.getD_at (by omega)))))) (by decide)
        have gR9 := s79 _ _ gR
        have M9 := M7.same s79
        refine ⟨.ref R, rfl, .int n, rfl, n, 1, rfl, rfl, R, _, (n : Int) - 1, n - 1, rfl, rfl, gR9, ix_of (by omega) (by rw [List.length_map]; omega), rest _ _ ⟨ps.set (n - 1) T2, B.set (n - 1) _, _, _, _, _, _, _, _, rfl, sb_put nR0 ((b4.trans b46).trans (SameBut.of s79)), (M9.put rm (c_ne M9 gR9)).mono (by omega), by rw [upd_same, List.map_set], rwS_set (W7.same s79) gR9 ⟨g9, by rw [List.length_map, List.length_range]; omega, fun x hx => smz_mono (zm x hx) (by decide)⟩ (by rw [List.length_map, List.length_range]) zm _, by rw [List.length_set]; exact l4⟩⟩
      · rintro σ' H5 ⟨ps, B, y2, y5, y6, y7, y8, y9, y10, rfl, b5, M5, g5, W5, l5⟩
        refine ⟨.ref R, rfl, R, _, rfl, .inl ⟨SqL.of g5, fun T nT => ?_⟩⟩
        have s6 := same_new (o := .tup (ps.map V.ref)) nT
        exact k _ T B (b5.trans (SameBut.of s6)) (M5.same s6) ⟨ps, upd_same, W5.1.same s6⟩ (by rw [← W5.1.1, l5]) W5.2
end
end K10
namespace K10
open PySem PySem.Spec PyProof.Rows L2 Vk Vd
open K08 (prt low prt_ne prt_abs)
abbrev s_ladj : Stmt := topS 32
theorem sc_ladj : FnScope ["table", "i", "size_so", "found", "line", "j", "rest", "row"] ["table"] (defScope s_ladj) := ⟨rfl, rfl, rfl, by decide +kernel, rfl, by decide +kernel, by decide +kernel⟩
theorem cof_sm {B : List (List Int)} (h5 : B.length ≤ 5) (z : ∀ r ∈ B, ∀ x ∈ r, SmZ 68 x) (i j : Nat) : SmZ 300 (cof (B.length - 1) (mL B) i j) := by
  unfold cof
  have h := det_abs (k := 68) (B.length - 1) (mn i j (mL B)) (by omega) fun r c => mL_smk z _ _
  unfold SmZ
  rw [Int.natAbs_mul, sg_abs, Nat.one_mul]
  refine Nat.lt_of_le_of_lt h (Nat.pow_lt_pow_right (by decide) ?_)
  have : (B.length - 1) * (68 + 4) ≤ 4 * 72 := Nat.mul_le_mul (by omega) (by omega)
  omega
theorem adjI_row {B : List (List Int)} (h5 : B.length ≤ 5) (z : ∀ r ∈ B, ∀ x ∈ r, SmZ 68 x) : ∀ r ∈ adjI B, r.length = B.length ∧ ∀ x ∈ r, SmZ 300 x := fun r hr => by
  unfold adjI at hr
  obtain ⟨i, _, rfl⟩ := List.mem_map.mp hr
  refine ⟨by rw [List.length_map, List.length_range], fun x hx => ?_⟩
  obtain ⟨j, _, rfl⟩ := List.mem_map.mp hx
  exact cof_sm h5 z j i
theorem adjI_len (B : List (List Int)) : (adjI B).length = B.length := by
  unfold adjI
  rw [List.length_map, List.length_range]
def spLadj : Sp := fun vs H Q _ => ∃ (a : Addr) (B : List (List Int)), vs = [.ref a] ∧ TabR H a B B.length ∧ B.length ≤ 5 ∧ (∀ r ∈ B, ∀ x ∈ r, SmZ 68 x) ∧ ∀ r H', Same H H' → TabR H' r (adjI B) B.length → Q (.ref r) H'
section
variable {P : Program} {w : World} {K : PySem.W.Frag} {mg : Str → Option Value} {base : Heap}
theorem ok_ladj {f : Addr} {fd : FuncData} (F : Fun K "_law_adjoint" "_law_adjoint" s_ladj f fd) (C__law_det : Cal P w K mg base 7 "_law_det" ["table"] (spLd 6)) (m_tuple : mg "tuple" = none) (m_range : mg "range" = none) (m_len : mg "len" = none) (m_int : mg "int" = none) : FnOk P w K mg base CX0 8 f fd ["table"] spLadj := by
  have sc := sc_ladj
  refine F.ok sc (fun vs H Q E h => ?_) (fun cdv A outer s H vs Q E hr h => ?_)
  · obtain ⟨a, B, rfl, _⟩ := h
    rfl
  · obtain ⟨a, B, rfl, hT, h5, zB, q⟩ := h
    refine ⟨_, (pss_cons (ps_par (i := 2) (j := 3) (by rfl) sc.nd rfl rfl (by decide) rfl rfl (pa_cons (pe_callB call_len_seq (by rfl) m_len (by decide +kernel) (pa_cons (pv 0) pa_nil)) (pa_cons (pe_lst pa_nil) pa_nil)) (by rfl))
    (pss_cons (ps_for PassesOwn.never rfl (pi_range1 rfl m_range (pa_cons (pv 2) pa_nil)) (pg_name (i := 1) sc.nd rfl (Or.inr rfl))
      (pss_cons (ps_set (i := 4) sc.nd rfl (Or.inl rfl) (pe_lst pa_nil))
    (pss_cons (ps_for PassesOwn.never rfl (pi_range1 rfl m_range (pa_cons (pv 2) pa_nil)) (pg_name (i := 5) sc.nd rfl (Or.inl rfl))
      (pss_cons (ps_setLc (i := 6) (own := [("row", 7)]) (g := gName 7) (by rfl) sc.nd rfl rfl (sw_true rfl rfl rfl (by decide +kernel)) (pi_tup (pe_op op_catA (pe_slice sl_tupA (pv 0) po_none (po_some (pv 5))) (pe_slice sl_tupA (pv 0) (po_some (pe_op op_add (pv 5) pe_int)) po_none))) (blkOk_by (own := [("row", 7)]) (N := ["table", "i", "size_so", "found", "line", "j", "rest", "row"]) (sc := defScope s_ladj) (by decide +kernel)) (fun _ _ _ _ _ => pg_name (i := 7) sc.nd rfl (Or.inl rfl)) (fun _ _ _ _ _ => pts_nil) (fun _ _ _ _ _ => (pe_op (op_catAK (K := K) rfl) (pe_slice (sl_tupAK (K := K) rfl) (pv 7) po_none (po_some (pv 1))) (pe_slice (sl_tupAK (K := K) rfl) (pv 7) (po_some (pe_op op_add (pv 1) pe_int)) po_none))))
    (pss_one (ps_expr (pe_bm PySem.F.plainAttrs_list PySem.F.slot_list_append PySem.F.type_list_append mt_append (pv 4) (pa_cons (pe_op op_mulW (call_ C__law_det (hr.mono (by decide)) (by rfl) (pa_cons (pe_callTy call_tuple_of (by rfl) m_tuple (by decide +kernel) (pa_cons (pv 6) pa_nil)) pa_nil)) (pe_ifExp (pt_cmpR op_eq (pe_op op_modN (pe_callTy call_int1 (by rfl) m_int (by decide +kernel) (pa_cons (pe_op op_add (pv 1) (pv 5)) pa_nil)) pe_int) pe_int (nomark _)) pe_int (pe_un un_neg pe_int))) pa_nil))))))
    (pss_one (ps_expr (pe_bm PySem.F.plainAttrs_list PySem.F.slot_list_append PySem.F.type_list_append mt_append (pv 3) (pa_cons (pe_callTy call_tuple_of (by rfl) m_tuple (by decide +kernel) (pa_cons (pv 4) pa_nil)) pa_nil)))))))
    (pss_one (ps_ret (pe_callTy call_tuple_of (by rfl) m_tuple (by decide +kernel) (pa_cons (pv 3) pa_nil)))))), ?_⟩
    have wid := hT.w
    obtain ⟨ps, ha, hR⟩ := id hT
    have lp : ps.length = B.length := hR.1
    obtain ⟨n, hn⟩ : ∃ n, n = B.length := ⟨_, rfl⟩
    refine ⟨.ref a, rfl, a, _, rfl, .inr ha.t, ?_⟩
    rw [List.length_map, lp, ← hn]
    refine ⟨by show 0 ≤ sizeLine; decide, fun R nR => ?_⟩
    have s1 : Same H (upd H R (.lst [])) := same_new nR
    have g1 : upd H R (.lst []) R = some (.lst (([] : List Addr).map V.ref)) := upd_same
    generalize upd H R (.lst []) = H1 at s1 g1 ⊢
    refine ⟨_, _, rfl, ?_⟩
    refine ⟨.int n, rfl, (n : Int), rfl, by omega, by omega, ?_⟩
    rw [Int.toNat_natCast]
    refine for_range (lo := 0) (n := n) (fun i σ H' => ∃ qs, (∃ y1 y4 y5 y6 y7, σ = [some (.ref a), y1, some (.int n), some (.ref R), y4, y5, y6, y7]) ∧ Same H H' ∧ H' R = some (.lst ((qs : List Addr).map V.ref)) ∧ Rw H' qs ((adjI B).take i)) ⟨[], ⟨none, none, none, none, none, rfl⟩, s1, g1, rfl, fun i p r e1 e2 => by cases e1⟩ ?_ ?_
    · rintro i σ H2 hi ⟨qs, ⟨y1, y4, y5, y6, y7, rfl⟩, s2, g2, W2⟩
      refine ⟨by show 0 ≤ sizeLine; decide, fun L nL => ?_⟩
      have s3 : Same H2 (upd H2 L (.lst [])) := same_new nL
      have g3 : upd H2 L (.lst []) L = some (.lst (([] : List Int).map V.int)) := upd_same
      have LR : L ≠ R := Ne.symm (ne_of_none g2 nL)
      have nLH : H L = none := s2.free nL
      generalize upd H2 L (.lst []) = H3 at s3 g3 ⊢
      have gR3 := s3 _ _ g2
      have W3 := W2.same s3
      have lq : qs.length = i := by
        rw [W2.1, List.length_take, adjI_len]
        omega
      refine ⟨.int n, rfl, (n : Int), rfl, by omega, by omega, ?_⟩
      rw [Int.toNat_natCast]
      refine for_range (lo := 0) (n := n) (fun j σ H' => (∃ y5 y6 y7, σ = [some (.ref a), some (.int (0 + i)), some (.int n), some (.ref R), some (.ref L), y5, y6, y7]) ∧ Same H2 H' ∧ H' R = some (.lst (qs.map V.ref)) ∧ Rw H' qs ((adjI B).take i) ∧ H' L = some (.lst (((List.range j).map fun j => cof (B.length - 1) (mL B) j i).map V.int))) ⟨⟨_, _, _, rfl⟩, s3, gR3, W3, g3⟩ ?_ ?_
      · rintro j σ H4 hj ⟨⟨y5, y6, y7, rfl⟩, s4, gR4, W4, gL4⟩
        have ei : (0 + (i : Int)) = ((i : Nat) : Int) := by omega
        have ej : (0 + (j : Int)) = ((j : Nat) : Int) := by omega
        have s04 := s2.trans s4
        have ll := less_len (B := B) (i := j) (j := i) (by omega)
        refine ⟨.ref a, rfl, .int (0 + j), rfl, 0 + j, rfl, ?_⟩
        refine slice_tp (ha.same s04) fun r5 H5 s5 g5 => ?_
        rw [ej, cut_to, ← List.map_take] at g5
        refine ⟨.ref a, rfl, .int (0 + j), rfl, 0 + j, 1, rfl, rfl, 0 + j + 1, rfl, ?_⟩
        unfold tNoPart
        dsimp only
        refine slice_tp ((ha.same s04).same s5) fun r6 H6 s6 g6 => ?_
        rw [show (0 + (j : Int) + 1) = ((j + 1 : Nat) : Int) by omega, cut_from, ← List.map_drop] at g6
        refine cat_tp (g5.same s6) g6 (by rw [List.length_map, List.length_map, List.length_take, List.length_drop]; exact Nat.le_of_lt (small (by omega))) fun P0 H7 s7 g7 => ?_
        rw [← List.map_append] at g7
        have s47 := (s5.trans s6).trans s7
        have s07 := s04.trans s47
        have lc : (ps.take j ++ ps.drop (j + 1)).length = B.length - 1 := by
          rw [List.length_append, List.length_take, List.length_drop]
          omega
        refine ⟨P0, rfl, ⟨_, g7.t⟩, fun D nD => ?_⟩
        refine lc_tps (walk_tup (K := K) (a := P0) (xs := (ps.take j ++ ps.drop (j + 1)).map V.ref)) (less B j i) (by rw [ll, List.length_map, lc]) (by rw [List.length_map, lc]; exact small (by omega)) nD (fun H' s => (g7.same s).t) ?_ ?_
        · rintro x v y H8 H8' Qy hy hx s8 ⟨rfl, hv⟩ hq
          obtain ⟨p, hp, rfl⟩ := map_get hv
          unfold less at hy
          obtain ⟨b, hb, rfl⟩ := map_get hy
          rw [← List.eraseIdx_eq_take_drop_succ] at hp hb
          obtain ⟨y', h1, h2⟩ : ∃ y' : Nat, ps[y']? = some p ∧ B[y']? = some b := by
            rcases Nat.lt_or_ge x j with l | l
            · rw [List.getElem?_eraseIdx_of_lt l] at hp hb
              exact ⟨x, hp, hb⟩
            · rw [List.getElem?_eraseIdx_of_ge l] at hp hb
              exact ⟨x + 1, hp, hb⟩
          obtain ⟨Rp, lb⟩ := hR.2 y' p b h1 h2
          have R8 := Rp.same (s07.trans s8)
          refine ⟨rfl, .ref p, rfl, .int (0 + i), rfl, 0 + i, rfl, ?_⟩
          refine slice_tp R8.1 fun t1 H9 s9 g9 => ?_
          rw [ei, cut_to, ← List.map_take] at g9
          refine ⟨.ref p, rfl, .int (0 + i), rfl, 0 + i, 1, rfl, rfl, 0 + i + 1, rfl, ?_⟩
          dsimp only
          refine slice_tp (R8.same s9).1 fun t2 H10 s10 g10 => ?_
          rw [show (0 + (i : Int) + 1) = ((i + 1 : Nat) : Int) by omega, cut_from, ← List.map_drop] at g10
          refine cat_tp (g9.same s10) g10 (by rw [List.length_map, List.length_map, List.length_take, List.length_drop]; exact Nat.le_of_lt (small (by omega))) fun t3 H11 s11 g11 => ?_
          rw [← List.map_append] at g11
          exact hq t3 H11 ((s9.trans s10).trans s11) g11
        intro H8 us s8 d8 W8
        refine ⟨.ref L, rfl, .inl ⟨rfl, _, SqL.of ((s47.trans s8) _ _ gL4)⟩, .ref D, rfl, D, _, rfl, .inl ⟨SqL.of d8, fun T nT => ?_⟩⟩
        have s9 : Same H8 (upd H8 T (.tup (us.map V.ref))) := same_new nT
        have g9 : Tp (upd H8 T (.tup (us.map V.ref))) T (us.map V.ref) := upd_same
        generalize upd H8 T (.tup (us.map V.ref)) = H9 at s9 g9 ⊢
        have lessr := less_row (i := j) (j := i) (by omega) wid
        refine ⟨T, less B j i, rfl, ⟨us, g9, (W8.same s9).1, fun x p r e1 e2 => ?_⟩, by rw [ll]; omega, fun H10 s10 => ?_⟩
        · obtain ⟨l, z⟩ := lessr r (List.mem_of_getElem? e2)
          exact ⟨⟨(W8.same s9).2 x p r e1 e2, by omega, z⟩, by rw [ll]; exact l⟩
        rw [less_det (by omega)]
        have s410 := ((s47.trans s8).trans s9).trans s10
        have gL10 := s410 _ _ gL4
        have z0 : SmZ 300 (det (B.length - 1) (mn j i (mL B))) := by
          have z := cof_sm h5 zB j i
          unfold cof SmZ at z
          rw [Int.natAbs_mul, sg_abs, Nat.one_mul] at z
          exact z
        have fin : ∀ v : Int, v = cof (B.length - 1) (mL B) j i → upd H10 L (.lst (((List.range j).map fun j => cof (B.length - 1) (mL B) j i).map V.int ++ [.int v])) L = some (.lst (((List.range (j + 1)).map fun j => cof (B.length - 1) (mL B) j i).map V.int)) := fun v e => by
          rw [upd_same, List.range_succ, List.map_append, List.map_append, e]
          rfl
        have cj : cof (B.length - 1) (mL B) j i = Vd.sg (j + i) * det (B.length - 1) (mn j i (mL B)) := rfl
        generalize det (B.length - 1) (mn j i (mL B)) = dd at z0 cj ⊢
        refine ⟨.int (0 + i), rfl, .int (0 + j), rfl, 0 + i, 0 + j, rfl, rfl, .inl ⟨_, rfl, _, 2, rfl, rfl, (show (2 : Int) ≠ 0 by decide), rfl, _, rfl, ?_⟩⟩
        refine tif_both (fun v => v = .int (Vd.sg (j + i))) (fun v hv => ?_) (fun h hq => hq _ ?_) (fun h hq => ⟨1, rfl, hq _ ?_⟩)
        · subst hv
          have zs : SmZ 2 (Vd.sg (j + i)) := by
            unfold SmZ
            rw [sg_abs]
            decide
          refine ⟨dd, Vd.sg (j + i), rfl, rfl, mulB (by decide) (by decide) z0 zs (by decide), L, _, _, rfl, rfl, gL10, by rw [List.length_map, List.length_map, List.length_range]; exact small (by omega), ⟨_, _, _, rfl⟩, same_put (s4.trans s410) nL, ?_, ?_, ?_⟩
          · rw [upd_ne (Ne.symm LR)]
            exact s410 _ _ gR4
          · exact (W4.same s410).put gL10
          · exact fin _ (by rw [cj, Int.mul_comm])
        · have h := V.int.inj (of_decide_eq_true h)
          have e : Vd.sg (j + i) = 1 := by
            unfold Vd.sg
            rw [Int.fmod_eq_emod_of_nonneg _ (by decide)] at h
            rw [if_pos (by omega)]
          rw [e]
        · have e : Vd.sg (j + i) = -1 := by
            unfold Vd.sg
            refine if_neg fun z => of_decide_eq_false h ?_
            show V.int ((0 + (i : Int) + (0 + j)).fmod 2) = V.int 0
            rw [Int.fmod_eq_emod_of_nonneg _ (by decide)]
            congr 1
            omega
          rw [e]
      · rintro σ H4 ⟨⟨y5, y6, y7, rfl⟩, s4, gR4, W4, gL4⟩
        refine ⟨.ref R, rfl, .inl ⟨rfl, _, SqL.of gR4⟩, .ref L, rfl, L, _, rfl, .inl ⟨SqL.of gL4, fun T nT => ?_⟩⟩
        have s5 : Same H4 (upd H4 T (.tup (((List.range n).map fun j => cof (B.length - 1) (mL B) j i).map V.int))) := same_new nT
        have g5 : Tp (upd H4 T (.tup (((List.range n).map fun j => cof (B.length - 1) (mL B) j i).map V.int))) T (((List.range n).map fun j => cof (B.length - 1) (mL B) j i).map V.int) := upd_same
        generalize upd H4 T (.tup (((List.range n).map fun j => cof (B.length - 1) (mL B) j i).map V.int)) = H5 at s5 g5 ⊢
        have gR5 := s5 _ _ gR4
        have hm : (adjI B)[i]? = some ((List.range n).map fun j => cof (B.length - 1) (mL B) j i) := by
          unfold adjI
          rw [← hn, List.getElem?_map, List.getElem?_range hi]
          rfl
        refine ⟨R, _, _, rfl, rfl, gR5, by rw [List.length_map, lq]; exact small (by omega), qs ++ [T], ⟨_, _, _, _, _, rfl⟩, same_put ((s2.trans s4).trans s5) nR, by rw [upd_same, List.map_append]; rfl, ?_⟩
        rw [List.take_add_one, hm]
        exact ((W4.same s5).snoc g5).put gR5
    · rintro σ H2 ⟨qs, ⟨y1, y4, y5, y6, y7, rfl⟩, s2, g2, W2⟩
      rw [hn, ← adjI_len, List.take_length] at W2
      refine ⟨.ref R, rfl, R, _, rfl, .inl ⟨SqL.of g2, fun T nT => ?_⟩⟩
      have s3 := same_new (o := .tup (qs.map V.ref)) nT
      refine q T _ (s2.trans s3) ⟨qs, upd_same, W2.1, fun i p r e1 e2 => ?_⟩
      obtain ⟨w1, w2⟩ := adjI_row h5 zB r (List.mem_of_getElem? e2)
      exact ⟨⟨(W2.2 i p r e1 e2).same s3, by omega, w2⟩, w1⟩
end
end K10
namespace K10
open PySem PySem.Spec PyProof.Rows L2 Vk Vd
open K08 (prt low prt_ne prt_abs)
abbrev s_lsolved : Stmt := topS 33
theorem sc_lsolved : FnScope ["table", "column", "j", "det", "found", "some", "top", "part", "i"] ["table", "column"] (defScope s_lsolved) := ⟨rfl, rfl, rfl, by decide +kernel, rfl, by decide +kernel, by decide +kernel⟩
/-- the table with column j replaced -/
def repC (B : List (List Int)) (xs : List Int) (j : Nat) : List (List Int) := List.zipWith (fun b x => b.set j x) B xs
theorem repC_get {B : List (List Int)} {xs : List Int} {j i : Nat} {y : List Int} (h : (repC B xs j)[i]? = some y) : ∃ b v, B[i]? = some b ∧ xs[i]? = some v ∧ y = b.set j v := by
  unfold repC at h
  rw [List.getElem?_zipWith] at h
  cases hb : B[i]? with
  | none =>
    rw [hb] at h
    cases h
  | some b =>
    cases hv : xs[i]? with
    | none =>
      rw [hb, hv] at h
      cases h
    | some v =>
      rw [hb, hv] at h
      exact ⟨b, v, rfl, rfl, (Option.some.inj h).symm⟩
theorem repC_len {B : List (List Int)} {xs : List Int} (h : xs.length = B.length) (j : Nat) : (repC B xs j).length = B.length := by
  unfold repC
  rw [List.length_zipWith, h, Nat.min_self]
theorem repC_det {B : List (List Int)} {xs : List Int} {j : Nat} (h : xs.length = B.length) (hj : j < B.length) (hw : ∀ r ∈ B, r.length = B.length) : det (repC B xs j).length (mL (repC B xs j)) = repD (colsI B B.length) xs j := by
  unfold repD
  rw [repC_len h, colsI_len, ← det_tr]
  refine det_congr _ fun r c hr hc => ?_
  have hb : B[c]? = some (B[c]'hc) := List.getElem?_eq_getElem _
  have hx := Vk.getD_at (xs := xs) (i := c) (by omega)
  have lw := hw _ (List.getElem_mem hc)
  have e1 : (repC B xs j)[c]? = some ((B[c]'hc).set j (xs.getD c 0)) := by
    unfold repC
    rw [List.getElem?_zipWith, hb, hx]
  rw [mL_at e1, List.getD_eq_getElem?_getD]
  by_cases e : r = j
  · subst e
    rw [List.getElem?_set_self (by omega)]
    have e2 : ((colsI B B.length).set r xs)[r]? = some xs := List.getElem?_set_self (by rw [colsI_len]; exact hj)
    rw [mL_at e2]
    rfl
  · rw [List.getElem?_set_ne (Ne.symm e)]
    have e2 : ((colsI B B.length).set j xs)[r]? = some (B.map fun q => q.getD r 0) := by
      rw [List.getElem?_set_ne (Ne.symm e), colsI_at hr]
    rw [mL_at e2, List.getD_eq_getElem?_getD (l := B.map _), List.getElem?_map, hb]
    show ((B[c]'hc)[r]?).getD 0 = (B[c]'hc).getD r 0
    rw [List.getD_eq_getElem?_getD]
theorem repD_sm {B : List (List Int)} {xs : List Int} {j : Nat} (h5 : B.length ≤ 5) (h : xs.length = B.length) (hj : j < B.length) (hw : ∀ r ∈ B, r.length = B.length ∧ ∀ x ∈ r, SmZ 300 x) (zx : ∀ x ∈ xs, SmZ 300 x) : SmZ 1600 (repD (colsI B B.length) xs j) := by
  unfold repD
  rw [colsI_len]
  have z : ∀ r ∈ (colsI B B.length).set j xs, ∀ x ∈ r, SmZ 300 x := fun r hr x hx => by
    rcases List.mem_or_eq_of_mem_set hr with m | rfl
    · obtain ⟨i, hi⟩ := List.getElem?_of_mem m
      have il := (List.getElem?_eq_some_iff.mp hi).1
      rw [colsI_len] at il
      obtain rfl := colsI_get hi
      obtain ⟨b, hb, rfl⟩ := List.mem_map.mp hx
      exact (hw b hb).2 _ (List.mem_of_getElem? (Vk.getD_at (by rw [(hw b hb).1]; exact il)))
    · exact zx x hx
  have h := det_abs (k := 300) B.length (mL ((colsI B B.length).set j xs)) (by omega) (mL_smk z)
  refine Nat.lt_of_le_of_lt h (Nat.pow_lt_pow_right (by decide) ?_)
  have : B.length * (300 + 4) ≤ 5 * 304 := Nat.mul_le_mul (by omega) (by omega)
  omega
theorem sol_at {B : List (List Int)} {xs : List Int} {j : Nat} (hj : j < B.length) : (solI B xs)[j]? = some (low (sgnZ (det B.length (mL B)) * repD (colsI B B.length) xs j) ((det B.length (mL B)).natAbs : Int)) := by
  unfold solI numsI
  rw [List.getElem?_map, List.getElem?_map, colsI_len, List.getElem?_range hj]
  have e := cols_det (X := B)
  rw [colsI_len] at e
  show some _ = some _
  rw [e]
theorem sol_len (B : List (List Int)) (xs : List Int) : (solI B xs).length = B.length := by
  unfold solI numsI
  rw [List.length_map, List.length_map, List.length_range, colsI_len]
def spLsolved : Sp := fun vs H Q _ => ∃ (a c : Addr) (B : List (List Int)) (xs : List Int), vs = [.ref a, .ref c] ∧ TabR H a B B.length ∧ B.length ≤ 5 ∧ Row H c xs ∧ xs.length = B.length ∧ det B.length (mL B) ≠ 0 ∧ (∀ r ∈ B, ∀ x ∈ r, SmZ 110 x) ∧
  ∀ r ps H', Same H H' → Tp H' r (ps.map V.ref) → Prs H' ps (solI B xs) → Q (.ref r) H'
section
variable {P : Program} {w : World} {K : PySem.W.Frag} {mg : Str → Option Value} {base : Heap}
theorem ok_lsolved {f : Addr} {fd : FuncData} (F : Fun K "_law_solved" "_law_solved" s_lsolved f fd) (C__law_det : Cal P w K mg base 7 "_law_det" ["table"] (spLd 6)) (C__law_gcd : Cal P w K mg base 1 "_law_gcd" ["a", "c"] spGcd) (m_tuple : mg "tuple" = none) (m_range : mg "range" = none) (m_len : mg "len" = none) (m_abs : mg "abs" = none) : FnOk P w K mg base CX0 8 f fd ["table", "column"] spLsolved := by
  have sc := sc_lsolved
  refine F.ok sc (fun vs H Q E h => ?_) (fun cdv A outer s H vs Q E hr h => ?_)
  · obtain ⟨a, c, B, xs, rfl, _⟩ := h
    rfl
  · obtain ⟨a, c, B, xs, rfl, hT, h5, hc, lx, d0, zB, q⟩ := h
    refine ⟨_, (pss_cons (ps_par (i := 3) (j := 4) (by rfl) sc.nd rfl rfl (by decide) rfl rfl (pa_cons (call_ C__law_det (hr.mono (by decide)) (by rfl) (pa_cons (pv 0) pa_nil)) (pa_cons (pe_lst pa_nil) pa_nil)) (by rfl))
    (pss_cons (ps_for PassesOwn.never rfl (pi_range1 rfl m_range (pa_cons (pe_callB call_len_seq (by rfl) m_len (by decide +kernel) (pa_cons (pv 0) pa_nil)) pa_nil)) (pg_name (i := 2) sc.nd rfl (Or.inr rfl))
      (pss_cons (ps_setLc (i := 5) (own := [("i", 8)]) (g := gName 8) (by rfl) sc.nd rfl rfl (sw_true rfl rfl rfl (by decide +kernel)) (pi_range1 rfl m_range (pa_cons (pe_callB call_len_seq (by rfl) m_len (by decide +kernel) (pa_cons (pv 0) pa_nil)) pa_nil)) (blkOk_by (own := [("i", 8)]) (N := ["table", "column", "j", "det", "found", "some", "top", "part", "i"]) (sc := defScope s_lsolved) (by decide +kernel)) (fun _ _ _ _ _ => pg_name (i := 8) sc.nd rfl (Or.inl rfl)) (fun _ _ _ _ _ => pts_nil) (fun _ _ _ _ _ => (pe_op (op_catAK (K := K) rfl) (pe_op (op_catAK (K := K) rfl) (pe_slice (sl_tupAK (K := K) rfl) (pe_ix (ix_tupK (K := K) rfl) (pv 0) (pv 8) (fun _ _ => rfl)) po_none (po_some (pv 2))) (pe_tup (pa_cons (pe_ix (ix_tupK (K := K) rfl) (pv 1) (pv 8) (fun _ _ => rfl)) pa_nil))) (pe_slice (sl_tupAK (K := K) rfl) (pe_ix (ix_tupK (K := K) rfl) (pv 0) (pv 8) (fun _ _ => rfl)) (po_some (pe_op op_add (pv 2) pe_int)) po_none))))
    (pss_cons (ps_set (i := 6) sc.nd rfl (Or.inl rfl) (pe_op op_mulW (call_ C__law_det (hr.mono (by decide)) (by rfl) (pa_cons (pe_callTy call_tuple_of (by rfl) m_tuple (by decide +kernel) (pa_cons (pv 5) pa_nil)) pa_nil)) (pe_ifExp (pt_cmpR op_gt (pv 3) pe_int (nomark _)) pe_int (pe_un un_neg pe_int))))
    (pss_cons (ps_set (i := 7) sc.nd rfl (Or.inl rfl) (call_ C__law_gcd (hr.mono (by decide)) (by rfl) (pa_cons (pv 6) (pa_cons (pv 3) pa_nil))))
    (pss_one (ps_expr (pe_bm PySem.F.plainAttrs_list PySem.F.slot_list_append PySem.F.type_list_append mt_append (pv 4) (pa_cons (pe_tup (pa_cons (pe_op op_fdivX (pv 6) (pv 7)) (pa_cons (pe_op op_fdivX (pe_callB call_abs (by rfl) m_abs (by decide +kernel) (pa_cons (pv 3) pa_nil)) (pv 7)) pa_nil))) pa_nil))))))))
    (pss_one (ps_ret (pe_callTy call_tuple_of (by rfl) m_tuple (by decide +kernel) (pa_cons (pv 4) pa_nil)))))), ?_⟩
    have wid := hT.w
    obtain ⟨ps, ha, hR⟩ := id hT
    have lp : ps.length = B.length := hR.1
    refine ⟨.ref a, rfl, a, B, rfl, hT, by omega, fun H1 s1 => ?_⟩
    obtain ⟨d, hd⟩ : ∃ d, d = det B.length (mL B) := ⟨_, rfl⟩
    have zd : SmZ 600 d := by
      rw [hd]
      have h := det_abs (k := 110) B.length (mL B) (by omega) (mL_smk zB)
      refine Nat.lt_of_le_of_lt h (Nat.pow_lt_pow_right (by decide) ?_)
      have : B.length * (110 + 4) ≤ 5 * 114 := Nat.mul_le_mul (by omega) (by omega)
      omega
    rw [← hd] at d0 ⊢
    refine ⟨by show 0 ≤ sizeLine; decide, fun R nR => ?_⟩
    have s2 : Same H1 (upd H1 R (.lst [])) := same_new nR
    have g2 : upd H1 R (.lst []) R = some (.lst (([] : List Addr).map V.ref)) := upd_same
    have nRH : H R = none := s1.free nR
    generalize upd H1 R (.lst []) = H2 at s2 g2 ⊢
    refine ⟨_, _, rfl, ?_⟩
    have s12 := s1.trans s2
    have e0 : ((ps.map V.ref).length : Int).toNat = B.length := by
      rw [List.length_map]
      omega
    refine ⟨.ref a, rfl, a, _, rfl, .inr (ha.same s12).t, ((ps.map V.ref).length : Int), rfl, by omega, by rw [List.length_map]; omega, ?_⟩
    rw [e0]
    refine for_range (lo := 0) (n := B.length) (fun j σ H' => ∃ qs, (∃ y2 y5 y6 y7 y8, σ = [some (.ref a), some (.ref c), y2, some (.int d), some (.ref R), y5, y6, y7, y8]) ∧ Same H H' ∧ H' R = some (.lst ((qs : List Addr).map V.ref)) ∧ Prs H' qs ((solI B xs).take j)) ⟨[], ⟨none, none, none, none, none, rfl⟩, s12, g2, rfl, fun i p z e1 e2 => by cases e1⟩ ?_ ?_
    · rintro j σ H3 hj ⟨qs, ⟨y2, y5, y6, y7, y8, rfl⟩, s3, g3, W3⟩
      have ej : (0 + (j : Int)) = ((j : Nat) : Int) := by omega
      have lq : qs.length = j := by
        rw [W3.1, List.length_take, sol_len]
        omega
      refine ⟨.ref a, rfl, a, _, rfl, .inr (ha.same s3).t, ((ps.map V.ref).length : Int), rfl, by omega, by rw [List.length_map]; omega, fun D nD => ?_⟩
      rw [e0]
      refine lc_tps (walk_range (lo := 0) (n := B.length)) (repC B xs j) (repC_len lx j) (small (by omega)) nD (fun H' s => True.intro) ?_ ?_
      · rintro i x y H4 H4' Qy hy hi s4 ⟨rfl, rfl⟩ hq
        obtain ⟨b, v, hb, hv, rfl⟩ := repC_get hy
        have ei : (0 + (i : Int)) = ((i : Nat) : Int) := by omega
        have hp : ps[i]? = some (ps[i]'(by omega)) := List.getElem?_eq_getElem _
        obtain ⟨Rp, lb⟩ := hR.2 i _ b hp hb
        have s04 := s3.trans s4
        have R4 := Rp.same s04
        refine ⟨rfl, .ref a, rfl, .int (0 + i), rfl, a, _, 0 + i, .ref (ps[i]'(by omega)), rfl, rfl, (ha.same s04).t, atI_at ei (get_map hp), .int (0 + j), rfl, 0 + j, rfl, ?_⟩
        refine slice_tp R4.1 fun t1 H5 s5 g5 => ?_
        rw [ej, cut_to, ← List.map_take] at g5
        refine ⟨.ref c, rfl, .int (0 + i), rfl, c, _, 0 + i, .int v, rfl, rfl, ((hc.same s04).same s5).1.t, atI_at ei (get_map hv), by show 1 ≤ sizeLine; decide, fun t2 nt2 => ?_⟩
        have s6 : Same H5 (upd H5 t2 (.tup [.int v])) := same_new nt2
        have g6 : Tp (upd H5 t2 (.tup [.int v])) t2 ([v].map V.int) := upd_same
        generalize upd H5 t2 (.tup [.int v]) = H6 at s6 g6 ⊢
        refine cat_tp (g5.same s6) g6 (by rw [List.length_map, List.length_take]; exact Nat.le_of_lt (small (by show _ + 1 ≤ 100; omega))) fun t3 H7 s7 g7 => ?_
        rw [← List.map_append] at g7
        have s57 := (s5.trans s6).trans s7
        refine ⟨.ref a, rfl, .int (0 + i), rfl, a, _, 0 + i, .ref (ps[i]'(by omega)), rfl, rfl, ((ha.same s04).same s57).t, atI_at ei (get_map hp), .int (0 + j), rfl, 0 + j, 1, rfl, rfl, 0 + j + 1, rfl, ?_⟩
        unfold tNoPart
        dsimp only
        refine slice_tp (R4.same s57).1 fun t4 H8 s8 g8 => ?_
        rw [show (0 + (j : Int) + 1) = ((j + 1 : Nat) : Int) by omega, cut_from, ← List.map_drop] at g8
        refine cat_tp (g7.same s8) g8 (by rw [List.length_map, List.length_append, List.length_map, List.length_take, List.length_drop]; exact Nat.le_of_lt (small (by show _ + 1 + _ ≤ 100; omega))) fun t5 H9 s9 g9 => ?_
        rw [← List.map_append] at g9
        have eset : b.take j ++ [v] ++ b.drop (j + 1) = b.set j v := by
          rw [List.set_eq_take_append_cons_drop, if_pos (by omega), List.append_assoc]
          rfl
        rw [eset] at g9
        exact hq t5 H9 (s57.trans (s8.trans s9)) g9
      intro H4 us s4 d4 W4
      have s34 := s3.trans s4
      refine ⟨.ref D, rfl, D, _, rfl, .inl ⟨SqL.of d4, fun T nT => ?_⟩⟩
      have s5 : Same H4 (upd H4 T (.tup (us.map V.ref))) := same_new nT
      have g5 : Tp (upd H4 T (.tup (us.map V.ref))) T (us.map V.ref) := upd_same
      generalize upd H4 T (.tup (us.map V.ref)) = H5 at s5 g5 ⊢
      refine ⟨T, repC B xs j, rfl, ⟨us, g5, (W4.same s5).1, fun x p r e1 e2 => ?_⟩, by rw [repC_len lx]; omega, fun H6 s6 => ?_⟩
      · have hTp := (W4.same s5).2 x p r e1 e2
        obtain ⟨b, v, hb, hv, rfl⟩ := repC_get e2
        obtain ⟨w1, w2⟩ := wid b (List.mem_of_getElem? hb)
        refine ⟨⟨hTp, by rw [List.length_set]; omega, fun y hy => ?_⟩, by rw [repC_len lx, List.length_set]; exact w1⟩
        rcases List.mem_or_eq_of_mem_set hy with m | rfl
        · exact w2 y m
        · exact hc.2.2 _ (List.mem_of_getElem? hv)
      rw [repC_det lx hj fun r hr => (wid r hr).1]
      have zr := repD_sm h5 lx hj wid hc.2.2
      have sa := sol_at (xs := xs) hj
      rw [← hd] at sa
      generalize repD (colsI B B.length) xs j = rr at zr sa ⊢
      have s46 := s5.trans s6
      have s36 := s4.trans s46
      refine ⟨.int d, rfl, d, 0, rfl, rfl, _, rfl, ?_⟩
      refine tif_both (fun v => v = .int (sgnZ d)) (fun v hv => ?_) (fun h hq => hq _ ?_) (fun h hq => ⟨1, rfl, hq _ ?_⟩)
      · subst hv
        have zs : SmZ 2 (sgnZ d) := by
          unfold sgnZ
          split <;> decide
        refine ⟨rr, sgnZ d, rfl, rfl, mulB (by decide) (by decide) zr zs (by decide), ?_⟩
        dsimp only
        have gne : Int.gcd (rr * sgnZ d) d ≠ 0 := fun z => d0 (Int.gcd_eq_zero_iff.mp z).2
        have gle : Int.gcd (rr * sgnZ d) d ≤ d.natAbs := Nat.le_of_dvd (by omega) (Nat.gcd_dvd_right _ _)
        refine ⟨.int (rr * sgnZ d), rfl, .int d, rfl, rr * sgnZ d, d, rfl, ?_⟩
        have cd : ∀ z : Int, CDivX z ((Int.gcd (rr * sgnZ d) d : Nat) : Int) := fun z => ⟨by omega, by
          have : SmZ 600 ((Int.gcd (rr * sgnZ d) d : Nat) : Int) := by
            unfold SmZ at zd ⊢
            omega
          exact Nat.lt_trans (smz_log (by decide) this) (by decide)⟩
        have gR := s36 _ _ g3
        refine ⟨.ref R, rfl, .inl ⟨rfl, _, SqL.of gR⟩, .int (rr * sgnZ d), rfl, .int _, rfl, rr * sgnZ d, _, rfl, rfl, cd _, .int d, rfl, d, rfl, ?_⟩
        rw [show (if d < 0 then -d else d) = (d.natAbs : Int) by split <;> omega]
        refine ⟨.int _, rfl, _, _, rfl, rfl, cd _, by show 2 ≤ sizeLine; decide, fun T2 nT2 => ?_⟩
        have s7 : Same H6 (upd H6 T2 (.tup [.int ((rr * sgnZ d).fdiv ((Int.gcd (rr * sgnZ d) d : Nat) : Int)), .int ((d.natAbs : Int).fdiv ((Int.gcd (rr * sgnZ d) d : Nat) : Int))])) := same_new nT2
        have g7 : Pr (upd H6 T2 (.tup [.int ((rr * sgnZ d).fdiv ((Int.gcd (rr * sgnZ d) d : Nat) : Int)), .int ((d.natAbs : Int).fdiv ((Int.gcd (rr * sgnZ d) d : Nat) : Int))])) T2 (low (sgnZ d * rr) (d.natAbs : Int)) := by
          show upd _ _ _ _ = _
          rw [upd_same]
          unfold low prt
          rw [if_pos (by omega), Int.mul_comm (sgnZ d) rr]
          have eg : Int.gcd (rr * sgnZ d) (d.natAbs : Int) = Int.gcd (rr * sgnZ d) d := by
            unfold Int.gcd
            rw [Int.natAbs_natCast]
          rw [eg]
        generalize upd H6 T2 (.tup [.int ((rr * sgnZ d).fdiv ((Int.gcd (rr * sgnZ d) d : Nat) : Int)), .int ((d.natAbs : Int).fdiv ((Int.gcd (rr * sgnZ d) d : Nat) : Int))]) = H7 at s7 g7 ⊢
        have gR7 := s7 _ _ gR
        have s37 := s36.trans s7
        refine ⟨R, _, _, rfl, rfl, gR7, by rw [List.length_map, lq]; exact small (by omega), qs ++ [T2], ⟨_, _, _, _, _, rfl⟩, same_put (s3.trans s37) nRH, by rw [upd_same, List.map_append]; rfl, ?_⟩
        rw [List.take_add_one, sa]
        refine ⟨by rw [List.length_append, List.length_append, W3.1]; rfl, fun i p z e1 e2 => ?_⟩
        refine tp_put (l := qs.map V.ref) (xs := [.int z.1, .int z.2]) ?_ gR7
        by_cases hi : i < qs.length
        · rw [List.getElem?_append_left hi] at e1
          rw [List.getElem?_append_left (by rw [← W3.1]; exact hi)] at e2
          exact s37 _ _ (W3.2 i p z e1 e2)
        · have hi2 := (List.getElem?_eq_some_iff.mp e1).1
          rw [List.length_append] at hi2
          have hi3 : i = qs.length := by
            simp only [List.length_cons, List.length_nil] at hi2
            omega
          subst hi3
          rw [List.getElem?_append_right (Nat.le_refl _), Nat.sub_self] at e1
          rw [List.getElem?_append_right (by rw [W3.1]; exact Nat.le_refl _), W3.1, Nat.sub_self] at e2
          obtain rfl := Option.some.inj e1
          obtain rfl := Option.some.inj e2
          exact g7
      · have h := of_decide_eq_true h
        unfold sgnZ
        rw [if_neg (by omega)]
      · have h := of_decide_eq_false h
        unfold sgnZ
        rw [if_pos (by omega)]
    · rintro σ H3 ⟨qs, ⟨y2, y5, y6, y7, y8, rfl⟩, s3, g3, W3⟩
      rw [← sol_len B xs, List.take_length] at W3
      refine ⟨.ref R, rfl, R, _, rfl, .inl ⟨SqL.of g3, fun T nT => ?_⟩⟩
      have s4 := same_new (o := .tup (qs.map V.ref)) nT
      exact q T qs _ (s3.trans s4) upd_same ⟨W3.1, fun i p z e1 e2 => (W3.2 i p z e1 e2).same s4⟩
end
end K10
/-! The end of a law row for a quiet promise, with the tables of the code objects that hold lambdas. -/
namespace Vk
open PySem PySem.Spec PyProof.Rows L2
/-- what a heap at the law's start tracks -/
inductive Trk (cs : List (Addr × Addr)) (H : Hp) (b : Addr) : Prop
  | no (h : H b = none) : Trk cs H b
  | tab (p : Addr × Addr) (m : p ∈ cs) (e : p.2 = b) (h : H b = some (.tbl #[])) : Trk cs H b
  | frz (o : Obj) (xs : List V) (h : H b = some (.frz o (.lst xs))) : Trk cs H b
/-- what is known of the tables -/
structure TabK (K : PySem.W.Frag) (h : Heap) (p : Addr × Addr) : Prop where
  hd : PySem.W.CodeHd h p.1 p.2
  at_ : h.get? p.2 = some { cls := .none, data := .fields #[] }
  out : K.lookup p.2 = none
/-- the module that the top's names lead to -/
def BMain (mg : Str → Option Value) (h : Heap) : Prop := ∃ bm ob, mg "__builtins__" = some (.ref bm) ∧ bm ≠ builtinsNs ∧ h.get? bm = some ob ∧ ob.cls = .type "module" ∧ ob.dict = some builtinsNs ∧ ob.data = .plain
section
variable {P : Program} {w : World} {K : PySem.W.Frag} {mg mb : Str → Option Value} {k : Nat} {fa a : Addr} {fd : FuncData} {x : Str} {sp : Sp} {s₁ : Shared} {vs : List Value} {ns : List Int} {cs : List (Addr × Addr)}
theorem tabB_hid {H : Hp} {p : Addr × Addr} (T : TabK K s₁.heap p) (fr : ∀ b o, s₁.heap.get? b = some o → o ≠ { cls := .none, data := .fields #[] } → o.cls ≠ .type "list" → H b = none) (hns : s₁.heap.Ns mainGlobals mg) (B : BMain mg s₁.heap) :
    LamX.TabB (hidT s₁.heap H) mg p.1 p.2 := by
  obtain ⟨o, us, file, tf, flags, tg, inF, text, tt, q1, q2, q3, q4, q5⟩ := T.hd
  obtain ⟨bm, ob, b1, b2, b3, b4, b5, b6⟩ := B
  obtain ⟨og, es, ep, g1, g2, g3⟩ := hns
  refine ⟨⟨o, us, file, tf, flags, tg, inF, text, tt, hidT_get q1 (fr _ _ q1 (fun z => ?_) fun z => ?_), q2, q3, q4, q5⟩, ⟨bm, ob, b1, b2, fun z => ?_, fun z => ?_, hidT_get b3 (fr _ _ b3 (fun z => ?_) fun z => ?_), b4, b5, b6⟩, fun z => ?_⟩
  · subst z
    cases q2
  · rw [q2] at z
    exact absurd z (by decide)
  · subst z
    rw [g1] at b3
    obtain rfl := Option.some.inj b3
    rw [b6] at g2
    cases g2
  · subst z
    have y := b3.symm.trans T.at_
    obtain rfl := Option.some.inj y
    cases b4
  · subst z
    cases b4
  · rw [b4] at z
    exact absurd z (by decide)
  · rw [z] at g1
    obtain rfl := Option.some.inj (T.at_.symm.trans g1)
    cases g2
/-- from one abstract heap that holds -/
theorem law_coreT (H : Hp) (KX : K.In s₁.heap) (hns : s₁.heap.Ns mainGlobals mg) (hb : s₁.heap.Ns builtinsNs mb) (hbb : ∀ x : Str, x ≠ "__name__" → mb x = bootBuiltins x) (hlim : s₁.heap.NoLimit) (hg : s₁.gens = #[])
    (TK : ∀ p ∈ cs, TabK K s₁.heap p) (B : BMain mg s₁.heap) (ha : s₁.heap.get? a = some { cls := .type "list", data := .seq vs.toArray }) (hr : Room k callerA)
    (F : ∀ base : Heap, K.In base → base.Ns mainGlobals mg → (∀ p ∈ cs, LamX.TabB base mg p.1 p.2) → FnG P w K mg base k fa fd [x] sp) (hbind : ∀ (s : Shared) (u : Value), BindsTo s fd ⟨[u], []⟩ [(x, u)])
    (trk : ∀ b, Trk cs H b) (hA : ∀ b o xs, H b = some (.frz o (.lst xs)) → b = a) (hK : H a ≠ none → K.lookup a = none) (hok : HOk P w H s₁.heap) (hsp : sp [.ref a] H (fun v _ => v = .bl true) fun _ _ _ => False) :
    codeAny (model P w) callerA (.call (.ref fa) ⟨[.ref a], []⟩) (fun r s' => r = .ok (.ret (.bool true)) ∧ OldK s₁.heap s'.heap ∧ s'.os = s₁.os ∧ AllBare s'.gens) s₁ := by
  have fr : ∀ b o, s₁.heap.get? b = some o → o ≠ { cls := .none, data := .fields #[] } → o.cls ≠ .type "list" → H b = none := fun b o e n1 n2 => by
    cases trk b with
    | no h => exact h
    | tab p m z h =>
      rw [← z, (TK p m).at_] at e
      exact absurd (Option.some.inj e).symm n1
    | frz u xs h =>
      rw [hA b u xs h, ha] at e
      obtain rfl := Option.some.inj e
      exact absurd rfl n2
  have ns_ : ∀ {b : Addr} {m : Str → Option Value}, s₁.heap.Ns b m → (hidT s₁.heap H).Ns b m := by
    rintro b m ⟨o, es, ep, e, d, r⟩
    cases trk b with
    | no h => exact ⟨o, es, ep, hidT_get e h, d, r⟩
    | tab p q z h =>
      rw [← z, (TK p q).at_] at e
      obtain rfl := Option.some.inj e
      cases d
    | frz u xs h =>
      rw [hA b u xs h, ha] at e
      obtain rfl := Option.some.inj e
      cases d
  have inB : K.In (hidT s₁.heap H) := fun b o e => by
    refine hidT_get (KX b o e) ?_
    cases trk b with
    | no h => exact h
    | tab p q z h =>
      rw [← z, (TK p q).out] at e
      cases e
    | frz u xs h =>
      have y := hA b u xs h
      subst y
      rw [hK (by rw [h]; exact fun z => by cases z)] at e
      cases e
  have M : Mod K mg (hidT s₁.heap H) := by
    refine { kin := inB, glob := ns_ hns, blt := ⟨mb, ns_ hb, hbb⟩, nolimit := ?_ }
    obtain ⟨mc, h1, h2⟩ := hlim
    exact ⟨mc, ns_ h1, h2⟩
  have E : Env0 P w K mg (hidT s₁.heap H) callerA [] s₁ H := by
    refine { frames := rfl, mod := M, bs := fun b o e => of_hidT e, bsz := Nat.le_of_eq (hidT_size _ _), funs := trivial, frf := ?_, hok := hok, bare := .of_eq hg }
    intro b z
    cases (show b ∈ ([] : List Addr) from z)
  have R := (F _ inB (ns_ hns) fun p hp => tabB_hid (TK p hp) fr hns B).run callerA [] s₁ H ⟨[.ref a], []⟩ [.ref a] [.ref a] _ _ rfl hr E (hbind s₁ (.ref a)) (.cons rfl .nil) hsp
  refine codeAny_mono R ?_
  intro r s' h
  match r, h with
  | .error e, h => exact False.elim h
  | .ok (.ret u), ⟨v, H', os, bare, un, hok', rv, q⟩ =>
    obtain rfl : v = .bl true := q
    obtain rfl : u = Value.bool true := rv
    have key : ∀ b o, s₁.heap.get? b = some o → s'.heap.get? b = some o ∨ ∃ p ∈ cs, p.2 = b ∧ ∃ more : Array Value, s'.heap.get? b = some { cls := .none, data := .fields more } := fun b o e => by
      cases trk b with
      | no z =>
        refine .inl (un.keep b o e z (fun m => ?_) (fun m => ?_))
        · cases (show b ∈ ([] : List Addr) from m)
        · cases m
      | tab p m z y =>
        obtain ⟨more, y'⟩ := un.tbls b #[] y
        exact .inr ⟨p, m, z, _, hok' b _ y'⟩
      | frz ob xs z =>
        have p1 := (hok b _ z).1
        have p2 := (hok' b _ (un.frzs b ob _ z)).1
        exact .inl (p2.trans (p1.symm.trans e))
    refine ⟨rfl, ⟨fun b o e => ?_, fun b o e => ?_⟩, os, bare⟩
    · rcases key b o e with y | ⟨p, m, rfl, more, y⟩
      · exact .inl y
      · have T := TK p m
        obtain rfl := Option.some.inj (T.at_.symm.trans e)
        refine .inr (.inl ⟨(T.hd.tab T.at_).isCodeTable, rfl, #[], more, rfl, ?_⟩)
        rw [Array.empty_append]
        exact y
    · rcases key b o e with y | ⟨p, m, rfl, more, y⟩
      · exact ⟨o, y⟩
      · exact ⟨_, y⟩
/-- the law's promise, at the heap behind the top -/
theorem law_callT (KX : K.In s₁.heap) (hns : s₁.heap.Ns mainGlobals mg) (hb : s₁.heap.Ns builtinsNs mb) (hbb : ∀ x : Str, x ≠ "__name__" → mb x = bootBuiltins x) (hlim : s₁.heap.NoLimit) (hg : s₁.gens = #[])
    (TK : ∀ p ∈ cs, TabK K s₁.heap p) (B : BMain mg s₁.heap) (ha : s₁.heap.get? a = some { cls := .type "list", data := .seq vs.toArray }) (hi : IntsAre vs ns) (hl : ns.length ≤ sizeLine) (hr : Room k callerA)
    (F : ∀ base : Heap, K.In base → base.Ns mainGlobals mg → (∀ p ∈ cs, LamX.TabB base mg p.1 p.2) → FnG P w K mg base k fa fd [x] sp) (hbind : ∀ (s : Shared) (u : Value), BindsTo s fd ⟨[u], []⟩ [(x, u)])
    (hsp : ∀ H : Hp, (∀ p ∈ cs, H p.2 = some (.tbl #[])) → SqL K H a (ns.map V.int) → sp [.ref a] H (fun v _ => v = .bl true) fun _ _ _ => False) :
    codeAny (model P w) callerA (.call (.ref fa) ⟨[.ref a], []⟩) (fun r s' => r = .ok (.ret (.bool true)) ∧ OldK s₁.heap s'.heap ∧ s'.os = s₁.os ∧ AllBare s'.gens) s₁ := by
  classical
  have rv := vals_ints hi
  let tb : Hp := fun b => if ∃ p ∈ cs, p.2 = b then some (.tbl #[]) else none
  have tb1 : ∀ p ∈ cs, tb p.2 = some (.tbl #[]) := fun p hp => if_pos ⟨p, hp, rfl⟩
  have tbt : ∀ b, Trk cs tb b := fun b => by
    by_cases z : ∃ p ∈ cs, p.2 = b
    · obtain ⟨p, m, e⟩ := z
      exact .tab p m e (if_pos ⟨p, m, e⟩)
    · exact .no (if_neg z)
  have tbo' : ∀ (H' : Hp) b u, tb b = some u → ObjOk P w H' s₁.heap b u := fun H' b u z => by
    cases tbt b with
    | no h =>
      rw [h] at z
      cases z
    | tab p m e h =>
      rw [h] at z
      obtain rfl := Option.some.inj z
      subst e
      exact (TK p m).at_
    | frz o xs h =>
      rw [h] at z
      obtain rfl := Option.some.inj z
      unfold tb at h
      split at h <;> cases h
  have tbo : HOk P w tb s₁.heap := tbo' tb
  have tbf : ∀ b o xs, tb b ≠ some (.frz o (.lst xs)) := fun b o xs h => by
    unfold tb at h
    split at h <;> cases h
  have na : ∀ p ∈ cs, p.2 ≠ a := fun p hp z => by
    have e := (TK p hp).at_
    rw [z, ha] at e
    cases congrArg Obj.data (Option.some.inj e)
  have tba : tb a = none := if_neg fun ⟨p, hp, z⟩ => na p hp z
  cases hk : K.lookup a with
  | some o =>
    have e := (KX a o hk).symm.trans ha
    obtain rfl := Option.some.inj e
    refine law_coreT tb KX hns hb hbb hlim hg TK B ha hr F hbind tbt (fun b o xs z => absurd z (tbf b o xs)) (fun z => absurd tba z) tbo (hsp _ tb1 (.inr ⟨_, vs.toArray, _, hk, rfl, rfl, rfl, ?_, ?_⟩))
    · rw [List.size_toArray, hi.length]
      exact hl
    · simpa using rv
  | none =>
    let fz : HO := .frz { cls := .type "list", data := .seq vs.toArray } (.lst (ns.map V.int))
    refine law_coreT (upd tb a fz) KX hns hb hbb hlim hg TK B ha hr F hbind (fun b => ?_) (fun b o xs z => ?_) (fun _ => hk) (fun b u z => ?_) (hsp _ (fun p hp => ?_) (.inl (.inr ⟨_, upd_same⟩)))
    · by_cases e : b = a
      · subst e
        exact .frz _ _ upd_same
      · cases tbt b with
        | no h => exact .no (by rw [upd_ne e]; exact h)
        | tab p m q h => exact .tab p m q (by rw [upd_ne e]; exact h)
        | frz o xs h => exact .frz o xs (by rw [upd_ne e]; exact h)
    · by_cases e : b = a
      · exact e
      · rw [upd_ne e] at z
        exact absurd z (tbf b o xs)
    · by_cases e : b = a
      · subst e
        rw [upd_same] at z
        obtain rfl := Option.some.inj z
        refine ⟨ha, ?_, vs, _, rv, ha⟩
        rw [List.length_map]
        exact hl
      · rw [upd_ne e] at z
        exact tbo' _ b u z
    · rw [upd_ne (na p hp)]
      exact tb1 p hp
end
/-- the tables of the top's defs, by their names -/
def TabsOf (q : Program) (K : PySem.W.Frag) (h : Heap) : Prop := ∀ (y : Str) (d : DefRec) (c P : Addr), (recsOf q).find? (fun e => e.name == y) = some d → PySem.W.tabIn K y = some (c, P) → K.lookup P = none → TabK K h (c, P)
/-- the end of the row -/
theorem walk_ofT {l : PySem.W.OpenLaw} {n k : Nat} {q : Program} {loose : List Str} {XP : (Str → Option Value) → Heap → Prop} {YP : World → Heap → Prop} {d : DefRec} {K : Params → PySem.W.Frag} {x : Str}
    (hn : l.most = some n) (hn2 : n ≤ sizeLine) (hdf : d.params.defaults = []) (hr : Room k callerA) (hY : ∀ (w : World) (h : Heap), YP w h → (K w.params).In h)
    (F : ∀ (w : World) (mg : Str → Option Value) (fa : Addr) (h : Heap), (K w.params).In h → h.Ns mainGlobals mg → mg d.name = some (.ref fa) → TabsOf q (K w.params) h →
      ∃ (fd : FuncData) (cs : List (Addr × Addr)) (sp : Sp), (∀ p ∈ cs, TabK (K w.params) h p) ∧ (∀ (s : Shared) (u : Value), BindsTo s fd ⟨[u], []⟩ [(x, u)]) ∧
        (∀ (H : Hp) (a : Addr) (ns : List Int), ns.length ≤ n → (∀ p ∈ cs, H p.2 = some (.tbl #[])) → SqL (K w.params) H a (ns.map V.int) → sp [.ref a] H (fun v _ => v = .bl true) fun _ _ _ => False) ∧
        ∀ base : Heap, (K w.params).In base → base.Ns mainGlobals mg → (∀ p ∈ cs, LamX.TabB base mg p.1 p.2) → FnG l.prog w (K w.params) mg base k fa fd [x] sp) :
    PySem.W.WalkO q loose XP YP l.row.toRowW d [] (fun f vs => PySem.call f vs) := by
  refine Att.attach_call hn hdf ?_
  intro w s₀ s₁ mg mb fa o pm cd doc a vs ns G Y ho hd hcd hmg hobj hints hlen hg
  have KX := hY w _ Y
  obtain ⟨fd, cs, sp, hT, hb, hsp, hF⟩ := F w mg fa _ KX G.T.g hmg fun y d c P h1 h2 h3 => by
    obtain ⟨t1, t2⟩ := PySem.W.tab_of G.T KX h1 h2
    exact ⟨t1, t2, h3⟩
  exact law_callT KX G.T.g G.T.b G.T.builtins G.T.nolimit hg hT G.T.bmain hobj hints (Nat.le_trans hlen hn2) hr hF hb fun H hT' hS => hsp H a ns hlen hT' hS
end Vk
namespace K10
open PySem PySem.Spec PyProof.Rows L2 Vk Vd
open K08 (prt low prt_ne prt_abs low_abs)
abbrev s_heard : Stmt := topS 30
theorem sc_heard : FnScope ["call", "found", "error", "e"] ["call"] (defScope s_heard) := ⟨rfl, rfl, rfl, by decide +kernel, rfl, by decide +kernel, by decide +kernel⟩
/-- what is known of the classes -/
structure Exs (K : PySem.W.Frag) (mg : Str → Option Value) (CT CF CS : Addr) : Prop where
  gT : mg "TallyError" = some (.ref CT)
  gN : mg "ByNought" = some (.ref CS)
  B : ExcT K mg "Singular" CF
  C : ExcC K CF
  e : PySem.W.exmOne K (.ref CF) (.ref CT) = some true
  kV : PySem.W.kitOne K (.ref CF) (.type "ValueError") = some true
  kB : PySem.W.kitOne K (.ref CF) (.ref CF) = some true
  kN : PySem.W.kitOne K (.ref CF) (.ref CS) = some false
/-- heard: the value alone in a new list, or the text of the refusal -/
def THeard (CF : Addr) : (XK → Hp → VK → Prop) → Hp → VK → Prop := fun tl H Q => ∀ (H1 : Hp) (Q' : VK), Same H H1 → (∀ v H', (∀ p, H' p = none → Q (.ref p) (upd H' p (.lst [v]))) → Q' v H') →
  tl (fun cls d H' => cls = .ref CF ∧ d = none ∧ ∀ a, H' a = none → Q (.str "singular") (upd H' a (ExK (.ref CF) none a))) H1 Q'
theorem heard_gives {X : Cx} {g CT CF CS : Addr} {cdg : Value} {q : Str} (T : Exs X.K X.mg CT CF CS) (m_isinstance : X.mg "isinstance" = none) (m_ValueError : X.mg "ValueError" = none) :
    LamX.GivesTo X ["call", "found", "error", "e"] "_law_heard" (defScope s_heard) g cdg (defBody s_heard) "call" q (THeard CF) := by
  have sc := sc_heard
  intro f c' s H Q tl act hc h
  refine ⟨_, (pss_cons (ps_asg (pe_tup (pa_cons pe_non (pa_cons pe_non pa_nil))) (pg_tup (by rfl) (pgs_cons (pg_name (i := 1) sc.nd rfl (Or.inl rfl)) (pgs_cons (pg_name (i := 2) sc.nd rfl (Or.inl rfl)) pgs_nil))))
    (pss_cons (ps_try_keep (i := 3) (c := .ref CT)
      (tb := fun W D σ H => ∃ Ech : XK, (∀ cls d σ' H', Ech cls d H' → W cls d σ' H') ∧ σ[0]? = some (some (.ref f)) ∧ H c' = some (LamX.CodeO c' q) ∧ tl Ech H (fun v H' => D.nx (σ.set 1 (some v)) H'))
      (ts := fun _ _ _ => tAsg (tVar 3) (gName 2))
      rfl rfl rfl sc.nd rfl rfl ⟨rfl, by decide, .inl T.gT⟩
      (fun W pn xe tk _ => ⟨fun pins s' σ H' D I h' => by
        obtain ⟨Ech, hW, h1, h2, h3⟩ := h'
        exact (pss_one (ps_set (i := 1) sc.nd rfl (Or.inl rfl) (act W pn xe Ech _ _ tk hW))).run pins s' σ H' D I ⟨h1, h2, h3⟩⟩)
      (fun a oe cls d pn _ _ => pss_one (ps_set (i := 2) sc.nd rfl (Or.inl rfl) (pv 3))))
    (pss_cons (ps_if (pt_cmpR op_isN (pv 2) pe_non (nomark _))
      (pss_one (ps_ret (pe_lst (pa_cons (pv 1) pa_nil))))
      pss_nil)
    (pss_cons (ps_if (pt_not (pt_val (pe_callB (call_isK T.C) (by rfl) m_isinstance (by decide +kernel) (pa_cons (pv 2) (pa_cons (pe_bltn (v := .ty "ValueError") (by rfl) m_ValueError (by decide +kernel) rfl) pa_nil)))))
      (pss_one (ps_ret pe_str))
      pss_nil)
    (pss_cons (ps_if (PW.pt (pw_and (pt_val (pe_callB (call_isK T.C) (by rfl) m_isinstance (by decide +kernel) (pa_cons (pv 2) (pa_cons (pe_glob (v := .ref CF) rfl T.B.g rfl) pa_nil)))) (pw_and1 (pt_not (pt_val (pe_callB (call_isK T.C) (by rfl) m_isinstance (by decide +kernel) (pa_cons (pv 2) (pa_cons (pe_glob (v := .ref CS) rfl T.gN rfl) pa_nil))))))))
      (pss_one (ps_ret pe_str))
      pss_nil)
    (pss_one (ps_ret pe_str))))))), ?_⟩
  refine ⟨by show 2 ≤ sizeLine; decide, fun p0 np0 => ⟨p0, [.non, .non], rfl, SqT.of upd_same, rfl, .non, [.non], rfl, .non, [], rfl, rfl, ?_⟩⟩
  have s0 : Same H (upd H p0 (.tup [.non, .non])) := same_new np0
  refine ⟨fun cls d H' => cls = .ref CF ∧ d = none ∧ ∀ a, H' a = none → Q (.str "singular") (upd H' a (ExK (.ref CF) none a)), ?_, rfl, s0 _ _ hc, ?_⟩
  · -- refused
    rintro _ _ σ' H' ⟨rfl, rfl, q1⟩
    refine ⟨T.e, fun hl a na => ⟨.ref a, ?_, ?_⟩⟩
    · rw [List.getElem?_set_self (by rw [hl]; exact (by decide : 3 < 4))]
    have q2 := q1 a na
    have hσ : ((((σ'.set 3 (some (V.ref a))).set 2 (some (V.ref a))).set 3 none)[2]? : Option (Option V)) = some (some (.ref a)) := by
      rw [List.getElem?_set_ne (by decide), List.getElem?_set_self (by rw [List.length_set, hl]; exact (by decide : 2 < 4))]
    have gE : upd H' a (ExK (.ref CF) none a) a = some (ExK (.ref CF) none a) := upd_same
    refine ⟨.ref a, hσ, rfl, _, rfl, ?_⟩
    rw [decide_eq_false (show ¬ V.ref a = V.non from fun z => by cases z)]
    refine iteF ⟨.ref a, hσ, a, .ty "ValueError", _, true, rfl, gE, .ty _, T.kV, _, rfl, iteF ?_⟩
    refine ⟨.ref a, hσ, a, .ref CF, _, true, rfl, gE, .own _, T.kB, _, rfl, iteT ?_⟩
    exact ⟨.ref a, hσ, a, .ref CS, _, false, rfl, gE, .own _, T.kN, _, rfl, iteT q2⟩
  · -- told
    refine h _ _ s0 fun v H' q1 => ?_
    refine ⟨.non, rfl, rfl, _, rfl, iteT ⟨v, rfl, by show 1 ≤ sizeLine; decide, fun p np => q1 p np⟩⟩
/-- the def that hears -/
def HeardF (K : PySem.W.Frag) (mg : Str → Option Value) (g : Addr) : Prop := mg "_law_heard" = some (.ref g) ∧ PySem.W.keepIn K (.ref g) = true ∧
  ∃ (oc kV doc pm cdv ct : Value) (od an : Option Addr) (osl : Array (Option Value)), K.lookup g = some ⟨oc, od, .func (PySem.W.fnOf "_law_heard" "_law_heard" (defArgs s_heard) (defBody s_heard) (defScope s_heard) .none kV doc pm an cdv ct), osl⟩ ∧
    PySem.W.codeIn K cdv "_law_heard" = true ∧ Binds K (PySem.W.fnOf "_law_heard" "_law_heard" (defArgs s_heard) (defBody s_heard) (defScope s_heard) .none kV doc pm an cdv ct) ["call"] []
/-- the reading of a call of the def that hears: refused, or told -/
theorem heard_read {T : List (Addr × Str)} {CF : Addr} {t : XK → TE} {σ : L2.St} {H : Hp} {Q : VK} (hT : LamX.Tabs T H) (Good : V → Hp → Prop) (hQ : ∀ x H', Good x H' → Q x H')
    (hb : ∀ (H1 : Hp) (E' : XK) (Q' : VK), LamX.ExtN H H1 → LamX.Tabs T H1 → (∀ H', Same H1 H' → (∀ e, H' e = none → Good (.str "singular") (upd H' e (ExK (.ref CF) none e))) → E' (.ref CF) none H') →
      (∀ v H', (∀ r, H' r = none → Good (.ref r) (upd H' r (.lst [v]))) → Q' v H') → t E' σ H1 Q') : LamX.tLam T (THeard CF) t σ H Q :=
  ⟨hT, fun H1 e1 T1 H2 Q' s2 hq => hb H2 _ Q' (ext_same e1 s2) (T1.ext s2) (fun H' s' g => ⟨rfl, rfl, fun a na => hQ _ _ (g a na)⟩) (fun v H' g => hq v H' fun p np => hQ _ _ (g p np))⟩

abbrev s_right : Stmt := topS 34
theorem sc_right : FnScope ["m", "size_so", "table", "unit", "column", "told", "det", "due", "i", "j"] ["m", "size_so"] (defScope s_right) := ⟨rfl, rfl, rfl, by decide +kernel, rfl, by decide +kernel, by decide +kernel⟩
theorem dot_S : ∀ (xs ys : List Int) (n : Nat), min xs.length ys.length ≤ n → dot xs ys = S n fun j => xs.getD j 0 * ys.getD j 0
  | [], ys, n, _ => by
    have e : (fun j => ([] : List Int).getD j 0 * ys.getD j 0) = fun _ => 0 := funext fun j => by
      show (0 : Int) * _ = 0
      rw [Int.zero_mul]
    rw [e, S_zero]
    rfl
  | x :: xs, [], n, _ => by
    have e : (fun j => (x :: xs).getD j 0 * ([] : List Int).getD j 0) = fun _ => 0 := funext fun j => by
      show _ * (0 : Int) = 0
      rw [Int.mul_zero]
    rw [e, S_zero]
    rfl
  | x :: xs, y :: ys, n, h => by
    obtain ⟨k, rfl⟩ : ∃ k, n = k + 1 := ⟨n - 1, by simp only [List.length_cons] at h; omega⟩
    rw [S_head]
    have e : dot (x :: xs) (y :: ys) = x * y + dot xs ys := by
      unfold dot
      rw [List.zipWith_cons_cons, List.sum_cons]
    rw [e, dot_S xs ys k (by simp only [List.length_cons] at h; omega)]
    rfl
theorem mul_rows {X Y : List (List Int)} {n : Nat} (lX : X.length = n) (lY : Y.length = n) (wX : ∀ r ∈ X, r.length = n) : mulI X Y = (List.range n).map fun i => (List.range n).map fun j => S n fun k => mL X i k * mL Y k j := by
  apply List.ext_getElem?
  intro i
  by_cases hi : i < n
  · have hx : X[i]? = some (X[i]'(by omega)) := List.getElem?_eq_getElem _
    generalize X[i]'(by omega) = x at hx
    unfold mulI
    rw [List.getElem?_map, hx, List.getElem?_map, List.getElem?_range hi, lY]
    show some _ = some _
    congr 1
    apply List.ext_getElem?
    intro j
    by_cases hj : j < n
    · rw [List.getElem?_map, colsI_at hj, List.getElem?_map, List.getElem?_range hj]
      show some _ = some _
      congr 1
      show dot (Y.map fun r => r.getD j 0) x = S n fun k => mL X i k * mL Y k j
      rw [dot_comm, dot_S x _ n (by rw [wX x (List.mem_of_getElem? hx)]; exact Nat.min_le_left _ _)]
      refine S_congr _ fun k hk => ?_
      rw [mL_at hx]
      congr 1
      rw [List.getD_eq_getElem?_getD, List.getElem?_map]
      unfold mL
      rw [List.getD_eq_getElem?_getD (l := Y), List.getElem?_eq_getElem (by omega)]
      rfl
    · rw [List.getElem?_eq_none (by rw [List.length_map, colsI_len]; omega), List.getElem?_eq_none (by rw [List.length_map, List.length_range]; omega)]
  · rw [List.getElem?_eq_none (by unfold mulI; rw [List.length_map]; omega), List.getElem?_eq_none (by rw [List.length_map, List.length_range]; omega)]
def unitD (n : Nat) (d : Int) : List (List Int) := (List.range n).map fun i => (List.range n).map fun j => if i = j then d else 0
theorem mL_adj {B : List (List Int)} {i j : Nat} (hi : i < B.length) (hj : j < B.length) : mL (adjI B) i j = cof (B.length - 1) (mL B) j i := by
  have e : (adjI B)[i]? = some ((List.range B.length).map fun j => cof (B.length - 1) (mL B) j i) := by
    unfold adjI
    rw [List.getElem?_map, List.getElem?_range hi]
    rfl
  rw [mL_at e, List.getD_eq_getElem?_getD, List.getElem?_map, List.getElem?_range hj]
  rfl
theorem unit_r {B : List (List Int)} (hw : ∀ r ∈ B, r.length = B.length) : mulI B (adjI B) = unitD B.length (det B.length (mL B)) := by
  rw [mul_rows rfl (adjI_len B) hw]
  unfold unitD
  refine List.map_congr_left fun i hi => List.map_congr_left fun j hj => ?_
  have hi := List.mem_range.mp hi
  have hj := List.mem_range.mp hj
  obtain ⟨n, hn⟩ : ∃ n, B.length = n + 1 := ⟨B.length - 1, by omega⟩
  have c := cof_row (n := n) (mL B) (i := i) (k := j) (by omega) (by omega)
  rw [hn]
  rw [hn] at hi hj
  rw [← c]
  refine S_congr _ fun k hk => ?_
  rw [mL_adj (by omega) (by omega), hn]
  rfl
theorem unit_l {B : List (List Int)} : mulI (adjI B) B = unitD B.length (det B.length (mL B)) := by
  rw [mul_rows (adjI_len B) rfl fun r hr => by
    unfold adjI at hr
    obtain ⟨i, _, rfl⟩ := List.mem_map.mp hr
    rw [List.length_map, List.length_range]]
  unfold unitD
  refine List.map_congr_left fun i hi => List.map_congr_left fun j hj => ?_
  have hi := List.mem_range.mp hi
  have hj := List.mem_range.mp hj
  obtain ⟨n, hn⟩ : ∃ n, B.length = n + 1 := ⟨B.length - 1, by omega⟩
  have c := cof_col (n := n) (mL B) (i := i) (k := j) (by omega) (by omega)
  rw [hn]
  rw [hn] at hi hj
  rw [← c]
  refine S_congr _ fun k hk => ?_
  rw [mL_adj (by omega) (by omega), hn]
  rfl
theorem fit_big {k : Nat} (L : Nat) (xs : List Int) (h : ∀ x ∈ xs, SmZ 1900 x) (hl : xs.length ≤ L) : FitN (k + 1) L (dRow xs) := by
  have q := fit_all (k := k) (a := 0) L (xs.map PyData.int) (fun d hd => by
    obtain ⟨x, hx, rfl⟩ := List.mem_map.mp hd
    exact FitN.int (h x hx)) (by rw [List.length_map]; exact hl)
  rw [Nat.zero_add, Nat.one_mul] at q
  exact FitN.tup q
theorem fit_tab {R : List (List Int)} (h : ∀ r ∈ R, r.length ≤ 9 ∧ ∀ x ∈ r, SmZ 1900 x) (hl : R.length ≤ 9) : FitN 2 90 (.tuple (R.map dRow)) := by
  refine .tup (fit_all (k := 1) (a := 9) 9 _ (fun d hd => ?_) (by rw [List.length_map]; exact hl))
  obtain ⟨z, hz, rfl⟩ := List.mem_map.mp hd
  exact fit_big (k := 0) 9 z (h z hz).2 (h z hz).1
theorem dp_rw {K : PySem.W.Frag} {H : Hp} {a : Addr} {ps : List Addr} {R : List (List Int)} (h : Tp H a (ps.map V.ref)) (w : Rw H ps R) : Dp K H (.ref a) (.tuple (R.map dRow)) := .tup h.t (dp_all ps _ (by rw [List.length_map, w.1]) fun i q d e1 e2 => by
  obtain ⟨z, hz, rfl⟩ := map_get e2
  exact dp_row (w.2 i q z e1 hz))
def spSolvedAll (C : Addr) : Sp := fun vs H Q E => spSolved vs H Q E ∨ spSolvedX C vs H Q E
/-- all but m and the tables of lambdas is kept -/
def ExtB (m : Addr) (H H' : Hp) : Prop := ∀ b o, b ≠ m → H b = some o → (∀ ps, o ≠ .tbl ps) → H' b = some o
theorem ExtB.refl (m : Addr) (H : Hp) : ExtB m H H := fun _ _ _ h _ => h
theorem ExtB.trans {m : Addr} {H H1 H2 : Hp} (a : ExtB m H H1) (b : ExtB m H1 H2) : ExtB m H H2 := fun c o n h t => b c o n (a c o n h t) t
theorem ExtB.of {m : Addr} {H H1 : Hp} (a : SameBut m H H1) : ExtB m H H1 := fun c o n h _ => a c o n h
theorem ExtB.ext {m : Addr} {H H1 : Hp} (a : LamX.ExtN H H1) : ExtB m H H1 := fun c o _ h t => a c o h t
def spRight (T : List (Addr × Str)) : Sp := fun vs H Q _ => ∃ (m c : Addr) (q n : Nat), vs = [.ref m, .int n] ∧ MOk H m c q ∧ q ≤ 3500 ∧ n ≤ 5 ∧ LamX.Tabs T H ∧ ∀ H', ExtB m H H' → LamX.Tabs T H' → MOk H' m c (q + 150) → Q (.bl true) H'
theorem tp_ext {H H' : Hp} {a : Addr} {xs : List V} (h : Tp H a xs) (e : LamX.ExtN H H') : Tp H' a xs := e _ _ h fun ps z => by cases z
theorem TabR.ext {H H' : Hp} {a : Addr} {B : List (List Int)} {n : Nat} (h : TabR H a B n) (e : LamX.ExtN H H') : TabR H' a B n := by
  obtain ⟨ps, h1, h2⟩ := h
  exact ⟨ps, tp_ext h1 e, h2.1, fun i p r a b => ⟨⟨tp_ext (h2.2 i p r a b).1.1 e, (h2.2 i p r a b).1.2⟩, (h2.2 i p r a b).2⟩⟩
theorem row_ext {H H' : Hp} {a : Addr} {xs : List Int} (h : Row H a xs) (e : LamX.ExtN H H') : Row H' a xs := ⟨tp_ext h.1 e, h.2⟩
def dPr (x : Int × Int) : PyData := .tuple [.int x.1, .int x.2]
theorem Prs.dp {K : PySem.W.Frag} {H : Hp} {ps : List Addr} {zs : List (Int × Int)} (h : Prs H ps zs) : DpAll K H (ps.map V.ref) (zs.map dPr) := dp_all ps _ (by rw [List.length_map, h.1]) fun i q d e1 e2 => by
  obtain ⟨z, hz, rfl⟩ := map_get e2
  have g := h.2 i q z e1 hz
  exact .tup (SqT.of g) (.cons (.int _) (.cons (.int _) .nil))
theorem Prs.same {H H' : Hp} {ps : List Addr} {zs : List (Int × Int)} (h : Prs H ps zs) (s : Same H H') : Prs H' ps zs := ⟨h.1, fun i p z a b => (h.2 i p z a b).same s⟩
section
variable {P : Program} {w : World} {K : PySem.W.Frag} {mg : Str → Option Value} {base : Heap}
theorem ok_right {f c2 P2 gH CT CF CS : Addr} {T : List (Addr × Str)} {oc kV doc pm ct : Value} {od an : Option Addr} {osl : Array (Option Value)}
    (lk : K.lookup f = some ⟨oc, od, .func (PySem.W.fnOf "_law_right" "_law_right" (defArgs s_right) (defBody s_right) (defScope s_right) .none kV doc pm an (.ref c2) ct), osl⟩) (hcd : PySem.W.codeIn K (.ref c2) "_law_right" = true)
    (TB : LamX.TabB base mg c2 P2) (hT : (P2, ("_law_right.<locals>.<lambda>" : Str)) ∈ T) (hu : ∀ p ∈ T, p.1 = P2 → p.2 = "_law_right.<locals>.<lambda>") (HF : HeardF K mg gH) (X : Exs K mg CT CF CS)
    (C__law_table : Cal P w K mg base 3 "_law_table" ["m", "size_so"] spTable) (C__law_det : Cal P w K mg base 7 "_law_det" ["table"] (spLd 6)) (C__law_adjoint : Cal P w K mg base 8 "_law_adjoint" ["table"] spLadj) (C__law_like : CalG P w K mg base 1 "_law_like" ["got", "due"] (spLike K)) (C_adjoint : Cal P w K mg base 5 "adjoint" ["table"] spAdj) (C_times_table : Cal P w K mg base 4 "times_table" ["one", "other"] spTtab)
    (C__law_signed : Cal P w K mg base 2 "_law_signed" ["m", "most"] spSignedB) (C__law_solved : Cal P w K mg base 8 "_law_solved" ["table", "column"] spLsolved) (C_solved : CalX P w K mg base 5 "solved" ["table", "column"] (spSolvedAll CF))
    (m_isinstance : mg "isinstance" = none) (m_ValueError : mg "ValueError" = none) (m_tuple : mg "tuple" = none) (m_range : mg "range" = none) :
    FnG P w K mg base 9 f (PySem.W.fnOf "_law_right" "_law_right" (defArgs s_right) (defBody s_right) (defScope s_right) .none kV doc pm an (.ref c2) ct) ["m", "size_so"] (spRight T) := by
  have sc := sc_right
  refine fnG_of lk hcd sc (fun vs H Q E h => ?_) (fun A outer s H vs Q E hG0 hr h => ?_)
  · obtain ⟨m, c, q, n, rfl, _⟩ := h
    rfl
  · obtain ⟨m, c, q, n, rfl, hM, hq, hn, hTab, k⟩ := h
    have hG : Quiet (cxOf CX0 P w K mg base ["m", "size_so", "table", "unit", "column", "told", "det", "due", "i", "j"] "_law_right" (defScope s_right) f (.ref c2) A outer s H E).nox.A := hG0.deeper _
    obtain ⟨gH1, gH2, ocH, kVH, docH, pmH, cdvH, ctH, odH, anH, oslH, lkH, hcH, bH⟩ := HF
    obtain ⟨fO, fdO, FO, gO, kO, bO⟩ := C_solved
    refine ⟨_, (pss_cons (ps_set (i := 2) sc.nd rfl (Or.inr rfl) (call_ C__law_table (hr.mono (by decide)) (by rfl) (pa_cons (pv 0) (pa_cons (pv 1) pa_nil))))
    (pss_cons (ps_asg (pe_tup (pa_cons (call_ C__law_det (hr.mono (by decide)) (by rfl) (pa_cons (pv 2) pa_nil)) (pa_cons (call_ C__law_adjoint (hr.mono (by decide)) (by rfl) (pa_cons (pv 2) pa_nil)) pa_nil))) (pg_tup (n := 2) (by rfl) (pgs_cons (pg_name (i := 6) sc.nd rfl (Or.inr rfl)) (pgs_cons (pg_name (i := 7) sc.nd rfl (Or.inl rfl)) pgs_nil))))
    (pss_cons (ps_set (i := 3) sc.nd rfl (Or.inl rfl) (pe_callTy call_tuple_of (by rfl) m_tuple (by decide +kernel) (pa_cons (pe_lc (own := [("i", 8)]) (g := gName 8) (by rfl) sc.nd (pi_range1 rfl m_range (pa_cons (pv 1) pa_nil)) (blkOk_by (own := [("i", 8)]) (N := ["m", "size_so", "table", "unit", "column", "told", "det", "due", "i", "j"]) (sc := defScope s_right) (by decide +kernel)) (fun _ _ _ _ _ => pg_name (i := 8) sc.nd rfl (Or.inr rfl)) (fun _ _ _ _ _ => pts_nil) (fun _ _ _ _ _ => (pe_callTy (call_tuple_ofK (K := K) rfl) (by rfl) m_tuple (by decide +kernel) (pa_cons (pe_lc (own := [("j", 9)]) (g := gName 9) (by rfl) sc.nd (pi_range1 rfl m_range (pa_cons (pv 1) pa_nil)) (blkOk_by (own := [("j", 9)]) (N := ["m", "size_so", "table", "unit", "column", "told", "det", "due", "i", "j"]) (sc := { kind := .function, names := [(".0", .local), ("i", .cell), ("tuple", .globalImplicit), ("range", .globalImplicit), ("det", .cell), ("size_so", .cell)], isGenerator := false, isCoroutine := false }) (by decide +kernel)) (fun _ _ _ _ _ => pg_name (i := 9) sc.nd rfl (Or.inl rfl)) (fun _ _ _ _ _ => pts_nil) (fun _ _ _ _ _ => (pe_ifExp (pt_cmpR op_eq (pv 8) (pv 9) (nomark _)) (pv 6) pe_int))) pa_nil)))) pa_nil)))
    (pss_cons (ps_if (pt_not (pt_val (callG hG C__law_like (hr.mono (by decide)) (by rfl) (pa_cons (pe_lst (pa_cons (call_ C_adjoint (hr.mono (by decide)) (by rfl) (pa_cons (pv 2) pa_nil)) (pa_cons (call_ C_times_table (hr.mono (by decide)) (by rfl) (pa_cons (pv 2) (pa_cons (pv 7) pa_nil))) (pa_cons (call_ C_times_table (hr.mono (by decide)) (by rfl) (pa_cons (pv 7) (pa_cons (pv 2) pa_nil))) pa_nil)))) (pa_cons (pe_lst (pa_cons (pv 7) (pa_cons (pv 3) (pa_cons (pv 3) pa_nil)))) pa_nil)))))
      (pss_one (ps_ret pe_bl))
      pss_nil)
    (pss_cons (ps_set (i := 4) sc.nd rfl (Or.inr rfl) (pe_callTy call_tuple_of (by rfl) m_tuple (by decide +kernel) (pa_cons (pe_lc (own := [("i", 8)]) (g := gName 8) (by rfl) sc.nd (pi_range1 rfl m_range (pa_cons (pv 1) pa_nil)) (blkOk_by (own := [("i", 8)]) (N := ["m", "size_so", "table", "unit", "column", "told", "det", "due", "i", "j"]) (sc := defScope s_right) (by decide +kernel)) (fun _ _ _ _ _ => pg_name (i := 8) sc.nd rfl (Or.inl rfl)) (fun _ _ _ _ _ => pts_nil) (fun _ _ _ _ _ => (call_ C__law_signed (hr.mono (by decide)) (by rfl) (pa_cons (pv 0) (pa_cons pe_int pa_nil))))) pa_nil)))
    (pss_cons (ps_set (i := 5) sc.nd rfl (Or.inl rfl) (LamX.pe_lamcall (T := T) (k := 6) (TT := THeard CF) (t := fun E => tCall (spSolvedAll CF) [] E (tCons (tVar 2) (tCons (tVar 4) tNil))) rfl gH1 gH2 lkH hcH bH sc_heard rfl (Or.inl rfl) (heard_gives X m_isinstance m_ValueError) TB rfl hT hu (hr.mono (by decide)) (LamX.lamS_by (sc := defScope s_right) (by decide +kernel)) rfl (fun _ _ _ _ _ => rfl)
      (fun A' outer' s' H' E' f' c' hr' => pe_call FO (hr'.mono (by decide)) (by rfl) gO kO bO .nil (passes_call (takes_of rfl rfl rfl rfl) (fun _ _ _ _ z => z)) (pa_cons (pv 2) (pa_cons (pv 4) pa_nil)))))
    (pss_one (ps_ret (callG hG C__law_like (hr.mono (by decide)) (by rfl) (pa_cons (pv 5) (pa_cons (pe_ifExp (pt_cmpR op_eq (pv 6) pe_int (nomark _)) pe_str (pe_lst (pa_cons (call_ C__law_solved (hr.mono (by decide)) (by rfl) (pa_cons (pv 2) (pa_cons (pv 4) pa_nil))) pa_nil))) pa_nil))))))))))), ?_⟩
    refine ⟨.ref m, rfl, .int n, rfl, m, c, q, n, rfl, hM, by omega, hn, fun H1 a B b1 M1 TB1 lB zB => ?_⟩
    have TBl : TabR H1 a B B.length := by rw [lB]; exact TB1
    obtain ⟨kv0, hm0⟩ := hM.m_some
    have tab1 := tabs_but hTab hm0 b1
    obtain ⟨dv, hdv⟩ : ∃ dv, dv = det B.length (mL B) := ⟨_, rfl⟩
    have wid := TBl.w
    have zdv : SmZ 600 dv := by
      rw [hdv]
      have h := det_abs (k := 68) B.length (mL B) (by omega) (mL_smk zB)
      refine Nat.lt_of_le_of_lt h (Nat.pow_lt_pow_right (by decide) ?_)
      have : B.length * (68 + 4) ≤ 5 * 72 := Nat.mul_le_mul (by omega) (by omega)
      omega
    refine ⟨.ref a, rfl, a, B, rfl, TBl, by omega, fun H2 s2 => ?_⟩
    rw [← hdv]
    refine ⟨.ref a, rfl, a, B, rfl, TBl.same s2, by omega, zB, fun ra H3 s3 TA => ?_⟩
    refine ⟨by show 2 ≤ sizeLine; decide, fun T0 nT0 => ?_⟩
    have s4 : Same H3 (upd H3 T0 (.tup [.int dv, .ref ra])) := same_new nT0
    have g4 : Tp (upd H3 T0 (.tup [.int dv, .ref ra])) T0 [.int dv, .ref ra] := upd_same
    generalize upd H3 T0 (.tup [.int dv, .ref ra]) = H4 at s4 g4 ⊢
    refine ⟨T0, _, rfl, g4.t, rfl, .int dv, [.ref ra], rfl, .ref ra, [], rfl, rfl, ?_⟩
    have s14 := (s2.trans s3).trans s4
    refine ⟨.int n, rfl, (n : Int), rfl, by omega, by omega, fun D nD => ?_⟩
    rw [Int.toNat_natCast]
    refine lc_tps (walk_range (lo := 0) (n := n)) (unitD n dv) (by unfold unitD; rw [List.length_map, List.length_range]) (small (by omega)) nD (fun H' s => True.intro) ?_ ?_
    · rintro i x y H5 H5' Qy hy hi s5 ⟨rfl, rfl⟩ hq
      unfold unitD at hy
      rw [List.getElem?_map, List.getElem?_range hi] at hy
      obtain rfl := Option.some.inj hy
      refine ⟨rfl, .int n, rfl, (n : Int), rfl, by omega, by omega, fun D2 nD2 => ?_⟩
      rw [Int.toNat_natCast]
      refine lc_to (walk_range (lo := 0) (n := n)) (((List.range n).map fun j => if i = j then dv else 0).map V.int) (by rw [List.length_map, List.length_map, List.length_range]) (small (by omega)) nD2 (fun H' s => True.intro) ?_ ?_
      · rintro j x v9 H9 H9' Qy hv9 hj s9 ⟨rfl, rfl⟩ hq
        obtain ⟨u9, hu9, rfl⟩ := map_get hv9
        rw [List.getElem?_map, List.getElem?_range hj] at hu9
        have eu : u9 = if i = j then dv else 0 := (Option.some.inj hu9).symm
        refine ⟨rfl, .int (0 + i), rfl, .int (0 + j), rfl, rfl, _, rfl, ite2 (fun z => ?_) (fun z => ?_)⟩
        · have z := V.int.inj (of_decide_eq_true z)
          rw [if_pos (by omega)] at eu
          rw [eu] at hq
          exact ⟨.int dv, rfl, hq _ (Same.refl _)⟩
        · have z : ¬ (0 + (i : Int) = 0 + j) := fun y => z (decide_eq_true (by rw [y]))
          rw [if_neg (by omega)] at eu
          rw [eu] at hq
          exact hq _ (Same.refl _)
      · intro H9 s9 d9
        exact ⟨D2, _, rfl, .inl ⟨SqL.of d9, fun T' nT' => hq T' _ (s9.trans (same_new nT')) upd_same⟩⟩
    intro H5 us s5 d5 W5
    refine ⟨D, _, rfl, .inl ⟨SqL.of d5, fun U nU => ?_⟩⟩
    have s6 : Same H5 (upd H5 U (.tup (us.map V.ref))) := same_new nU
    have g6 : Tp (upd H5 U (.tup (us.map V.ref))) U (us.map V.ref) := upd_same
    generalize upd H5 U (.tup (us.map V.ref)) = H6 at s6 g6 ⊢
    have W6 := W5.same s6
    have s46 := s5.trans s6
    have s16 := s14.trans s46
    have TA6 := TA.same (s4.trans s46)
    have la := adjI_len B
    refine ⟨.ref a, rfl, a, B, rfl, TBl.same s16, by omega, fun r1 p1 H7 s7 g7 W7 => ?_⟩
    refine ⟨.ref a, rfl, .ref ra, rfl, a, ra, B, adjI B, rfl, by rw [la]; exact TBl.same (s16.trans s7), by rw [la]; exact TA6.same s7, by omega, by omega, fun r2 p2 H8 s8 g8 W8 => ?_⟩
    refine ⟨.ref ra, rfl, .ref a, rfl, ra, a, adjI B, B, rfl, TA6.same (s7.trans s8), TBl.same (s16.trans (s7.trans s8)), by omega, by omega, fun r3 p3 H9 s9 g9 W9 => ?_⟩
    rw [unit_r (fun r hr => (wid r hr).1), ← hdv, lB] at W8
    rw [unit_l, ← hdv, lB] at W9
    refine ⟨by show 3 ≤ sizeLine; decide, fun L nL => ?_⟩
    have s10 : Same H9 (upd H9 L (.lst [.ref r1, .ref r2, .ref r3])) := same_new nL
    have g10 : upd H9 L (.lst [.ref r1, .ref r2, .ref r3]) L = some (.lst [.ref r1, .ref r2, .ref r3]) := upd_same
    generalize upd H9 L (.lst [.ref r1, .ref r2, .ref r3]) = H10 at s10 g10 ⊢
    refine ⟨.ref ra, rfl, .ref U, rfl, .ref U, rfl, by show 3 ≤ sizeLine; decide, fun L2 nL2 => ?_⟩
    have s11 : Same H10 (upd H10 L2 (.lst [.ref ra, .ref U, .ref U])) := same_new nL2
    have g11 : upd H10 L2 (.lst [.ref ra, .ref U, .ref U]) L2 = some (.lst [.ref ra, .ref U, .ref U]) := upd_same
    generalize upd H10 L2 (.lst [.ref ra, .ref U, .ref U]) = H11 at s11 g11 ⊢
    have s911 := s10.trans s11
    have s811 := s9.trans s911
    have s711 := s8.trans s811
    have s611 := s7.trans s711
    have dA1 : Dp K H11 (.ref r1) (.tuple ((adjI B).map dRow)) := dp_rw (g7.same s711) (W7.same s711)
    have dA2 : Dp K H11 (.ref ra) (.tuple ((adjI B).map dRow)) := dp_rows (TA6.same s611)
    have dU : Dp K H11 (.ref U) (.tuple ((unitD n dv).map dRow)) := dp_rw (g6.same s611) (W6.same s611)
    have dU2 : Dp K H11 (.ref r2) (.tuple ((unitD n dv).map dRow)) := dp_rw (g8.same s811) (W8.same s811)
    have dU3 : Dp K H11 (.ref r3) (.tuple ((unitD n dv).map dRow)) := dp_rw (g9.same s911) (W9.same s911)
    have fA : FitN 2 90 (.tuple ((adjI B).map dRow)) := fit_tab (fun r hr => by
      obtain ⟨w1, w2⟩ := adjI_row (by omega) zB r hr
      exact ⟨by omega, fun x hx => smz_mono (w2 x hx) (by decide)⟩) (by omega)
    have fU : FitN 2 90 (.tuple ((unitD n dv).map dRow)) := fit_tab (fun r hr => by
      unfold unitD at hr
      obtain ⟨i, _, rfl⟩ := List.mem_map.mp hr
      refine ⟨by rw [List.length_map, List.length_range]; omega, fun x hx => ?_⟩
      obtain ⟨j, _, rfl⟩ := List.mem_map.mp hx
      split
      · exact smz_mono zdv (by decide)
      · decide) (by unfold unitD; rw [List.length_map, List.length_range]; omega)
    refine ⟨.ref L, .ref L2, .list [.tuple ((adjI B).map dRow), .tuple ((unitD n dv).map dRow), .tuple ((unitD n dv).map dRow)], rfl, .lst (SqL.of (s11 _ _ g10)) (.cons dA1 (.cons dU2 (.cons dU3 .nil))), .lst (SqL.of g11) (.cons dA2 (.cons dU (.cons dU .nil))), FitN.mono (FitN.list (k := 2) (n := 300) (.cons (n := 300) fA (.cons (n := 200) fU (.cons (n := 100) fU (.nil (n := 0)) (by decide)) (by decide)) (by decide))) (by decide) (by decide), _, rfl, iteF ?_⟩
    have s111 := s16.trans s611
    have M11 := M1.same s111
    have tab11 := tab1.ext s111
    have TB11 := TBl.same s111
    clear dA1 dA2 dU dU2 dU3 fA fU g11 g10 nL2 nL W9 W8 W7 g9 g8 g7 W6 g6 nU TA6 TA
    refine ⟨.int n, rfl, (n : Int), rfl, by omega, by omega, fun D3 nD3 => ?_⟩
    rw [Int.toNat_natCast]
    obtain ⟨kv11, hm11⟩ := M11.m_some
    refine lc_dr (w := 2) (q := q + 80) (m := m) (c := c) (fun _ x => -50 ≤ x ∧ x ≤ 50) (small (by omega)) M11 nD3 ?_ ?_
    · intro j H4 Qy hj _ M' hQ
      exact ⟨rfl, .ref m, rfl, m, c, q + 80 + 2 * j, 50, rfl, M', by omega, by decide, by decide, fun H5 v b5 M5 v0 v1 => hQ H5 _ b5 M5 ⟨v0, v1⟩⟩
    intro H12 xs b12 M12 d12 l12 bd
    have bd := all_of_get bd
    refine ⟨D3, _, rfl, .inl ⟨SqL.of d12, fun Tr nTr => ?_⟩⟩
    have s13 : Same H12 (upd H12 Tr (.tup (xs.map V.int))) := same_new nTr
    have g13 : Tp (upd H12 Tr (.tup (xs.map V.int))) Tr (xs.map V.int) := upd_same
    generalize upd H12 Tr (.tup (xs.map V.int)) = H13 at s13 g13 ⊢
    have Rx : Row H13 Tr xs := ⟨g13, by omega, fun x hx => by
      have := bd x hx
      exact Nat.lt_of_le_of_lt (show x.natAbs ≤ 50 by omega) (by decide)⟩
    have TB13 := (TB11.but hm11 b12).same s13
    have M13 := M12.same s13
    have tab13 := (tabs_but tab11 hm11 b12).ext s13
    have eB : ExtB m H H13 := ((ExtB.of b1).trans (ExtB.of (SameBut.of s111))).trans ((ExtB.of b12).trans (ExtB.of (SameBut.of s13)))
    have lxB : xs.length = B.length := by omega
    have zB110 : ∀ r ∈ B, ∀ x ∈ r, SmZ 110 x := fun r hr x hx => smz_mono (zB r hr x hx) (by decide)
    have fo : dv ≠ 0 → Fit (.list [.tuple ((solI B xs).map dPr)]) := fun z0 => by
      have fp : ∀ d ∈ (solI B xs).map dPr, FitN 1 2 d := fun d hd => by
        obtain ⟨z, hz, rfl⟩ := List.mem_map.mp hd
        obtain ⟨j, hj⟩ := List.getElem?_of_mem hz
        have jl := (List.getElem?_eq_some_iff.mp hj).1
        rw [sol_len] at jl
        rw [sol_at jl, ← hdv] at hj
        obtain rfl := Option.some.inj hj
        have zr := repD_sm (by omega) lxB jl (fun r hr => ⟨(wid r hr).1, (wid r hr).2⟩) Rx.2.2
        have bz : ((dv.natAbs : Int)) ≠ 0 := by omega
        obtain ⟨a1, a2⟩ := low_abs (a := sgnZ dv * repD (colsI B B.length) xs j) bz
        have zs : SmZ 2 (sgnZ dv) := by
          unfold sgnZ
          split <;> decide
        have z1 : SmZ 1900 (sgnZ dv * repD (colsI B B.length) xs j) := smz_mono (smz_mul zs zr) (by decide)
        refine .tup (.cons (n := 2) (a := 0) (b := 1) (FitN.int (Nat.lt_of_le_of_lt a1 z1)) (.cons (n := 1) (a := 0) (b := 0) (FitN.int (Nat.lt_of_le_of_lt a2 ?_)) .nil (by decide)) (by decide))
        rw [Int.natAbs_natCast]
        exact smz_mono zdv (by decide)
      exact FitN.mono (FitN.list (k := 2) (n := 40) (.cons (n := 40) (FitN.tup (k := 1) (fit_all (k := 1) (a := 2) 5 _ fp (by rw [List.length_map, sol_len]; omega))) (.nil (n := 0)) (by decide))) (by decide) (by decide)
    refine heard_read tab13 (fun x H' => LamX.ExtN H13 H' ∧ LamX.Tabs T H' ∧ ((dv = 0 ∧ x = .str "singular") ∨ (dv ≠ 0 ∧ ∃ e r ps, x = .ref e ∧ H' e = some (.lst [.ref r]) ∧ Tp H' r ((ps : List Addr).map V.ref) ∧ Prs H' ps (solI B xs)))) ?_ ?_
    · rintro x H14 ⟨e14, T14, hx⟩
      refine ⟨x, rfl, .int dv, rfl, rfl, _, rfl, tif_bothH (fun y H' => Same H14 H' ∧ ∃ d, Dp K H' x d ∧ Dp K H' y d ∧ Fit d) ?_ ?_ ?_⟩
      · rintro y H15 ⟨s15, d, dx, dy, fd2⟩
        exact ⟨x, y, d, rfl, dx, dy, fd2, k _ (eB.trans ((ExtB.ext e14).trans (ExtB.of (SameBut.of s15)))) (T14.ext s15) (((M13.ext e14).same s15).mono (by omega))⟩
      · intro hc hQ
        have hu0 : dv = 0 := V.int.inj (of_decide_eq_true hc)
        rcases hx with ⟨_, rfl⟩ | ⟨z, _⟩
        · exact hQ _ _ ⟨Same.refl _, .str "singular", .str _, .str _, FitN.str "singular" (by decide +kernel) (by decide +kernel)⟩
        · exact absurd hu0 z
      · intro hc hQ
        have hu0 : dv ≠ 0 := fun z => of_decide_eq_false hc (by rw [z])
        rcases hx with ⟨z, _⟩ | ⟨_, e, r, ps, rfl, he, hr', hp'⟩
        · exact absurd z hu0
        refine ⟨.ref a, rfl, .ref Tr, rfl, a, Tr, B, xs, rfl, TB13.ext e14, by omega, row_ext Rx e14, lxB, by rw [← hdv]; exact hu0, zB110, fun y py H15 s15 g15 W15 => ?_⟩
        refine ⟨by show 1 ≤ sizeLine; decide, fun Y nY => hQ _ _ ⟨s15.trans (same_new nY), .list [.tuple ((solI B xs).map dPr)], ?_, ?_, fo hu0⟩⟩
        · have sY := same_new (o := .lst [.ref y]) nY
          exact .lst (SqL.of (sY _ _ (s15 _ _ he))) (.cons (.tup ((hr'.same s15).same sY).t ((hp'.same s15).same sY).dp) .nil)
        · have sY := same_new (o := .lst [.ref y]) nY
          exact .lst (SqL.of upd_same) (.cons (.tup (g15.same sY).t (W15.same sY).dp) .nil)
    · intro H10 E' Q' e10 T10 hE hQ
      by_cases z : dv = 0
      · exact ⟨.ref a, rfl, .ref Tr, rfl, .inr ⟨a, Tr, B, rfl, TB13.ext e10, by omega, by rw [← hdv]; exact z, fun H' s' => hE H' s' fun e ne => ⟨ext_same (ext_same e10 s') (same_new ne), (T10.ext s').ext (same_new ne), .inl ⟨z, rfl⟩⟩⟩⟩
      · exact ⟨.ref a, rfl, .ref Tr, rfl, .inl ⟨a, Tr, B, xs, rfl, TB13.ext e10, by omega, row_ext Rx e10, lxB, by rw [← hdv]; exact z, zB110, fun r ps H' s' g' W' => hQ _ _ fun e ne => ⟨ext_same (ext_same e10 s') (same_new ne), (T10.ext s').ext (same_new ne), .inr ⟨z, e, r, ps, rfl, upd_same, g'.same (same_new ne), W'.same (same_new ne)⟩⟩⟩⟩
end
end K10
namespace K10
open PySem PySem.Spec PyProof.Rows L2 Vk Vd
open K08 (prt low prt_ne prt_abs low_abs)
abbrev s_law : Stmt := topS 35
theorem sc_law : FnScope ["script", "turn", "told", "m", "size_so"] ["script"] (defScope s_law) := ⟨rfl, rfl, rfl, by decide +kernel, rfl, by decide +kernel, by decide +kernel⟩
def spLaw (T : List (Addr × Str)) (K : PySem.W.Frag) : Sp := fun vs H Q _ => ∃ (a : Addr) (ns : List Int), vs = [.ref a] ∧ SqL K H a (ns.map V.int) ∧ ns.length ≤ 63 ∧ LamX.Tabs T H ∧ ∀ H', Q (.bl true) H'
theorem ext_B {m : Addr} {H H1 H2 : Hp} (nm : H m = none) (s : Same H H1) (b : ExtB m H1 H2) : LamX.ExtN H H2 := fun a o h n => b a o (ne_of_none h nm) (s a o h) n
section
variable {P : Program} {w : World} {K : PySem.W.Frag} {mg : Str → Option Value} {base : Heap}
theorem ok_ldetB {f : Addr} {fd : FuncData} (F : Fun K "_law_det" "_law_det" s_ldet f fd) : FnOk P w K mg base CX0 1 f fd ["table"] (spLd 0) := by
  refine F.ok sc_ldet (fun vs H Q E h => ?_) (fun cdv A outer s H vs Q E hr h => ?_)
  · obtain ⟨a, B, rfl, _⟩ := h
    rfl
  · obtain ⟨a, B, rfl, _, l, _⟩ := h
    exact absurd l (Nat.not_lt_zero _)
theorem ok_law {f : Addr} {fd : FuncData} {T : List (Addr × Str)} (F : Fun K "law" "law" s_law f fd) (C__law_begun : Cal P w K mg base 1 "_law_begun" ["script", "k_so"] (spBegun K)) (C__law_draw : Cal P w K mg base 1 "_law_draw" ["m", "bound"] spDraw) (C__law_right : CalG P w K mg base 9 "_law_right" ["m", "size_so"] (spRight T)) (C_adjoint : Cal P w K mg base 5 "adjoint" ["table"] spAdj) (C_solved : Cal P w K mg base 5 "solved" ["table", "column"] spSolved) (C__law_like : CalG P w K mg base 1 "_law_like" ["got", "due"] (spLike K))
    (m_range : mg "range" = none) : FnG P w K mg base 10 f fd ["script"] (spLaw T K) := by
  have sc := sc_law
  refine okG F sc (fun vs H Q E h => ?_) (fun cdv A outer s H vs Q E hG0 hr h => ?_)
  · obtain ⟨a, ns, rfl, _⟩ := h
    rfl
  · obtain ⟨a0, ns, rfl, hS, hl, hTab, k⟩ := h
    have hG := hG0.deeper (envOfC "law" (defScope s_law) s.heap.objs.size f cdv)
    refine ⟨_, (pss_cons (ps_for PassesOwn.never rfl (pi_range1 rfl m_range (pa_cons pe_int pa_nil)) (pg_name (i := 1) sc.nd rfl (Or.inl rfl))
      (pss_cons (ps_set (i := 3) sc.nd rfl (Or.inl rfl) (call_ C__law_begun (hr.mono (by decide)) (by rfl) (pa_cons (pv 0) (pa_cons (pv 1) pa_nil))))
    (pss_one (ps_for PassesOwn.never rfl (pi_list (pe_lst (pa_cons (call_ C__law_draw (hr.mono (by decide)) (by rfl) (pa_cons (pv 3) (pa_cons pe_int pa_nil))) (pa_cons pe_int (pa_cons pe_int (pa_cons (pe_ifExp (pt_cmpR op_eq (call_ C__law_draw (hr.mono (by decide)) (by rfl) (pa_cons (pv 3) (pa_cons pe_int pa_nil))) pe_int (nomark _)) pe_int pe_int) pa_nil)))))) (pg_name (i := 4) sc.nd rfl (Or.inl rfl))
      (pss_one (ps_if (pt_not (pt_val (callG hG C__law_right (hr.mono (by decide)) (by rfl) (pa_cons (pv 3) (pa_cons (pv 4) pa_nil)))))
      (pss_one (ps_ret pe_bl))
      pss_nil))))))
    (pss_cons (ps_set (i := 2) sc.nd rfl (Or.inl rfl) (pe_lst (pa_cons (call_ C_adjoint (hr.mono (by decide)) (by rfl) (pa_cons (pe_tup (pa_cons (pe_tup (pa_cons pe_int pa_nil)) pa_nil)) pa_nil)) (pa_cons (call_ C_adjoint (hr.mono (by decide)) (by rfl) (pa_cons (pe_tup (pa_cons (pe_tup (pa_cons pe_int pa_nil)) pa_nil)) pa_nil)) (pa_cons (call_ C_adjoint (hr.mono (by decide)) (by rfl) (pa_cons (pe_tup pa_nil) pa_nil)) (pa_cons (call_ C_adjoint (hr.mono (by decide)) (by rfl) (pa_cons (pe_tup (pa_cons (pe_tup (pa_cons pe_int (pa_cons pe_int pa_nil))) (pa_cons (pe_tup (pa_cons pe_int (pa_cons pe_int pa_nil))) pa_nil))) pa_nil)) (pa_cons (call_ C_solved (hr.mono (by decide)) (by rfl) (pa_cons (pe_tup (pa_cons (pe_tup (pa_cons pe_int pa_nil)) pa_nil)) (pa_cons (pe_tup (pa_cons pe_int pa_nil)) pa_nil))) pa_nil)))))))
    (pss_one (ps_ret (callG hG C__law_like (hr.mono (by decide)) (by rfl) (pa_cons (pv 2) (pa_cons (pe_lst (pa_cons (pe_tup (pa_cons (pe_tup (pa_cons pe_int pa_nil)) pa_nil)) (pa_cons (pe_tup (pa_cons (pe_tup (pa_cons pe_int pa_nil)) pa_nil)) (pa_cons (pe_tup pa_nil) (pa_cons (pe_tup (pa_cons (pe_tup (pa_cons pe_int (pa_cons pe_int pa_nil))) (pa_cons (pe_tup (pa_cons pe_int (pa_cons pe_int pa_nil))) pa_nil))) (pa_cons (pe_tup (pa_cons (pe_tup (pa_cons pe_int (pa_cons pe_int pa_nil))) pa_nil)) pa_nil)))))) pa_nil))))))), ?_⟩
    refine ⟨2, rfl, by decide, by decide, for_range (lo := 0) (n := 2) (fun i σ H' => (∃ y1 y2 y3 y4, σ = [some (.ref a0), y1, y2, y3, y4]) ∧ SqL K H' a0 (ns.map V.int) ∧ LamX.Tabs T H') ⟨⟨none, none, none, none, rfl⟩, hS, hTab⟩ ?_ ?_⟩
    · rintro i σ H0 hi ⟨⟨y1, y2, y3, y4, rfl⟩, hS0, hT0⟩
      refine ⟨.ref a0, rfl, .int (0 + i), rfl, a0, 0 + i, ns, rfl, hS0, hl, by omega, by omega, fun H1 m cc s1 nm M1 => ?_⟩
      refine ⟨.ref m, rfl, m, cc, 0, 3, rfl, M1, by decide, by decide, by decide, fun H2 v1 b2 M2 v10 v11 => ?_⟩
      refine ⟨.ref m, rfl, m, cc, _, 5, rfl, M2, by decide, by decide, by decide, fun H4 v3 b4 M4 v30 v31 => ⟨rfl, _, rfl, ?_⟩⟩
      refine tif_both (fun v => ∃ n : Nat, n ≤ 5 ∧ v = .int n) (fun x3 hx3 => ?_) (fun _ hq => hq _ ⟨5, by decide, rfl⟩) (fun _ hq => hq _ ⟨4, by decide, rfl⟩)
      refine ⟨by show 4 ≤ sizeLine; decide, fun L nL => ?_⟩
      have s5 : Same H4 (upd H4 L (.lst [.int v1, .int 2, .int 3, x3])) := same_new nL
      have g5 : upd H4 L (.lst [.int v1, .int 2, .int 3, x3]) L = some (.lst [.int v1, .int 2, .int 3, x3]) := upd_same
      obtain ⟨kv1, hm1⟩ := M1.m_some
      obtain ⟨kv4, hm4⟩ := M4.m_some
      have Lm : L ≠ m := Ne.symm (ne_of_none hm4 nL)
      generalize upd H4 L (.lst [.int v1, .int 2, .int 3, x3]) = H5 at s5 g5 ⊢
      have M5 := M4.same s5
      have b15 := (b2.trans b4).trans (SameBut.of s5)
      have T5 := tabs_but (hT0.ext s1) hm1 b15
      refine ⟨L, rfl, ⟨_, SqL.of g5⟩, ?_⟩
      have gLn : ∀ ps, (HO.lst [V.int v1, .int 2, .int 3, x3]) ≠ .tbl ps := fun ps z => by cases z
      refine for_it (walk_list (K := K) (a := L) (xs := [.int v1, .int 2, .int 3, x3])) (fun j σ H' => (∃ y2 y4, σ = [some (.ref a0), some (.int (0 + i)), y2, some (.ref m), y4]) ∧ ExtB m H5 H' ∧ LamX.Tabs T H' ∧ MOk H' m cc (2 + 150 * j)) ⟨⟨_, _, rfl⟩, ExtB.refl _ _, T5, M5⟩ (fun j σ H' _ p => SqL.of (p.2.1 _ _ Lm g5 gLn)) ?_ ?_
      · rintro j x σ H6 H6' hj ⟨⟨y2, y4, rfl⟩, b6, T6, M6⟩ ⟨rfl, hx⟩
        have hj : j < 4 := hj
        obtain ⟨n, hn, rfl⟩ : ∃ n : Nat, n ≤ 5 ∧ x = .int n := by
          match j, hj, hx with
          | 0, _, hx => exact ⟨v1.toNat, by omega, by rw [← Option.some.inj hx, Int.toNat_of_nonneg v10]⟩
          | 1, _, hx => exact ⟨2, by decide, (Option.some.inj hx).symm⟩
          | 2, _, hx => exact ⟨3, by decide, (Option.some.inj hx).symm⟩
          | 3, _, hx =>
            obtain ⟨n, hn, e⟩ := hx3
            exact ⟨n, hn, by rw [← Option.some.inj hx, e]⟩
        exact ⟨.ref m, rfl, .int n, rfl, m, cc, _, n, rfl, M6, by omega, hn, T6, fun H7 b7 T7 M7 => ⟨_, rfl, iteF ⟨⟨_, _, rfl⟩, b6.trans b7, T7, M7.mono (by omega)⟩⟩⟩
      · rintro σ H6 ⟨⟨y2, y4, rfl⟩, b6, T6, M6⟩
        exact ⟨⟨_, _, _, _, rfl⟩, sql_ext hS0 (ext_B nm s1 ((ExtB.of b15).trans b6)), T6⟩
    · rintro σ H0 ⟨⟨y1, y2, y3, y4, rfl⟩, hS0, hT0⟩
      clear hS hS0
      have T1x1 : ∀ {H : Hp} {a b : Addr} {x : Int}, H a = some (.tup [.int x]) → H b = some (.tup [.ref a]) → SmZ 300 x → TabR H b [[x]] 1 := fun h1 h2 z => ⟨[_], h2, rfl, fun i p r e1 e2 => by
        match i, e1, e2 with
        | 0, e1, e2 =>
          obtain rfl := Option.some.inj e1
          obtain rfl := Option.some.inj e2
          exact ⟨⟨h1, (show 1 ≤ 100 by decide), fun y hy => by rw [List.mem_singleton.mp hy]; exact z⟩, rfl⟩
        | i + 1, e1, e2 => cases e1⟩
      have row1 : ∀ {H : Hp} {a : Addr} {x : Int}, H a = some (.tup [.int x]) → SmZ 300 x → Row H a [x] := fun h1 z => ⟨h1, (show 1 ≤ 100 by decide), fun y hy => by rw [List.mem_singleton.mp hy]; exact z⟩
      refine ⟨by show 1 ≤ sizeLine; decide, fun a1 na1 => ?_⟩
      have sa1 : Same H0 (upd H0 a1 (.tup [.int 0])) := same_new na1
      have ga1 : upd H0 a1 (.tup [.int 0]) a1 = some (.tup [.int 0]) := upd_same
      generalize upd H0 a1 (.tup [.int 0]) = H1 at sa1 ga1 ⊢
      refine ⟨by show 1 ≤ sizeLine; decide, fun a2 na2 => ?_⟩
      have sa2 : Same H1 (upd H1 a2 (.tup [.ref a1])) := same_new na2
      have ga2 : upd H1 a2 (.tup [.ref a1]) a2 = some (.tup [.ref a1]) := upd_same
      generalize upd H1 a2 (.tup [.ref a1]) = H2 at sa2 ga2 ⊢
      refine ⟨a2, [[0]], rfl, T1x1 (sa2 _ _ ga1) ga2 (by decide), by decide, fun r1 p1 H3 s3 g3 W3 => ?_⟩
      refine ⟨by show 1 ≤ sizeLine; decide, fun b1 nb1 => ?_⟩
      have sb1 : Same H3 (upd H3 b1 (.tup [.int 7])) := same_new nb1
      have gb1 : upd H3 b1 (.tup [.int 7]) b1 = some (.tup [.int 7]) := upd_same
      generalize upd H3 b1 (.tup [.int 7]) = H4 at sb1 gb1 ⊢
      refine ⟨by show 1 ≤ sizeLine; decide, fun b2 nb2 => ?_⟩
      have sb2 : Same H4 (upd H4 b2 (.tup [.ref b1])) := same_new nb2
      have gb2 : upd H4 b2 (.tup [.ref b1]) b2 = some (.tup [.ref b1]) := upd_same
      generalize upd H4 b2 (.tup [.ref b1]) = H5 at sb2 gb2 ⊢
      refine ⟨b2, [[7]], rfl, T1x1 (sb2 _ _ gb1) gb2 (by decide), by decide, fun r2 p2 H6 s6 g6 W6 => ?_⟩
      refine ⟨by show 0 ≤ sizeLine; decide, fun c1 nc1 => ?_⟩
      have sc1 : Same H6 (upd H6 c1 (.tup [])) := same_new nc1
      have gc1 : upd H6 c1 (.tup []) c1 = some (.tup []) := upd_same
      generalize upd H6 c1 (.tup []) = H7 at sc1 gc1 ⊢
      refine ⟨c1, [], rfl, ⟨[], gc1, rfl, fun i p r e1 _ => by cases e1⟩, by decide, fun r3 p3 H8 s8 g8 W8 => ?_⟩
      refine ⟨by show 2 ≤ sizeLine; decide, fun d1 nd1 => ?_⟩
      have sd1 : Same H8 (upd H8 d1 (.tup [.int 0, .int 0])) := same_new nd1
      have gd1 : upd H8 d1 (.tup [.int 0, .int 0]) d1 = some (.tup [.int 0, .int 0]) := upd_same
      generalize upd H8 d1 (.tup [.int 0, .int 0]) = H9 at sd1 gd1 ⊢
      refine ⟨by show 2 ≤ sizeLine; decide, fun d2 nd2 => ?_⟩
      have sd2 : Same H9 (upd H9 d2 (.tup [.int 0, .int 0])) := same_new nd2
      have gd2 : upd H9 d2 (.tup [.int 0, .int 0]) d2 = some (.tup [.int 0, .int 0]) := upd_same
      generalize upd H9 d2 (.tup [.int 0, .int 0]) = H10 at sd2 gd2 ⊢
      refine ⟨by show 2 ≤ sizeLine; decide, fun d3 nd3 => ?_⟩
      have sd3 : Same H10 (upd H10 d3 (.tup [.ref d1, .ref d2])) := same_new nd3
      have gd3 : upd H10 d3 (.tup [.ref d1, .ref d2]) d3 = some (.tup [.ref d1, .ref d2]) := upd_same
      generalize upd H10 d3 (.tup [.ref d1, .ref d2]) = H11 at sd3 gd3 ⊢
      have TD : TabR H11 d3 [[0, 0], [0, 0]] 2 := by
        refine ⟨[d1, d2], gd3, rfl, fun i p r a b => ?_⟩
        match i, a, b with
        | 0, a, b =>
          obtain rfl := Option.some.inj a
          obtain rfl := Option.some.inj b
          exact ⟨⟨(sd2.trans sd3) _ _ gd1, by decide, by decide⟩, rfl⟩
        | 1, a, b =>
          obtain rfl := Option.some.inj a
          obtain rfl := Option.some.inj b
          exact ⟨⟨sd3 _ _ gd2, by decide, by decide⟩, rfl⟩
        | i + 2, a, b => cases a
      refine ⟨d3, [[0, 0], [0, 0]], rfl, TD, by decide, fun r4 p4 H12 s12 g12 W12 => ?_⟩
      refine ⟨by show 1 ≤ sizeLine; decide, fun e1 ne1 => ?_⟩
      have se1 : Same H12 (upd H12 e1 (.tup [.int 2])) := same_new ne1
      have ge1 : upd H12 e1 (.tup [.int 2]) e1 = some (.tup [.int 2]) := upd_same
      generalize upd H12 e1 (.tup [.int 2]) = H13 at se1 ge1 ⊢
      refine ⟨by show 1 ≤ sizeLine; decide, fun e2 ne2 => ?_⟩
      have se2 : Same H13 (upd H13 e2 (.tup [.ref e1])) := same_new ne2
      have ge2 : upd H13 e2 (.tup [.ref e1]) e2 = some (.tup [.ref e1]) := upd_same
      generalize upd H13 e2 (.tup [.ref e1]) = H14 at se2 ge2 ⊢
      refine ⟨by show 1 ≤ sizeLine; decide, fun e3 ne3 => ?_⟩
      have se3 : Same H14 (upd H14 e3 (.tup [.int 3])) := same_new ne3
      have ge3 : upd H14 e3 (.tup [.int 3]) e3 = some (.tup [.int 3]) := upd_same
      generalize upd H14 e3 (.tup [.int 3]) = H15 at se3 ge3 ⊢
      refine ⟨e2, e3, [[2]], [3], rfl, (T1x1 (se2 _ _ ge1) ge2 (by decide)).same se3, by decide, row1 ge3 (by decide), rfl, by decide, by decide, fun r5 p5 H16 s16 g16 W16 => ?_⟩
      refine ⟨by show 5 ≤ sizeLine; decide, fun L1 nL1 => ?_⟩
      have sL1 : Same H16 (upd H16 L1 (.lst [.ref r1, .ref r2, .ref r3, .ref r4, .ref r5])) := same_new nL1
      have gL1 : upd H16 L1 (.lst [.ref r1, .ref r2, .ref r3, .ref r4, .ref r5]) L1 = some (.lst [.ref r1, .ref r2, .ref r3, .ref r4, .ref r5]) := upd_same
      generalize upd H16 L1 (.lst [.ref r1, .ref r2, .ref r3, .ref r4, .ref r5]) = H17 at sL1 gL1 ⊢
      refine ⟨.ref L1, rfl, ?_⟩
      refine ⟨by show 1 ≤ sizeLine; decide, fun f1 nf1 => ?_⟩
      have sf1 : Same H17 (upd H17 f1 (.tup [.int 1])) := same_new nf1
      have gf1 : upd H17 f1 (.tup [.int 1]) f1 = some (.tup [.int 1]) := upd_same
      generalize upd H17 f1 (.tup [.int 1]) = H18 at sf1 gf1 ⊢
      refine ⟨by show 1 ≤ sizeLine; decide, fun f2 nf2 => ?_⟩
      have sf2 : Same H18 (upd H18 f2 (.tup [.ref f1])) := same_new nf2
      have gf2 : upd H18 f2 (.tup [.ref f1]) f2 = some (.tup [.ref f1]) := upd_same
      generalize upd H18 f2 (.tup [.ref f1]) = H19 at sf2 gf2 ⊢
      refine ⟨by show 1 ≤ sizeLine; decide, fun h1 nh1 => ?_⟩
      have sh1 : Same H19 (upd H19 h1 (.tup [.int 1])) := same_new nh1
      have gh1 : upd H19 h1 (.tup [.int 1]) h1 = some (.tup [.int 1]) := upd_same
      generalize upd H19 h1 (.tup [.int 1]) = H20 at sh1 gh1 ⊢
      refine ⟨by show 1 ≤ sizeLine; decide, fun h2 nh2 => ?_⟩
      have sh2 : Same H20 (upd H20 h2 (.tup [.ref h1])) := same_new nh2
      have gh2 : upd H20 h2 (.tup [.ref h1]) h2 = some (.tup [.ref h1]) := upd_same
      generalize upd H20 h2 (.tup [.ref h1]) = H21 at sh2 gh2 ⊢
      refine ⟨by show 0 ≤ sizeLine; decide, fun i1 ni1 => ?_⟩
      have si1 : Same H21 (upd H21 i1 (.tup [])) := same_new ni1
      have gi1 : upd H21 i1 (.tup []) i1 = some (.tup []) := upd_same
      generalize upd H21 i1 (.tup []) = H22 at si1 gi1 ⊢
      refine ⟨by show 2 ≤ sizeLine; decide, fun j1 nj1 => ?_⟩
      have sj1 : Same H22 (upd H22 j1 (.tup [.int 0, .int 0])) := same_new nj1
      have gj1 : upd H22 j1 (.tup [.int 0, .int 0]) j1 = some (.tup [.int 0, .int 0]) := upd_same
      generalize upd H22 j1 (.tup [.int 0, .int 0]) = H23 at sj1 gj1 ⊢
      refine ⟨by show 2 ≤ sizeLine; decide, fun j2 nj2 => ?_⟩
      have sj2 : Same H23 (upd H23 j2 (.tup [.int 0, .int 0])) := same_new nj2
      have gj2 : upd H23 j2 (.tup [.int 0, .int 0]) j2 = some (.tup [.int 0, .int 0]) := upd_same
      generalize upd H23 j2 (.tup [.int 0, .int 0]) = H24 at sj2 gj2 ⊢
      refine ⟨by show 2 ≤ sizeLine; decide, fun j3 nj3 => ?_⟩
      have sj3 : Same H24 (upd H24 j3 (.tup [.ref j1, .ref j2])) := same_new nj3
      have gj3 : upd H24 j3 (.tup [.ref j1, .ref j2]) j3 = some (.tup [.ref j1, .ref j2]) := upd_same
      generalize upd H24 j3 (.tup [.ref j1, .ref j2]) = H25 at sj3 gj3 ⊢
      refine ⟨by show 2 ≤ sizeLine; decide, fun k1 nk1 => ?_⟩
      have sk1 : Same H25 (upd H25 k1 (.tup [.int 3, .int 2])) := same_new nk1
      have gk1 : upd H25 k1 (.tup [.int 3, .int 2]) k1 = some (.tup [.int 3, .int 2]) := upd_same
      generalize upd H25 k1 (.tup [.int 3, .int 2]) = H26 at sk1 gk1 ⊢
      refine ⟨by show 1 ≤ sizeLine; decide, fun k2 nk2 => ?_⟩
      have sk2 : Same H26 (upd H26 k2 (.tup [.ref k1])) := same_new nk2
      have gk2 : upd H26 k2 (.tup [.ref k1]) k2 = some (.tup [.ref k1]) := upd_same
      generalize upd H26 k2 (.tup [.ref k1]) = H27 at sk2 gk2 ⊢
      refine ⟨by show 5 ≤ sizeLine; decide, fun L2 nL2 => ?_⟩
      have sL2 : Same H27 (upd H27 L2 (.lst [.ref f2, .ref h2, .ref i1, .ref j3, .ref k2])) := same_new nL2
      have gL2 : upd H27 L2 (.lst [.ref f2, .ref h2, .ref i1, .ref j3, .ref k2]) L2 = some (.lst [.ref f2, .ref h2, .ref i1, .ref j3, .ref k2]) := upd_same
      generalize upd H27 L2 (.lst [.ref f2, .ref h2, .ref i1, .ref j3, .ref k2]) = H28 at sL2 gL2 ⊢
      have z27 := sL2
      have z26 := sk2.trans z27
      have z25 := sk1.trans z26
      have z24 := sj3.trans z25
      have z23 := sj2.trans z24
      have z22 := sj1.trans z23
      have z21 := si1.trans z22
      have z20 := sh2.trans z21
      have z19 := sh1.trans z20
      have z18 := sf2.trans z19
      have z17 := sf1.trans z18
      have z16 := sL1.trans z17
      have z12 := ((se1.trans se2).trans (se3.trans s16)).trans z16
      have z8 := ((sd1.trans sd2).trans (sd3.trans s12)).trans z12
      have z6 := (sc1.trans s8).trans z8
      have z3 := (sb1.trans (sb2.trans s6)).trans z6
      have A1 : adjI [[0]] = [[1]] := by decide
      have A2 : adjI [[7]] = [[1]] := by decide
      have A3 : adjI [] = [] := rfl
      have A4 : adjI [[0, 0], [0, 0]] = [[0, 0], [0, 0]] := by decide
      have A5 : solI [[2]] [3] = [(3, 2)] := by decide
      rw [A1] at W3
      rw [A2] at W6
      rw [A3] at W8
      rw [A4] at W12
      rw [A5] at W16
      have q1 := dp_rw (K := K) (g3.same z3) (W3.same z3)
      have q2 := dp_rw (K := K) (g6.same z6) (W6.same z6)
      have q3 := dp_rw (K := K) (g8.same z8) (W8.same z8)
      have q4 := dp_rw (K := K) (g12.same z12) (W12.same z12)
      have q5 : Dp K H28 (.ref r5) (.tuple ([((3 : Int), (2 : Int))].map dPr)) := .tup (g16.same z16).t (W16.same z16).dp
      have t1 : ∀ {H : Hp} {a b : Addr} {x : Int}, H a = some (.tup [.int x]) → H b = some (.tup [.ref a]) → Dp K H (.ref b) (.tuple ([[x]].map dRow)) := fun h1 h2 => .tup (SqT.of h2) (.cons (dp_row (r := [_]) h1) .nil)
      have p1' := t1 (z18 _ _ gf1) (z19 _ _ gf2)
      have p2' := t1 (z20 _ _ gh1) (z21 _ _ gh2)
      have p3' : Dp K H28 (.ref i1) (.tuple (([] : List (List Int)).map dRow)) := .tup (SqT.of (z22 _ _ gi1)) .nil
      have p4' : Dp K H28 (.ref j3) (.tuple ([[(0 : Int), 0], [0, 0]].map dRow)) := .tup (SqT.of (z25 _ _ gj3)) (.cons (dp_row (r := [0, 0]) (z23 _ _ gj1)) (.cons (dp_row (r := [0, 0]) (z24 _ _ gj2)) .nil))
      have p5' : Dp K H28 (.ref k2) (.tuple ([((3 : Int), (2 : Int))].map dPr)) := .tup (SqT.of (z27 _ _ gk2)) (.cons (.tup (SqT.of (z26 _ _ gk1)) (.cons (.int _) (.cons (.int _) .nil))) .nil)
      refine ⟨.ref L1, .ref L2, .list [.tuple ([[(1 : Int)]].map dRow), .tuple ([[(1 : Int)]].map dRow), .tuple (([] : List (List Int)).map dRow), .tuple ([[(0 : Int), 0], [0, 0]].map dRow), .tuple ([((3 : Int), (2 : Int))].map dPr)], rfl, .lst (SqL.of (z17 _ _ gL1)) (.cons q1 (.cons q2 (.cons q3 (.cons q4 (.cons q5 .nil))))), .lst (SqL.of gL2) (.cons p1' (.cons p2' (.cons p3' (.cons p4' (.cons p5' .nil))))), ?_, k _⟩
      have f1' : FitN 2 90 (.tuple ([[(1 : Int)]].map dRow)) := fit_tab (by decide) (by decide)
      have f3' : FitN 2 90 (.tuple (([] : List (List Int)).map dRow)) := fit_tab (by decide) (by decide)
      have f4' : FitN 2 90 (.tuple ([[(0 : Int), 0], [0, 0]].map dRow)) := fit_tab (by decide) (by decide)
      have f5' : FitN 2 90 (.tuple ([((3 : Int), (2 : Int))].map dPr)) := by
        refine FitN.mono (FitN.tup (k := 1) (n := 20) (.cons (n := 20) (a := 3) (FitN.tup (k := 0) (.cons (n := 3) (a := 0) (FitN.int (by decide)) (.cons (n := 2) (a := 0) (FitN.int (by decide)) (.nil (n := 0)) (by decide)) (by decide))) (.nil (n := 0)) (by decide))) (by decide) (by decide)
      exact FitN.mono (FitN.list (k := 2) (n := 500) (.cons (n := 500) f1' (.cons (n := 400) f1' (.cons (n := 300) f3' (.cons (n := 200) f4' (.cons (n := 100) f5' (.nil (n := 0)) (by decide)) (by decide)) (by decide)) (by decide)) (by decide))) (by decide) (by decide)
end
end K10
namespace K10
open PySem PySem.Spec PyProof.Rows L2 Vk
section
variable {P : Program} {w : World} {K : PySem.W.Frag} {mg : Str → Option Value} {base : Heap}
/-- a def of the text by its name -/
theorem cal_of {x : Str} {st : Stmt} {f : Addr} {fd : FuncData} {k : Nat} {ps : List Str} {sp : Sp} (F : Fun K x x st f fd) (g : mg x = some (.ref f)) (G : FnOk P w K mg base CX0 k f fd ps sp) (b : Binds K fd ps []) : Cal P w K mg base k x ps sp := ⟨f, fd, G, g, F.kp, b⟩
theorem calG_of {x : Str} {st : Stmt} {f : Addr} {fd : FuncData} {k : Nat} {ps : List Str} {sp : Sp} (F : Fun K x x st f fd) (g : mg x = some (.ref f)) (G : FnG P w K mg base k f fd ps sp) (b : Binds K fd ps []) : CalG P w K mg base k x ps sp := ⟨f, fd, G, g, F.kp, b⟩
theorem tab_in {x : Str} {f c P : Addr} {oc oc2 : Value} {od od2 : Option Addr} {fd : FuncData} {sl sl2 : Array (Option Value)} {vs : Array Value} (a : PySem.W.nsIn K mainGlobals x = some (some (.ref f))) (l : K.lookup f = some ⟨oc, od, .func fd, sl⟩) (hc : fd.code = .ref c) (q : K.lookup c = some ⟨oc2, od2, .fields vs, sl2⟩) (v : vs[11]? = some (.ref P)) :
    PySem.W.tabIn K x = some (c, P) := by
  unfold PySem.W.tabIn
  simp only [a, l, hc, q, v]
theorem tabs_one {P1 : Addr} {x1 : Str} {H : Hp} (h1 : H P1 = some (.tbl #[])) : LamX.Tabs [(P1, x1)] H := by
  intro p hp
  rw [List.mem_singleton] at hp
  subst hp
  exact .nil h1
theorem one_tab {P1 : Addr} {x1 : Str} : ∀ p ∈ [(P1, x1)], p.1 = P1 → p.2 = x1 := by
  intro p hp e
  rw [List.mem_singleton] at hp
  subst hp
  rfl
theorem all_mk {l : PySem.W.OpenLaw} {q : Program} {dL_right : DefRec} {h : Heap} {fa f_psum f_fraction f_cleared f_swept f_det f_cofactor f_adjoint f_turned f_trow f_tcol f_ttable f_parts f_solved f_begun f_draw f_like f_gcd f_ldet f_signed f_heard f_table f_ladj f_lsolved f_right f_law CT CF CS cd_right P_right : Addr} (X : K.In h) (G : h.Ns mainGlobals mg) (hfa : mg "law" = some (.ref fa)) (TO : TabsOf q K h)
     {od_psum an_psum od_fraction an_fraction od_cleared an_cleared od_swept an_swept od_det an_det od_cofactor an_cofactor od_adjoint an_adjoint od_turned an_turned od_trow an_trow od_tcol an_tcol od_ttable an_ttable od_parts an_parts od_solved an_solved od_begun an_begun od_draw an_draw od_like an_like od_gcd an_gcd od_ldet an_ldet od_signed an_signed od_heard an_heard od_table an_table od_ladj an_ladj od_lsolved an_lsolved od_right an_right od_law an_law : Option Addr} {sl_psum sl_fraction sl_cleared sl_swept sl_det sl_cofactor sl_adjoint sl_turned sl_trow sl_tcol sl_ttable sl_parts sl_solved sl_begun sl_draw sl_like sl_gcd sl_ldet sl_signed sl_heard sl_table sl_ladj sl_lsolved sl_right sl_law : Array (Option Value)}
    {odq_right : Option Addr} {slq_right : Array (Option Value)} {ocq_right : Value} {vsq_right : Array Value}
    {oc_psum kV_psum dc_psum pm_psum cd_psum ct_psum oc_fraction kV_fraction dc_fraction pm_fraction cd_fraction ct_fraction oc_cleared kV_cleared dc_cleared pm_cleared cd_cleared ct_cleared oc_swept kV_swept dc_swept pm_swept cd_swept ct_swept oc_det kV_det dc_det pm_det cd_det ct_det oc_cofactor kV_cofactor dc_cofactor pm_cofactor cd_cofactor ct_cofactor oc_adjoint kV_adjoint dc_adjoint pm_adjoint cd_adjoint ct_adjoint oc_turned kV_turned dc_turned pm_turned cd_turned ct_turned oc_trow kV_trow dc_trow pm_trow cd_trow ct_trow oc_tcol kV_tcol dc_tcol pm_tcol cd_tcol ct_tcol oc_ttable kV_ttable dc_ttable pm_ttable cd_ttable ct_ttable oc_parts kV_parts dc_parts pm_parts cd_parts ct_parts oc_solved kV_solved dc_solved pm_solved cd_solved ct_solved oc_begun kV_begun dc_begun pm_begun cd_begun ct_begun oc_draw kV_draw dc_draw pm_draw cd_draw ct_draw oc_like kV_like dc_like pm_like cd_like ct_like oc_gcd kV_gcd dc_gcd pm_gcd cd_gcd ct_gcd oc_ldet kV_ldet dc_ldet pm_ldet cd_ldet ct_ldet oc_signed kV_signed dc_signed pm_signed cd_signed ct_signed oc_heard kV_heard dc_heard pm_heard cd_heard ct_heard oc_table kV_table dc_table pm_table cd_table ct_table oc_ladj kV_ladj dc_ladj pm_ladj cd_ladj ct_ladj oc_lsolved kV_lsolved dc_lsolved pm_lsolved cd_lsolved ct_lsolved oc_right kV_right dc_right pm_right ct_right oc_law kV_law dc_law pm_law cd_law ct_law : Value}
    (a_CT : PySem.W.nsIn K mainGlobals "TallyError" = some (some (.ref CT)))
    (a_CF : PySem.W.nsIn K mainGlobals "Singular" = some (some (.ref CF)))
    (a_CS : PySem.W.nsIn K mainGlobals "ByNought" = some (some (.ref CS)))
    (e_ex : PySem.W.excIn K CF [.type "ValueError", .type "Exception", .type "BaseException", .type "object"] "ValueError.__new__" = true)
    (e_k : PySem.W.keepIn K (.ref CF) = true)
    (e_b : PySem.W.subIn K (.ref CF) (.type "BaseException") = some true)
    (e_t : PySem.W.typeIn K (.ref CF) = some (.type "type"))
    (x_g : PySem.W.findIn K (.ref CF) "__getattribute__" = some (some (.builtin "BaseException.__getattribute__")))
    (x_k : PySem.W.findIn K (.ref CF) "__getattr__" = some none)
    (x_d : PySem.W.hasDictIn K CF = true)
    (x_a : PySem.W.findIn K (.ref CF) "__class__" = some (some (.builtin "object.__class__")))
    (x_n : PySem.W.specialIn K (.builtin "object.__class__") "__get__" = some (some (.builtin "getset_descriptor.__get__")))
    (x_t : PySem.W.takesIn K (.builtin "object.__class__") = some true)
    (x_m : PySem.W.mroIn K CF (.type "object") = some true)
    (y_e : PySem.W.exmOne K (.ref CF) (.ref CT) = some true)
    (y_V : PySem.W.kitOne K (.ref CF) (.type "ValueError") = some true)
    (y_F : PySem.W.kitOne K (.ref CF) (.ref CF) = some true)
    (y_S : PySem.W.kitOne K (.ref CF) (.ref CS) = some false)
    (a_mgcd : PySem.W.nsIn K mainGlobals "gcd" = some (some (.builtin "math.gcd")))
    (a_psum : PySem.W.nsIn K mainGlobals "product_sum" = some (some (.ref f_psum)))
    (l_psum : K.lookup f_psum = some ⟨oc_psum, od_psum, .func (PySem.W.fnOf "product_sum" "product_sum" (defArgs s_psum) (defBody s_psum) (defScope s_psum) .none kV_psum dc_psum pm_psum an_psum (cd_psum) ct_psum), sl_psum⟩)
    (c_psum : PySem.W.codeIn K (cd_psum) "product_sum" = true)
    (k_psum : PySem.W.keepIn K (.ref f_psum) = true)
    (a_fraction : PySem.W.nsIn K mainGlobals "fraction" = some (some (.ref f_fraction)))
    (l_fraction : K.lookup f_fraction = some ⟨oc_fraction, od_fraction, .func (PySem.W.fnOf "fraction" "fraction" (defArgs s_fraction) (defBody s_fraction) (defScope s_fraction) .none kV_fraction dc_fraction pm_fraction an_fraction (cd_fraction) ct_fraction), sl_fraction⟩)
    (c_fraction : PySem.W.codeIn K (cd_fraction) "fraction" = true)
    (k_fraction : PySem.W.keepIn K (.ref f_fraction) = true)
    (a_cleared : PySem.W.nsIn K mainGlobals "_cleared" = some (some (.ref f_cleared)))
    (l_cleared : K.lookup f_cleared = some ⟨oc_cleared, od_cleared, .func (PySem.W.fnOf "_cleared" "_cleared" (defArgs s_cleared) (defBody s_cleared) (defScope s_cleared) .none kV_cleared dc_cleared pm_cleared an_cleared (cd_cleared) ct_cleared), sl_cleared⟩)
    (c_cleared : PySem.W.codeIn K (cd_cleared) "_cleared" = true)
    (k_cleared : PySem.W.keepIn K (.ref f_cleared) = true)
    (a_swept : PySem.W.nsIn K mainGlobals "swept" = some (some (.ref f_swept)))
    (l_swept : K.lookup f_swept = some ⟨oc_swept, od_swept, .func (PySem.W.fnOf "swept" "swept" (defArgs s_swept) (defBody s_swept) (defScope s_swept) .none kV_swept dc_swept pm_swept an_swept (cd_swept) ct_swept), sl_swept⟩)
    (c_swept : PySem.W.codeIn K (cd_swept) "swept" = true)
    (k_swept : PySem.W.keepIn K (.ref f_swept) = true)
    (a_det : PySem.W.nsIn K mainGlobals "determinant" = some (some (.ref f_det)))
    (l_det : K.lookup f_det = some ⟨oc_det, od_det, .func (PySem.W.fnOf "determinant" "determinant" (defArgs s_det) (defBody s_det) (defScope s_det) .none kV_det dc_det pm_det an_det (cd_det) ct_det), sl_det⟩)
    (c_det : PySem.W.codeIn K (cd_det) "determinant" = true)
    (k_det : PySem.W.keepIn K (.ref f_det) = true)
    (a_cofactor : PySem.W.nsIn K mainGlobals "_cofactor" = some (some (.ref f_cofactor)))
    (l_cofactor : K.lookup f_cofactor = some ⟨oc_cofactor, od_cofactor, .func (PySem.W.fnOf "_cofactor" "_cofactor" (defArgs s_cofactor) (defBody s_cofactor) (defScope s_cofactor) .none kV_cofactor dc_cofactor pm_cofactor an_cofactor (cd_cofactor) ct_cofactor), sl_cofactor⟩)
    (c_cofactor : PySem.W.codeIn K (cd_cofactor) "_cofactor" = true)
    (k_cofactor : PySem.W.keepIn K (.ref f_cofactor) = true)
    (a_adjoint : PySem.W.nsIn K mainGlobals "adjoint" = some (some (.ref f_adjoint)))
    (l_adjoint : K.lookup f_adjoint = some ⟨oc_adjoint, od_adjoint, .func (PySem.W.fnOf "adjoint" "adjoint" (defArgs s_adjoint) (defBody s_adjoint) (defScope s_adjoint) .none kV_adjoint dc_adjoint pm_adjoint an_adjoint (cd_adjoint) ct_adjoint), sl_adjoint⟩)
    (c_adjoint : PySem.W.codeIn K (cd_adjoint) "adjoint" = true)
    (k_adjoint : PySem.W.keepIn K (.ref f_adjoint) = true)
    (a_turned : PySem.W.nsIn K mainGlobals "turned" = some (some (.ref f_turned)))
    (l_turned : K.lookup f_turned = some ⟨oc_turned, od_turned, .func (PySem.W.fnOf "turned" "turned" (defArgs s_turned) (defBody s_turned) (defScope s_turned) .none kV_turned dc_turned pm_turned an_turned (cd_turned) ct_turned), sl_turned⟩)
    (c_turned : PySem.W.codeIn K (cd_turned) "turned" = true)
    (k_turned : PySem.W.keepIn K (.ref f_turned) = true)
    (a_trow : PySem.W.nsIn K mainGlobals "times_row" = some (some (.ref f_trow)))
    (l_trow : K.lookup f_trow = some ⟨oc_trow, od_trow, .func (PySem.W.fnOf "times_row" "times_row" (defArgs s_trow) (defBody s_trow) (defScope s_trow) .none kV_trow dc_trow pm_trow an_trow (cd_trow) ct_trow), sl_trow⟩)
    (c_trow : PySem.W.codeIn K (cd_trow) "times_row" = true)
    (k_trow : PySem.W.keepIn K (.ref f_trow) = true)
    (a_tcol : PySem.W.nsIn K mainGlobals "times_column" = some (some (.ref f_tcol)))
    (l_tcol : K.lookup f_tcol = some ⟨oc_tcol, od_tcol, .func (PySem.W.fnOf "times_column" "times_column" (defArgs s_tcol) (defBody s_tcol) (defScope s_tcol) .none kV_tcol dc_tcol pm_tcol an_tcol (cd_tcol) ct_tcol), sl_tcol⟩)
    (c_tcol : PySem.W.codeIn K (cd_tcol) "times_column" = true)
    (k_tcol : PySem.W.keepIn K (.ref f_tcol) = true)
    (a_ttable : PySem.W.nsIn K mainGlobals "times_table" = some (some (.ref f_ttable)))
    (l_ttable : K.lookup f_ttable = some ⟨oc_ttable, od_ttable, .func (PySem.W.fnOf "times_table" "times_table" (defArgs s_ttable) (defBody s_ttable) (defScope s_ttable) .none kV_ttable dc_ttable pm_ttable an_ttable (cd_ttable) ct_ttable), sl_ttable⟩)
    (c_ttable : PySem.W.codeIn K (cd_ttable) "times_table" = true)
    (k_ttable : PySem.W.keepIn K (.ref f_ttable) = true)
    (a_parts : PySem.W.nsIn K mainGlobals "parts_of" = some (some (.ref f_parts)))
    (l_parts : K.lookup f_parts = some ⟨oc_parts, od_parts, .func (PySem.W.fnOf "parts_of" "parts_of" (defArgs s_parts) (defBody s_parts) (defScope s_parts) .none kV_parts dc_parts pm_parts an_parts (cd_parts) ct_parts), sl_parts⟩)
    (c_parts : PySem.W.codeIn K (cd_parts) "parts_of" = true)
    (k_parts : PySem.W.keepIn K (.ref f_parts) = true)
    (a_solved : PySem.W.nsIn K mainGlobals "solved" = some (some (.ref f_solved)))
    (l_solved : K.lookup f_solved = some ⟨oc_solved, od_solved, .func (PySem.W.fnOf "solved" "solved" (defArgs s_solved) (defBody s_solved) (defScope s_solved) .none kV_solved dc_solved pm_solved an_solved (cd_solved) ct_solved), sl_solved⟩)
    (c_solved : PySem.W.codeIn K (cd_solved) "solved" = true)
    (k_solved : PySem.W.keepIn K (.ref f_solved) = true)
    (a_begun : PySem.W.nsIn K mainGlobals "_law_begun" = some (some (.ref f_begun)))
    (l_begun : K.lookup f_begun = some ⟨oc_begun, od_begun, .func (PySem.W.fnOf "_law_begun" "_law_begun" (defArgs s_begun) (defBody s_begun) (defScope s_begun) .none kV_begun dc_begun pm_begun an_begun (cd_begun) ct_begun), sl_begun⟩)
    (c_begun : PySem.W.codeIn K (cd_begun) "_law_begun" = true)
    (k_begun : PySem.W.keepIn K (.ref f_begun) = true)
    (a_draw : PySem.W.nsIn K mainGlobals "_law_draw" = some (some (.ref f_draw)))
    (l_draw : K.lookup f_draw = some ⟨oc_draw, od_draw, .func (PySem.W.fnOf "_law_draw" "_law_draw" (defArgs s_draw) (defBody s_draw) (defScope s_draw) .none kV_draw dc_draw pm_draw an_draw (cd_draw) ct_draw), sl_draw⟩)
    (c_draw : PySem.W.codeIn K (cd_draw) "_law_draw" = true)
    (k_draw : PySem.W.keepIn K (.ref f_draw) = true)
    (a_like : PySem.W.nsIn K mainGlobals "_law_like" = some (some (.ref f_like)))
    (l_like : K.lookup f_like = some ⟨oc_like, od_like, .func (PySem.W.fnOf "_law_like" "_law_like" (defArgs s_like) (defBody s_like) (defScope s_like) .none kV_like dc_like pm_like an_like (cd_like) ct_like), sl_like⟩)
    (c_like : PySem.W.codeIn K (cd_like) "_law_like" = true)
    (k_like : PySem.W.keepIn K (.ref f_like) = true)
    (a_gcd : PySem.W.nsIn K mainGlobals "_law_gcd" = some (some (.ref f_gcd)))
    (l_gcd : K.lookup f_gcd = some ⟨oc_gcd, od_gcd, .func (PySem.W.fnOf "_law_gcd" "_law_gcd" (defArgs s_gcd) (defBody s_gcd) (defScope s_gcd) .none kV_gcd dc_gcd pm_gcd an_gcd (cd_gcd) ct_gcd), sl_gcd⟩)
    (c_gcd : PySem.W.codeIn K (cd_gcd) "_law_gcd" = true)
    (k_gcd : PySem.W.keepIn K (.ref f_gcd) = true)
    (a_ldet : PySem.W.nsIn K mainGlobals "_law_det" = some (some (.ref f_ldet)))
    (l_ldet : K.lookup f_ldet = some ⟨oc_ldet, od_ldet, .func (PySem.W.fnOf "_law_det" "_law_det" (defArgs s_ldet) (defBody s_ldet) (defScope s_ldet) .none kV_ldet dc_ldet pm_ldet an_ldet (cd_ldet) ct_ldet), sl_ldet⟩)
    (c_ldet : PySem.W.codeIn K (cd_ldet) "_law_det" = true)
    (k_ldet : PySem.W.keepIn K (.ref f_ldet) = true)
    (a_signed : PySem.W.nsIn K mainGlobals "_law_signed" = some (some (.ref f_signed)))
    (l_signed : K.lookup f_signed = some ⟨oc_signed, od_signed, .func (PySem.W.fnOf "_law_signed" "_law_signed" (defArgs s_signed) (defBody s_signed) (defScope s_signed) .none kV_signed dc_signed pm_signed an_signed (cd_signed) ct_signed), sl_signed⟩)
    (c_signed : PySem.W.codeIn K (cd_signed) "_law_signed" = true)
    (k_signed : PySem.W.keepIn K (.ref f_signed) = true)
    (a_heard : PySem.W.nsIn K mainGlobals "_law_heard" = some (some (.ref f_heard)))
    (l_heard : K.lookup f_heard = some ⟨oc_heard, od_heard, .func (PySem.W.fnOf "_law_heard" "_law_heard" (defArgs s_heard) (defBody s_heard) (defScope s_heard) .none kV_heard dc_heard pm_heard an_heard (cd_heard) ct_heard), sl_heard⟩)
    (c_heard : PySem.W.codeIn K (cd_heard) "_law_heard" = true)
    (k_heard : PySem.W.keepIn K (.ref f_heard) = true)
    (a_table : PySem.W.nsIn K mainGlobals "_law_table" = some (some (.ref f_table)))
    (l_table : K.lookup f_table = some ⟨oc_table, od_table, .func (PySem.W.fnOf "_law_table" "_law_table" (defArgs s_table) (defBody s_table) (defScope s_table) .none kV_table dc_table pm_table an_table (cd_table) ct_table), sl_table⟩)
    (c_table : PySem.W.codeIn K (cd_table) "_law_table" = true)
    (k_table : PySem.W.keepIn K (.ref f_table) = true)
    (a_ladj : PySem.W.nsIn K mainGlobals "_law_adjoint" = some (some (.ref f_ladj)))
    (l_ladj : K.lookup f_ladj = some ⟨oc_ladj, od_ladj, .func (PySem.W.fnOf "_law_adjoint" "_law_adjoint" (defArgs s_ladj) (defBody s_ladj) (defScope s_ladj) .none kV_ladj dc_ladj pm_ladj an_ladj (cd_ladj) ct_ladj), sl_ladj⟩)
    (c_ladj : PySem.W.codeIn K (cd_ladj) "_law_adjoint" = true)
    (k_ladj : PySem.W.keepIn K (.ref f_ladj) = true)
    (a_lsolved : PySem.W.nsIn K mainGlobals "_law_solved" = some (some (.ref f_lsolved)))
    (l_lsolved : K.lookup f_lsolved = some ⟨oc_lsolved, od_lsolved, .func (PySem.W.fnOf "_law_solved" "_law_solved" (defArgs s_lsolved) (defBody s_lsolved) (defScope s_lsolved) .none kV_lsolved dc_lsolved pm_lsolved an_lsolved (cd_lsolved) ct_lsolved), sl_lsolved⟩)
    (c_lsolved : PySem.W.codeIn K (cd_lsolved) "_law_solved" = true)
    (k_lsolved : PySem.W.keepIn K (.ref f_lsolved) = true)
    (a_right : PySem.W.nsIn K mainGlobals "_law_right" = some (some (.ref f_right)))
    (l_right : K.lookup f_right = some ⟨oc_right, od_right, .func (PySem.W.fnOf "_law_right" "_law_right" (defArgs s_right) (defBody s_right) (defScope s_right) .none kV_right dc_right pm_right an_right (.ref cd_right) ct_right), sl_right⟩)
    (c_right : PySem.W.codeIn K (.ref cd_right) "_law_right" = true)
    (k_right : PySem.W.keepIn K (.ref f_right) = true)
    (a_law : PySem.W.nsIn K mainGlobals "law" = some (some (.ref f_law)))
    (l_law : K.lookup f_law = some ⟨oc_law, od_law, .func (PySem.W.fnOf "law" "law" (defArgs s_law) (defBody s_law) (defScope s_law) .none kV_law dc_law pm_law an_law (cd_law) ct_law), sl_law⟩)
    (c_law : PySem.W.codeIn K (cd_law) "law" = true)
    (k_law : PySem.W.keepIn K (.ref f_law) = true)
    (m_isinstance : PySem.W.nsIn K mainGlobals "isinstance" = some none)
    (m_ValueError : PySem.W.nsIn K mainGlobals "ValueError" = some none)
    (m_int : PySem.W.nsIn K mainGlobals "int" = some none)
    (m_tuple : PySem.W.nsIn K mainGlobals "tuple" = some none)
    (m_len : PySem.W.nsIn K mainGlobals "len" = some none)
    (m_repr : PySem.W.nsIn K mainGlobals "repr" = some none)
    (m_range : PySem.W.nsIn K mainGlobals "range" = some none)
    (m_sum : PySem.W.nsIn K mainGlobals "sum" = some none)
    (m_enumerate : PySem.W.nsIn K mainGlobals "enumerate" = some none)
    (m_zip : PySem.W.nsIn K mainGlobals "zip" = some none)
    (m_list : PySem.W.nsIn K mainGlobals "list" = some none)
    (m_abs : PySem.W.nsIn K mainGlobals "abs" = some none)
    (q_right : K.lookup cd_right = some ⟨ocq_right, odq_right, .fields vsq_right, slq_right⟩)
    (v_right : vsq_right[11]? = some (.ref P_right))
    (n_right : K.lookup P_right = none)
    (r_right : (recsOf q).find? (fun e => e.name == ("_law_right" : Str)) = some dL_right) :
    ∃ (fd : FuncData) (cs : List (Addr × Addr)) (sp : Sp), (∀ p ∈ cs, TabK K h p) ∧ (∀ (s : Shared) (u : Value), BindsTo s fd ⟨[u], []⟩ [("script", u)]) ∧
      (∀ (H : Hp) (a : Addr) (ns : List Int), ns.length ≤ 63 → (∀ p ∈ cs, H p.2 = some (.tbl #[])) → SqL K H a (ns.map V.int) → sp [.ref a] H (fun v _ => v = .bl true) fun _ _ _ => False) ∧
      ∀ base : Heap, K.In base → base.Ns mainGlobals mg → (∀ p ∈ cs, LamX.TabB base mg p.1 p.2) → FnG l.prog w K mg base 10 fa fd ["script"] sp := by
  obtain rfl := Value.ref.inj (Option.some.inj (hfa.symm.trans (PySem.W.mg_of X G a_law)))
  have F_psum := fun_mk (st := s_psum) l_psum c_psum k_psum
  have G_psum := PySem.W.mg_of X G a_psum
  have B_psum := F_psum.binds (ps := ["one", "other"]) fun _ _ _ _ _ _ us hl => match us, hl with | [_, _], _ => rfl
  have F_fraction := fun_mk (st := s_fraction) l_fraction c_fraction k_fraction
  have G_fraction := PySem.W.mg_of X G a_fraction
  have B_fraction := F_fraction.binds (ps := ["a", "b"]) fun _ _ _ _ _ _ us hl => match us, hl with | [_, _], _ => rfl
  have F_cleared := fun_mk (st := s_cleared) l_cleared c_cleared k_cleared
  have G_cleared := PySem.W.mg_of X G a_cleared
  have B_cleared := F_cleared.binds (ps := ["row", "lead", "column", "last"]) fun _ _ _ _ _ _ us hl => match us, hl with | [_, _, _, _], _ => rfl
  have F_swept := fun_mk (st := s_swept) l_swept c_swept k_swept
  have G_swept := PySem.W.mg_of X G a_swept
  have B_swept := F_swept.binds (ps := ["rows"]) fun _ _ _ _ _ _ us hl => match us, hl with | [_], _ => rfl
  have F_det := fun_mk (st := s_det) l_det c_det k_det
  have G_det := PySem.W.mg_of X G a_det
  have B_det := F_det.binds (ps := ["table"]) fun _ _ _ _ _ _ us hl => match us, hl with | [_], _ => rfl
  have F_cofactor := fun_mk (st := s_cofactor) l_cofactor c_cofactor k_cofactor
  have G_cofactor := PySem.W.mg_of X G a_cofactor
  have B_cofactor := F_cofactor.binds (ps := ["table", "i", "j"]) fun _ _ _ _ _ _ us hl => match us, hl with | [_, _, _], _ => rfl
  have F_adjoint := fun_mk (st := s_adjoint) l_adjoint c_adjoint k_adjoint
  have G_adjoint := PySem.W.mg_of X G a_adjoint
  have B_adjoint := F_adjoint.binds (ps := ["table"]) fun _ _ _ _ _ _ us hl => match us, hl with | [_], _ => rfl
  have F_turned := fun_mk (st := s_turned) l_turned c_turned k_turned
  have G_turned := PySem.W.mg_of X G a_turned
  have B_turned := F_turned.binds (ps := ["rows", "width"]) fun _ _ _ _ _ _ us hl => match us, hl with | [_, _], _ => rfl
  have F_trow := fun_mk (st := s_trow) l_trow c_trow k_trow
  have G_trow := PySem.W.mg_of X G a_trow
  have B_trow := F_trow.binds (ps := ["row", "table"]) fun _ _ _ _ _ _ us hl => match us, hl with | [_, _], _ => rfl
  have F_tcol := fun_mk (st := s_tcol) l_tcol c_tcol k_tcol
  have G_tcol := PySem.W.mg_of X G a_tcol
  have B_tcol := F_tcol.binds (ps := ["table", "column"]) fun _ _ _ _ _ _ us hl => match us, hl with | [_, _], _ => rfl
  have F_ttable := fun_mk (st := s_ttable) l_ttable c_ttable k_ttable
  have G_ttable := PySem.W.mg_of X G a_ttable
  have B_ttable := F_ttable.binds (ps := ["one", "other"]) fun _ _ _ _ _ _ us hl => match us, hl with | [_, _], _ => rfl
  have F_parts := fun_mk (st := s_parts) l_parts c_parts k_parts
  have G_parts := PySem.W.mg_of X G a_parts
  have B_parts := F_parts.binds (ps := ["rays", "w"]) fun _ _ _ _ _ _ us hl => match us, hl with | [_, _], _ => rfl
  have F_solved := fun_mk (st := s_solved) l_solved c_solved k_solved
  have G_solved := PySem.W.mg_of X G a_solved
  have B_solved := F_solved.binds (ps := ["table", "column"]) fun _ _ _ _ _ _ us hl => match us, hl with | [_, _], _ => rfl
  have F_begun := fun_mk (st := s_begun) l_begun c_begun k_begun
  have G_begun := PySem.W.mg_of X G a_begun
  have B_begun := F_begun.binds (ps := ["script", "k_so"]) fun _ _ _ _ _ _ us hl => match us, hl with | [_, _], _ => rfl
  have F_draw := fun_mk (st := s_draw) l_draw c_draw k_draw
  have G_draw := PySem.W.mg_of X G a_draw
  have B_draw := F_draw.binds (ps := ["m", "bound"]) fun _ _ _ _ _ _ us hl => match us, hl with | [_, _], _ => rfl
  have F_like := fun_mk (st := s_like) l_like c_like k_like
  have G_like := PySem.W.mg_of X G a_like
  have B_like := F_like.binds (ps := ["got", "due"]) fun _ _ _ _ _ _ us hl => match us, hl with | [_, _], _ => rfl
  have F_gcd := fun_mk (st := s_gcd) l_gcd c_gcd k_gcd
  have G_gcd := PySem.W.mg_of X G a_gcd
  have B_gcd := F_gcd.binds (ps := ["a", "c"]) fun _ _ _ _ _ _ us hl => match us, hl with | [_, _], _ => rfl
  have F_ldet := fun_mk (st := s_ldet) l_ldet c_ldet k_ldet
  have G_ldet := PySem.W.mg_of X G a_ldet
  have B_ldet := F_ldet.binds (ps := ["table"]) fun _ _ _ _ _ _ us hl => match us, hl with | [_], _ => rfl
  have F_signed := fun_mk (st := s_signed) l_signed c_signed k_signed
  have G_signed := PySem.W.mg_of X G a_signed
  have B_signed := F_signed.binds (ps := ["m", "most"]) fun _ _ _ _ _ _ us hl => match us, hl with | [_, _], _ => rfl
  have F_heard := fun_mk (st := s_heard) l_heard c_heard k_heard
  have G_heard := PySem.W.mg_of X G a_heard
  have B_heard := F_heard.binds (ps := ["call"]) fun _ _ _ _ _ _ us hl => match us, hl with | [_], _ => rfl
  have F_table := fun_mk (st := s_table) l_table c_table k_table
  have G_table := PySem.W.mg_of X G a_table
  have B_table := F_table.binds (ps := ["m", "size_so"]) fun _ _ _ _ _ _ us hl => match us, hl with | [_, _], _ => rfl
  have F_ladj := fun_mk (st := s_ladj) l_ladj c_ladj k_ladj
  have G_ladj := PySem.W.mg_of X G a_ladj
  have B_ladj := F_ladj.binds (ps := ["table"]) fun _ _ _ _ _ _ us hl => match us, hl with | [_], _ => rfl
  have F_lsolved := fun_mk (st := s_lsolved) l_lsolved c_lsolved k_lsolved
  have G_lsolved := PySem.W.mg_of X G a_lsolved
  have B_lsolved := F_lsolved.binds (ps := ["table", "column"]) fun _ _ _ _ _ _ us hl => match us, hl with | [_, _], _ => rfl
  have F_right := fun_mk (st := s_right) l_right c_right k_right
  have G_right := PySem.W.mg_of X G a_right
  have B_right := F_right.binds (ps := ["m", "size_so"]) fun _ _ _ _ _ _ us hl => match us, hl with | [_, _], _ => rfl
  have F_law := fun_mk (st := s_law) l_law c_law k_law
  have G_law := PySem.W.mg_of X G a_law
  have B_law := F_law.binds (ps := ["script"]) fun _ _ _ _ _ _ us hl => match us, hl with | [_], _ => rfl
  have M_isinstance := PySem.W.mg_none_of X G m_isinstance
  have M_ValueError := PySem.W.mg_none_of X G m_ValueError
  have M_int := PySem.W.mg_none_of X G m_int
  have M_tuple := PySem.W.mg_none_of X G m_tuple
  have M_len := PySem.W.mg_none_of X G m_len
  have M_repr := PySem.W.mg_none_of X G m_repr
  have M_range := PySem.W.mg_none_of X G m_range
  have M_sum := PySem.W.mg_none_of X G m_sum
  have M_enumerate := PySem.W.mg_none_of X G m_enumerate
  have M_zip := PySem.W.mg_none_of X G m_zip
  have M_list := PySem.W.mg_none_of X G m_list
  have M_abs := PySem.W.mg_none_of X G m_abs
  have g_CT := PySem.W.mg_of X G a_CT
  have g_CF := PySem.W.mg_of X G a_CF
  have g_CS := PySem.W.mg_of X G a_CS
  have gg := PySem.W.mg_of X G a_mgcd
  have EB : ExcT K mg "Singular" CF := ⟨g_CF, e_ex, e_k, e_b, e_t⟩
  have EX : Exs K mg CT CF CS := ⟨g_CT, g_CS, EB, ⟨x_g, x_k, e_b, x_d, x_a, x_n, x_t, x_m⟩, y_e, y_V, y_F, y_S⟩
  have HF : HeardF K mg f_heard := ⟨G_heard, F_heard.kp, oc_heard, kV_heard, dc_heard, pm_heard, cd_heard, ct_heard, od_heard, an_heard, sl_heard, l_heard, c_heard, B_heard⟩
  have t_right : PySem.W.tabIn K "_law_right" = some (cd_right, P_right) := tab_in a_right l_right rfl q_right v_right
  have TR := TO _ _ _ _ r_right t_right n_right
  refine ⟨PySem.W.fnOf "law" "law" (defArgs s_law) (defBody s_law) (defScope s_law) .none kV_law dc_law pm_law an_law cd_law ct_law, [(cd_right, P_right)], spLaw [(P_right, "_law_right.<locals>.<lambda>")] K, ?_, fun s v => .of_eq rfl, ?_, ?_⟩
  · intro p hp
    rw [List.mem_singleton] at hp
    subst hp
    exact TR
  · intro H a ns hl hT hS
    exact ⟨a, ns, rfl, hS, hl, tabs_one (hT _ (List.mem_cons_self)), fun _ => rfl⟩
  intro base KB NB TB
  have tR := TB _ (List.mem_cons_self)
  have C_psum := cal_of (P := l.prog) (w := w) (base := base) F_psum G_psum (ok_psum F_psum M_sum M_zip) B_psum
  have C_fraction := cal_of (P := l.prog) (w := w) (base := base) F_fraction G_fraction (ok_fraction F_fraction gg) B_fraction
  have C_cleared := cal_of (P := l.prog) (w := w) (base := base) F_cleared G_cleared (ok_cleared F_cleared M_zip) B_cleared
  have C_swept := cal_of (P := l.prog) (w := w) (base := base) F_swept G_swept (ok_swept F_swept C_cleared M_list M_len M_range M_enumerate) B_swept
  have C_sweptL := cal_of (P := l.prog) (w := w) (base := base) F_swept G_swept (ok_sweptL F_swept C_cleared M_list M_len M_range M_enumerate) B_swept
  have C_det := cal_of (P := l.prog) (w := w) (base := base) F_det G_det (ok_det F_det C_swept M_len) B_det
  have C_detL := cal_of (P := l.prog) (w := w) (base := base) F_det G_det (ok_detL F_det C_sweptL M_len) B_det
  have C_cofactor := cal_of (P := l.prog) (w := w) (base := base) F_cofactor G_cofactor (ok_cofactor F_cofactor C_detL) B_cofactor
  have C_adjoint := cal_of (P := l.prog) (w := w) (base := base) F_adjoint G_adjoint (ok_adjoint F_adjoint C_cofactor M_tuple M_range M_len) B_adjoint
  have C_turned := cal_of (P := l.prog) (w := w) (base := base) F_turned G_turned (ok_turnedT F_turned M_tuple M_range) B_turned
  have C_tcol := cal_of (P := l.prog) (w := w) (base := base) F_tcol G_tcol (ok_tcol F_tcol C_psum M_tuple) B_tcol
  have C_trow := cal_of (P := l.prog) (w := w) (base := base) F_trow G_trow (ok_trow F_trow C_tcol C_turned M_len) B_trow
  have C_ttable := cal_of (P := l.prog) (w := w) (base := base) F_ttable G_ttable (ok_ttab F_ttable C_trow M_tuple) B_ttable
  have C_parts := cal_of (P := l.prog) (w := w) (base := base) F_parts G_parts (ok_parts F_parts C_det M_tuple M_range M_len M_abs) B_parts
  have C_solved := cal_of (P := l.prog) (w := w) (base := base) F_solved G_solved (ok_bdy F_solved sc_solved len_solved (bd_solved C_parts C_turned C_fraction M_tuple M_len)) B_solved
  have C_begun := cal_of (P := l.prog) (w := w) (base := base) F_begun G_begun (ok_begun F_begun M_int) B_begun
  have C_draw := cal_of (P := l.prog) (w := w) (base := base) F_draw G_draw (ok_draw F_draw M_int M_len) B_draw
  have C_like := calG_of (P := l.prog) (w := w) (base := base) F_like G_like (ok_like F_like M_repr) B_like
  have C_gcd := cal_of (P := l.prog) (w := w) (base := base) F_gcd G_gcd (ok_gcd F_gcd M_abs M_int) B_gcd
  have C_signed := cal_of (P := l.prog) (w := w) (base := base) F_signed G_signed (ok_signedB F_signed C_draw) B_signed
  have L0 := cal_of (P := l.prog) (w := w) (base := base) F_ldet G_ldet (ok_ldetB F_ldet) B_ldet
  have L1 := cal_of (P := l.prog) (w := w) (base := base) F_ldet G_ldet (ok_ldet (m := 0) (by decide) F_ldet L0 M_len M_range M_tuple) B_ldet
  have L2 := cal_of (P := l.prog) (w := w) (base := base) F_ldet G_ldet (ok_ldet (m := 1) (by decide) F_ldet L1 M_len M_range M_tuple) B_ldet
  have L3 := cal_of (P := l.prog) (w := w) (base := base) F_ldet G_ldet (ok_ldet (m := 2) (by decide) F_ldet L2 M_len M_range M_tuple) B_ldet
  have L4 := cal_of (P := l.prog) (w := w) (base := base) F_ldet G_ldet (ok_ldet (m := 3) (by decide) F_ldet L3 M_len M_range M_tuple) B_ldet
  have L5 := cal_of (P := l.prog) (w := w) (base := base) F_ldet G_ldet (ok_ldet (m := 4) (by decide) F_ldet L4 M_len M_range M_tuple) B_ldet
  have L6 := cal_of (P := l.prog) (w := w) (base := base) F_ldet G_ldet (ok_ldet (m := 5) (by decide) F_ldet L5 M_len M_range M_tuple) B_ldet
  have C_table := cal_of (P := l.prog) (w := w) (base := base) F_table G_table (ok_table F_table C_draw C_signed M_tuple M_range) B_table
  have C_ladj := cal_of (P := l.prog) (w := w) (base := base) F_ladj G_ladj (ok_ladj F_ladj L6 M_tuple M_range M_len M_int) B_ladj
  have C_lsolved := cal_of (P := l.prog) (w := w) (base := base) F_lsolved G_lsolved (ok_lsolved F_lsolved L6 C_gcd M_tuple M_range M_len M_abs) B_lsolved
  have X_solved : CalX l.prog w K mg base 5 "solved" ["table", "column"] (spSolvedAll CF) := ⟨_, _, fn_or (okX_bdy F_solved sc_solved len_solved (bd_solved C_parts C_turned C_fraction M_tuple M_len)) (ok_solvedX F_solved (ok_partsX F_parts C_det EB) G_parts F_parts.kp B_parts C_turned M_len), G_solved, F_solved.kp, B_solved⟩
  have O_right := ok_right (P := l.prog) (w := w) (base := base) l_right c_right tR (List.mem_cons_self) one_tab HF EX C_table L6 C_ladj C_like C_adjoint C_ttable C_signed C_lsolved X_solved M_isinstance M_ValueError M_tuple M_range
  have C_right : CalG l.prog w K mg base 9 "_law_right" ["m", "size_so"] (spRight [(P_right, "_law_right.<locals>.<lambda>")]) := ⟨_, _, O_right, G_right, F_right.kp, B_right⟩
  exact ok_law F_law C_begun C_draw C_right C_adjoint C_solved C_like M_range
end
end K10
open PySem PySem.W PyProof.Rows
set_option maxHeartbeats 0 in
theorem PySem.Challenge.cw_pointtally_k10_whole_adjoints_and_soluti_holds : PySem.Challenge.rw_pointtally_k10_whole_adjoints_and_soluti.Holds := by
  w_on; o_law; k_head; (case hw => w_witness2)
  k_fill
  refine Vk.walk_ofT (l := PySem.Challenge.rw_pointtally_k10_whole_adjoints_and_soluti) (n := 63) (k := 10) (x := "script") rfl (by decide) rfl ⟨rfl, by decide, by decide⟩ (fun w h Y => PySem.W.km_in_of Y) ?F
  case F =>
    intro w mg fa h KX G hmg TO
    refine' K10.all_mk KX G hmg TO ?a_CT ?a_CF ?a_CS ?e_ex ?e_k ?e_b ?e_t ?x_g ?x_k ?x_d ?x_a ?x_n ?x_t ?x_m ?y_e ?y_V ?y_F ?y_S ?a_mgcd ?a_psum ?l_psum ?c_psum ?k_psum ?a_fraction ?l_fraction ?c_fraction ?k_fraction ?a_cleared ?l_cleared ?c_cleared ?k_cleared ?a_swept ?l_swept ?c_swept ?k_swept ?a_det ?l_det ?c_det ?k_det ?a_cofactor ?l_cofactor ?c_cofactor ?k_cofactor ?a_adjoint ?l_adjoint ?c_adjoint ?k_adjoint ?a_turned ?l_turned ?c_turned ?k_turned ?a_trow ?l_trow ?c_trow ?k_trow ?a_tcol ?l_tcol ?c_tcol ?k_tcol ?a_ttable ?l_ttable ?c_ttable ?k_ttable ?a_parts ?l_parts ?c_parts ?k_parts ?a_solved ?l_solved ?c_solved ?k_solved ?a_begun ?l_begun ?c_begun ?k_begun ?a_draw ?l_draw ?c_draw ?k_draw ?a_like ?l_like ?c_like ?k_like ?a_gcd ?l_gcd ?c_gcd ?k_gcd ?a_ldet ?l_ldet ?c_ldet ?k_ldet ?a_signed ?l_signed ?c_signed ?k_signed ?a_heard ?l_heard ?c_heard ?k_heard ?a_table ?l_table ?c_table ?k_table ?a_ladj ?l_ladj ?c_ladj ?k_ladj ?a_lsolved ?l_lsolved ?c_lsolved ?k_lsolved ?a_right ?l_right ?c_right ?k_right ?a_law ?l_law ?c_law ?k_law ?m_isinstance ?m_ValueError ?m_int ?m_tuple ?m_len ?m_repr ?m_range ?m_sum ?m_enumerate ?m_zip ?m_list ?m_abs ?q_right ?v_right ?n_right ?r_right
    (case a_CT => k_is)
    (case a_CF => k_is)
    (case a_CS => k_is)
    (case e_ex => kernel_rfl)
    (case e_k => k_is)
    (case e_b => k_is)
    (case e_t => k_is)
    (case x_g => k_is)
    (case x_k => k_is)
    (case x_d => k_is)
    (case x_a => k_is)
    (case x_n => k_is)
    (case x_t => k_is)
    (case x_m => k_is)
    (case y_e => kernel_rfl)
    (case y_V => kernel_rfl)
    (case y_F => kernel_rfl)
    (case y_S => kernel_rfl)
    (case a_mgcd => k_is)
    (case a_psum => k_is)
    (case l_psum => k_is)
    (case c_psum => k_is)
    (case k_psum => k_is)
    (case a_fraction => k_is)
    (case l_fraction => k_is)
    (case c_fraction => k_is)
    (case k_fraction => k_is)
    (case a_cleared => k_is)
    (case l_cleared => k_is)
    (case c_cleared => k_is)
    (case k_cleared => k_is)
    (case a_swept => k_is)
    (case l_swept => k_is)
    (case c_swept => k_is)
    (case k_swept => k_is)
    (case a_det => k_is)
    (case l_det => k_is)
    (case c_det => k_is)
    (case k_det => k_is)
    (case a_cofactor => k_is)
    (case l_cofactor => k_is)
    (case c_cofactor => k_is)
    (case k_cofactor => k_is)
    (case a_adjoint => k_is)
    (case l_adjoint => k_is)
    (case c_adjoint => k_is)
    (case k_adjoint => k_is)
    (case a_turned => k_is)
    (case l_turned => k_is)
    (case c_turned => k_is)
    (case k_turned => k_is)
    (case a_trow => k_is)
    (case l_trow => k_is)
    (case c_trow => k_is)
    (case k_trow => k_is)
    (case a_tcol => k_is)
    (case l_tcol => k_is)
    (case c_tcol => k_is)
    (case k_tcol => k_is)
    (case a_ttable => k_is)
    (case l_ttable => k_is)
    (case c_ttable => k_is)
    (case k_ttable => k_is)
    (case a_parts => k_is)
    (case l_parts => k_is)
    (case c_parts => k_is)
    (case k_parts => k_is)
    (case a_solved => k_is)
    (case l_solved => k_is)
    (case c_solved => k_is)
    (case k_solved => k_is)
    (case a_begun => k_is)
    (case l_begun => k_is)
    (case c_begun => k_is)
    (case k_begun => k_is)
    (case a_draw => k_is)
    (case l_draw => k_is)
    (case c_draw => k_is)
    (case k_draw => k_is)
    (case a_like => k_is)
    (case l_like => k_is)
    (case c_like => k_is)
    (case k_like => k_is)
    (case a_gcd => k_is)
    (case l_gcd => k_is)
    (case c_gcd => k_is)
    (case k_gcd => k_is)
    (case a_ldet => k_is)
    (case l_ldet => k_is)
    (case c_ldet => k_is)
    (case k_ldet => k_is)
    (case a_signed => k_is)
    (case l_signed => k_is)
    (case c_signed => k_is)
    (case k_signed => k_is)
    (case a_heard => k_is)
    (case l_heard => k_is)
    (case c_heard => k_is)
    (case k_heard => k_is)
    (case a_table => k_is)
    (case l_table => k_is)
    (case c_table => k_is)
    (case k_table => k_is)
    (case a_ladj => k_is)
    (case l_ladj => k_is)
    (case c_ladj => k_is)
    (case k_ladj => k_is)
    (case a_lsolved => k_is)
    (case l_lsolved => k_is)
    (case c_lsolved => k_is)
    (case k_lsolved => k_is)
    (case a_right => k_is)
    (case l_right => k_is)
    (case c_right => k_is)
    (case k_right => k_is)
    (case a_law => k_is)
    (case l_law => k_is)
    (case c_law => k_is)
    (case k_law => k_is)
    (case m_isinstance => k_is)
    (case m_ValueError => k_is)
    (case m_int => k_is)
    (case m_tuple => k_is)
    (case m_len => k_is)
    (case m_repr => k_is)
    (case m_range => k_is)
    (case m_sum => k_is)
    (case m_enumerate => k_is)
    (case m_zip => k_is)
    (case m_list => k_is)
    (case m_abs => k_is)
    (case q_right => k_is)
    (case v_right => rfl)
    (case n_right => kernel_rfl)
    (case r_right => rfl)
