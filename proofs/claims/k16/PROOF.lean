import PyProof.Rows.All
import Wide.All
import OpenK.AllK
import Wide.FinOn
import HandS.Base
import HandS.Call
import HandS.List
import HandS.Comp
import HandS.Ends
import HandS.Dict
import HandS.Iter
import HandS.Words
import HandS.WordsList
import HandS.WordsDict
import HandS.Exc
import HandS.TryOnly
import HandS.ExcOwn
import HandS.Lambda
import HandS.IsInst
import HandS.Wide
import PyProof.ReprRoads
import PyProof.ReprBulk
import PyProof.FitsInt
import HandS.Walk
import KE.GoesZip
import KE.GoesMore
import KE.GoesEnum
import HandS.Star
import HandS.TupAny
import HandS.TupMul
import KE.KEqDeep
import HandS.ExcIs
import HandS.ExcField
import HandS.ExcInit
import KE.KExcIs
import HandS.WordsExc
import HandS.ExcValue
import HandS.EndTab
import KE.KNest
import PySem.Challenge.RW_pointtally_k16_whole_near_rows
set_option Elab.async false
set_option linter.all false
set_option maxRecDepth 100000
set_option maxHeartbeats 4000000
set_option exponentiation.threshold 20000
/-! Promises that know that nothing is being shown around them (so that repr tells its whole text). -/
namespace Vk
open PySem PySem.Spec PyProof.Rows L2

/-- nothing is being shown -/
def Quiet (A : Around) : Prop := A.guards = some []
theorem Quiet.deeper {A : Around} (q : Quiet A) (env : Env) : Quiet (A.deeper env) := by
  unfold Quiet at q ⊢
  first
    | exact q
    | (show pushGuards _ A.guards = some []; rw [q]; rfl)
    | simpa [Around.deeper, Around.under, q] using q

/-- a def's promise where nothing is being shown -/
structure FnG (P : Program) (w : World) (K : PySem.W.Frag) (mg : Str → Option Value) (base : Heap) (k : Nat) (f : Addr) (fd : FuncData) (ps : List Str) (sp : Sp) : Prop where
  len : ∀ vs H Q E, sp vs H Q E → vs.length = ps.length
  run : ∀ (A : Around) (outer : List Env) (s : Shared) (H : Hp) (args : Args) (us : List Value) (vs : List V) (Q : VK) (E : XK),
    Quiet A → Room k A → Env0 P w K mg base A outer s H → BindsTo s fd args (ps.zip us) → Vals vs us → sp vs H Q E →
      codeAny (model P w) A (.call (.ref f) args) (CR CX0 outer P w H s Q E) s

section
variable {P : Program} {w : World} {K : PySem.W.Frag} {mg : Str → Option Value} {base : Heap}
/-- a body's end is the call's end -/
theorem endsG {N : List Str} {qual : Str} {scope : Scope} {f : Addr} {cdv : Value} {A : Around} {outer : List Env} {s s' : Shared} {H : Hp} {Q : VK} {E : XK} {fl : Flow}
    (h : SP (cxOf CX0 P w K mg base N qual scope f cdv A outer s H E) [] { nx := fun _ H' => Q .non H', rt := Q } fl s') :
    ∃ u, (match fl with | .ret v => v | _ => Value.none) = u ∧ CE outer P w H s Q u s' ∧ (fl = .next ∨ ∃ v, fl = .ret v) := by
  cases fl with
  | next =>
    obtain ⟨σ', H', J, q⟩ := h
    exact ⟨_, rfl, ⟨.non, H', J.os, J.bare, J.base, J.hok, rfl, q⟩, .inl rfl⟩
  | ret v =>
    obtain ⟨x, σ', H', J, rv, q⟩ := h
    exact ⟨_, rfl, ⟨x, H', J.os, J.bare, J.base, J.hok, rv, q⟩, .inr ⟨v, rfl⟩⟩
  | brk =>
    obtain ⟨_, _, _, q⟩ := h
    exact q.elim
  | cont =>
    obtain ⟨_, _, _, q⟩ := h
    exact q.elim
/-- a def, by its body: its code object is told -/
theorem fnG_of {x qual : Str} {st : Stmt} {f : Addr} {N ps : List Str} {k : Nat} {sp : Sp} {oc kV doc pm cdv ct : Value} {od an : Option Addr} {osl : Array (Option Value)}
    (lk : K.lookup f = some ⟨oc, od, .func (PySem.W.fnOf x qual (defArgs st) (defBody st) (defScope st) .none kV doc pm an cdv ct), osl⟩) (hcd : PySem.W.codeIn K cdv qual = true) (S : FnScope N ps (defScope st))
    (len : ∀ vs H Q E, sp vs H Q E → vs.length = ps.length)
    (hbody : ∀ (A : Around) (outer : List Env) (s : Shared) (H : Hp) (vs : List V) (Q : VK) (E : XK),
      Quiet A → Room k (A.deeper (envOfC qual (defScope st) s.heap.objs.size f cdv)) → sp vs H Q E →
        ∃ t, PSs (cxOf CX0 P w K mg base N qual (defScope st) f cdv A outer s H E).nox (defBody st) t ∧ t { nx := fun _ H' => Q .non H', rt := Q } (start N vs) H) :
    FnG P w K mg base (k + 1) f (PySem.W.fnOf x qual (defArgs st) (defBody st) (defScope st) .none kV doc pm an cdv ct) ps sp := by
  refine ⟨len, fun A outer s H args us vs Q E hG hr e0 hb r hsp => ?_⟩
  have inK : K.In s.heap := e0.mod.kin.keeps fun b o e => (e0.bs b o e).left
  have noL : s.heap.NoLimit := e0.mod.nolimit.keeps fun b o e => (e0.bs b o e).left
  have hpar : ∀ y ∈ ps.zip us, (defScope st).names.lookup y.1 = some .local ∨
      ((defScope st).names.lookup y.1 = some .cell ∧ ((cellsFrom (s.heap.objs.size + 1) (defScope st).names []).lookup y.1).isSome = true) := by
    rintro ⟨n, v⟩ hy
    cases S.par n (List.of_mem_zip hy).left with
    | inl q => exact .inl q
    | inr q => exact .inr ⟨q, PySem.W.cellsFrom_some _ _ _ (.inl q)⟩
  have bnd := hb
  refine codeAny_call_function hr.depth (inK _ _ lk) rfl S.co S.gen rfl
    (PySem.W.codeRec_of inK hcd) (bnd _ _ _ _ ?_)
  refine wpAny_newFunctionEnv_cells S.kind hpar
    fun env he s1 x => ?_
  subst he
  refine ⟨noL.keeps x.toInCall.keep,
    codeAny_func ?_⟩
  obtain ⟨t, ht, hq⟩ := hbody A outer s H vs Q E hG (hr.deeper _) hsp
  have J := inv_start (CX := CX0) (P := P) (w := w) (K := K) (mg := mg) (base := base) (qual := qual) (f := f) (cd := cdv) (E := E) S hr.hd e0 (len _ _ _ _ hsp) r x
  refine wpAny_mono (ht.nox.run [] s1 _ H _ J hq) (fun fl s' hs => ?_)
    (fun e s' hs => hs)
  obtain ⟨u, hu, hce, hfl⟩ := endsG hs
  rcases hfl with rfl | ⟨v, rfl⟩
  · obtain rfl := hu
    exact hce
  · obtain rfl := hu
    exact hce
/-- a def of the text, by its body -/
theorem okG {x qual : Str} {st : Stmt} {f : Addr} {fd : FuncData} {N ps : List Str} {k : Nat} {sp : Sp} (F : Fun K x qual st f fd) (S : FnScope N ps (defScope st))
    (len : ∀ vs H Q E, sp vs H Q E → vs.length = ps.length)
    (hbody : ∀ (cdv : Value) (A : Around) (outer : List Env) (s : Shared) (H : Hp) (vs : List V) (Q : VK) (E : XK),
      Quiet A → Room k (A.deeper (envOfC qual (defScope st) s.heap.objs.size f cdv)) → sp vs H Q E →
        ∃ t, PSs (cxOf CX0 P w K mg base N qual (defScope st) f cdv A outer s H E).nox (defBody st) t ∧ t { nx := fun _ H' => Q .non H', rt := Q } (start N vs) H) :
    FnG P w K mg base (k + 1) f fd ps sp := by
  obtain ⟨oc, od, kV, doc, pm, an, cdv, ct, osl, rfl, lk, hcd⟩ := F.ex
  exact fnG_of lk hcd S len fun A outer s H vs Q E => hbody cdv A outer s H vs Q E
end

section
variable {X : Cx} {k : Nat} {f : Addr} {fd : FuncData} {ps : List Str} {sp : Sp} {E : XK} {x : Str} {p pos : Pos} {e : Expr} {es : List Expr} {t : TA}
/-- a call of such a def -/
theorem pe_callG (hG : Quiet X.A) (F : FnG X.prog X.w X.K X.mg X.base k f fd ps sp) (hr : Room k X.A) (hg : Gl X x) (hm : X.mg x = some (.ref f)) (hk : PySem.W.keepIn X.K (.ref f) = true) (hb : Binds X.K fd ps [])
    (ha : PA X (e :: es) t) (hdb : (x == ("__debug__" : Str)) = false := by decide) (he : starEach (e :: es) X.env = (false, eval e X.env) :: starEach es X.env := by rfl)
    (hpl : (backTo pos (starEach es X.env)).any (·.1) = false := by rfl) :
    PE X (.Call (.Name x p) (e :: es) [] pos) (fun σ H Q => t σ H fun vs H1 => sp vs H1 Q E) := by
  refine ⟨fun pins s σ H Q I h => wpAny_Call_Name_kw (ld_glob I hg hm ?_ hdb)⟩
  refine PySem.W.callWith_K (h₀ := X.base) I.ok.mod.kin hk (thn (ha.run pos pins s σ H _ I h) ?_) he hpl
  rintro us s1 ⟨vs, H1, I1, r, q⟩
  refine ⟨I1.kIn, ?_⟩
  have hl : us.length = ps.length := r.length.symm.trans (F.len _ _ _ _ q)
  have hbt := hb s1 us I1.kIn (by rw [List.append_nil]; exact hl)
  rw [List.append_nil] at hbt
  refine wpAny_call (codeAny_mono (F.run X.A X.stack s1 H1 ⟨us, []⟩ us vs Q E hG hr I1.env0 hbt r q) ?_)
  intro r2 s2 hq
  match r2, hq with
  | .error e, hq => exact False.elim hq
  | .ok (.ret u), hq => exact I1.after hq
end

/-! ### repr -/
/-- the text of a value's data -/
def rRep (K : PySem.W.Frag) : List V → Hp → VK → Prop := fun xs H Q => ∃ x d, xs = [x] ∧ Dp K H x d ∧ d.showable = true ∧ d.hasDict = false ∧ d.depth ≤ 60 ∧ d.shown.length ≤ sizeLine ∧ Q (.str d.shown) H
theorem call_rep {X : Cx} (hG : Quiet X.A) (hu : X.A.units + 64 < cLine) : CallR X (.builtin "repr") (rRep X.K) := by
  intro pins s σ H xs us Q I r h
  obtain ⟨x, d, rfl, hD, hs, hd, hdep, hz, q⟩ := h
  obtain ⟨u, rfl, ru⟩ := vals1 r
  obtain ⟨as, hr⟩ := Dp.reads I d x u hD ru
  cases hD with
  | non =>
    cases ru
    exact PySem.P.repr_of_none ⟨.str _, H, I.tok _, ⟨_, rfl⟩, by simpa only [PyData.shown] using q⟩
  | bl b =>
    cases ru
    exact PySem.P.repr_of_bool ⟨.str _, H, I.tok _, ⟨_, rfl⟩, by simpa only [PyData.shown] using q⟩
  | int i =>
    obtain ⟨t, rfl⟩ := ru
    exact PySem.P.repr_of_int (by simpa [PyData.showable] using hs) ⟨.str _, H, I.tok _, ⟨_, rfl⟩, by simpa only [PyData.shown] using q⟩
  | str z =>
    obtain ⟨t, rfl⟩ := ru
    exact PySem.P.repr_of_str ⟨.str _, H, I.tok _, ⟨_, rfl⟩, by simpa only [PyData.shown] using q⟩ (by simpa only [PyData.shown] using hz)
  | lst h1 h2 =>
    cases ru
    exact repr_of_reads' hr hs (PyData.noDict_hsm hd) hG (by omega) (fun _ _ e => e) (fun h' u tk hk => ⟨.str _, H, I.kept hk, ⟨_, rfl⟩, q⟩) hz
  | tup h1 h2 =>
    cases ru
    exact repr_of_reads' hr hs (PyData.noDict_hsm hd) hG (by omega) (fun _ _ e => e) (fun h' u tk hk => ⟨.str _, H, I.kept hk, ⟨_, rfl⟩, q⟩) hz
end Vk

namespace Vk
open PySem PySem.Spec PyProof.Rows L2
/-! ### defs by their names -/
/-- the def of this name keeps the promise -/
def Cal (P : Program) (w : World) (K : PySem.W.Frag) (mg : Str → Option Value) (base : Heap) (k : Nat) (x : Str) (ps : List Str) (sp : Sp) : Prop :=
  ∃ f fd, FnOk P w K mg base CX0 k f fd ps sp ∧ mg x = some (.ref f) ∧ PySem.W.keepIn K (.ref f) = true ∧ Binds K fd ps []
def CalG (P : Program) (w : World) (K : PySem.W.Frag) (mg : Str → Option Value) (base : Heap) (k : Nat) (x : Str) (ps : List Str) (sp : Sp) : Prop :=
  ∃ f fd, FnG P w K mg base k f fd ps sp ∧ mg x = some (.ref f) ∧ PySem.W.keepIn K (.ref f) = true ∧ Binds K fd ps []
/-- the reading of a call -/
def tCal (sp : Sp) (t : TA) : TE := fun σ H Q => t σ H fun vs H1 => sp vs H1 Q E0
section
variable {X : Cx} {k : Nat} {ps : List Str} {sp : Sp} {x : Str} {p pos : Pos} {e : Expr} {es : List Expr} {t : TA}
theorem call_ (C : Cal X.prog X.w X.K X.mg X.base k x ps sp) (hr : Room k X.A) (hg : Gl X x) (ha : PA X (e :: es) t) (hdb : (x == ("__debug__" : Str)) = false := by decide)
    (he : starEach (e :: es) X.env = (false, eval e X.env) :: starEach es X.env := by rfl) (hpl : (backTo pos (starEach es X.env)).any (·.1) = false := by rfl) :
    PE X (.Call (.Name x p) (e :: es) [] pos) (tCal sp t) := by
  obtain ⟨f, fd, F, hm, hk, hb⟩ := C
  refine ⟨fun pins s σ H Q I h => ?_⟩
  refine (pe_call F hr hg hm hk hb .nil pass0 ha hdb he hpl).run pins s σ H Q I ?_
  show t σ H fun vs H1 => sp (vs ++ []) H1 Q E0
  have e0 : (fun vs H1 => sp (vs ++ []) H1 Q E0) = fun vs H1 => sp vs H1 Q E0 := by
    funext vs H1
    rw [List.append_nil]
  rw [e0]
  exact h
theorem callG (hG : Quiet X.A) (C : CalG X.prog X.w X.K X.mg X.base k x ps sp) (hr : Room k X.A) (hg : Gl X x) (ha : PA X (e :: es) t) (hdb : (x == ("__debug__" : Str)) = false := by decide)
    (he : starEach (e :: es) X.env = (false, eval e X.env) :: starEach es X.env := by rfl) (hpl : (backTo pos (starEach es X.env)).any (·.1) = false := by rfl) :
    PE X (.Call (.Name x p) (e :: es) [] pos) (tCal sp t) := by
  obtain ⟨f, fd, F, hm, hk, hb⟩ := C
  exact ⟨fun pins s σ H Q I h => (pe_callG hG F hr hg hm hk hb ha hdb he hpl).run pins s σ H Q I h⟩
end
/-! ### ints of any size -/
def CDivX (_ j : Int) : Prop := j ≠ 0 ∧ j.natAbs.log2 < 9000
theorem op_fdivX {X : Cx} : OpR X (binaryOp .FloorDiv) (rI CDivX fun i j => .int (i.fdiv j)) :=
  opI fun _ _ _ _ _ _ _ hc q => floordiv_int hc.1 q (.inl (PyProof.noPylong_of_log2 hc.2))
/-! ### heaps -/
/-- all but what stands at m stays -/
def SameBut (m : Addr) (H H' : Hp) : Prop := ∀ b o, b ≠ m → H b = some o → H' b = some o
theorem SameBut.refl (m : Addr) (H : Hp) : SameBut m H H := fun _ _ _ h => h
theorem SameBut.trans {m : Addr} {H H1 H2 : Hp} (a : SameBut m H H1) (b : SameBut m H1 H2) : SameBut m H H2 := fun c o n h => b c o n (a c o n h)
theorem SameBut.of {m : Addr} {H H1 : Hp} (a : Same H H1) : SameBut m H H1 := fun c o _ h => a c o h
theorem same_new {H : Hp} {p : Addr} {o : HO} (h : H p = none) : Same H (upd H p o) := fun b x e => by
  rw [upd_ne (ne_of_none e h)]
  exact e
theorem but_put {H : Hp} {m : Addr} {o : HO} : SameBut m H (upd H m o) := fun b x n e => by
  rw [upd_ne n]
  exact e
end Vk

namespace Vk
open PySem PySem.Spec PyProof.Rows L2
theorem same_put {H H1 : Hp} {q : Addr} {o : HO} (s : Same H H1) (hq : H q = none) : Same H (upd H1 q o) := fun b x e => by
  rw [upd_ne (ne_of_none e hq)]
  exact s b x e
theorem cut_ints (ns : List Int) (a b : Option Int) : ∃ l : List Int, cutV (ns.map V.int) a b = l.map V.int ∧ l.length ≤ ns.length := by
  refine ⟨(ns.drop (HT.sIx (ns.map V.int).length 0 a)).take (HT.sIx (ns.map V.int).length (ns.map V.int).length b - HT.sIx (ns.map V.int).length 0 a), ?_, ?_⟩
  · unfold cutV
    rw [← List.map_drop, ← List.map_take]
  · rw [List.length_take, List.length_drop]
    omega
/-- a list of ints as data -/
theorem dp_ints {K : PySem.W.Frag} {H : Hp} : ∀ ns : List Int, DpAll K H (ns.map V.int) (ns.map PyData.int)
  | [] => .nil
  | n :: r => .cons (.int n) (dp_ints r)
theorem lay_ints : ∀ ns : List Int, PyData.canLayAll0 (ns.map PyData.int) = true ∧ PyData.depthAll (ns.map PyData.int) = 0
  | [] => ⟨by simp [PyData.canLayAll0], by simp [PyData.depthAll]⟩
  | n :: r => by
    obtain ⟨h1, h2⟩ := lay_ints r
    exact ⟨by simp [PyData.canLayAll0, PyData.canLay0, h1], by simp [PyData.depthAll, PyData.depth, h2]⟩
theorem shaped_ints (ns : List Int) : SeqAt.shaped (.list (ns.map PyData.int)) = true := by
  obtain ⟨h1, h2⟩ := lay_ints ns
  simp [SeqAt.shaped, PyData.canLay0, PyData.depth, h1, h2]
end Vk

namespace Vk
open PySem PySem.Spec PyProof.Rows L2
/-- both ways of a conditional expression lead to what follows -/
theorem tif_both {c : Bool} {ta tb : TE} {σ : L2.St} {H : Hp} {Q : VK} (Good : V → Prop) (hQ : ∀ v, Good v → Q v H) (ha : c = true → (∀ v, Good v → Q v H) → ta σ H Q) (hb : c = false → (∀ v, Good v → Q v H) → tb σ H Q) :
    if c = true then ta σ H Q else tb σ H Q := by
  cases c with
  | true => exact iteT (ha rfl hQ)
  | false => exact iteF (hb rfl hQ)
end Vk
/-! The end of a law row for a promise of the quiet kind. -/
namespace Vk
open PySem PySem.Spec PyProof.Rows L2

section
variable {P : Program} {w : World} {K : PySem.W.Frag} {mg mb : Str → Option Value} {k : Nat} {fa a : Addr} {fd : FuncData} {x : Str} {sp : Sp} {s₁ : Shared} {vs : List Value} {ns : List Int}
/-- from one abstract heap that holds -/
theorem law_coreG (H : Hp) (KX : K.In s₁.heap) (hns : s₁.heap.Ns mainGlobals mg) (hb : s₁.heap.Ns builtinsNs mb) (hbb : ∀ x : Str, x ≠ "__name__" → mb x = bootBuiltins x) (hlim : s₁.heap.NoLimit) (hg : s₁.gens = #[])
    (ha : s₁.heap.get? a = some { cls := .type "list", data := .seq vs.toArray }) (hr : Room k callerA)
    (F : ∀ base : Heap, K.In base → base.Ns mainGlobals mg → FnG P w K mg base k fa fd [x] sp) (hbind : ∀ (s : Shared) (u : Value), BindsTo s fd ⟨[u], []⟩ [(x, u)])
    (hO : Only H) (hsp : sp [.ref a] H (fun v _ => v = .bl true) fun _ _ _ => False) (hok : HOk P w H s₁.heap) (hA : ∀ b u, H b = some u → b = a) (hK : ∀ u, H a = some u → K.lookup a = none) :
    codeAny (model P w) callerA (.call (.ref fa) ⟨[.ref a], []⟩) (fun r s' => r = .ok (.ret (.bool true)) ∧ OldK s₁.heap s'.heap ∧ s'.os = s₁.os ∧ AllBare s'.gens) s₁ := by
  have free : ∀ {b : Addr} {o : Obj}, s₁.heap.get? b = some o → (∀ n, o.data ≠ .seq vs.toArray n) → H b = none := fun {b o} e d => by
    cases q : H b with
    | none => rfl
    | some u =>
      obtain rfl := hA b u q
      rw [ha] at e
      exact absurd rfl (by have := Option.some.inj e; subst this; exact d _)
  have nsK : ∀ {b : Addr} {m : Str → Option Value}, s₁.heap.Ns b m → (hidT s₁.heap H).Ns b m := by
    rintro b m ⟨o, es, ep, e, d, r⟩
    exact ⟨o, es, ep, hidT_get e (free e fun n z => by rw [d] at z; cases z), d, r⟩
  have inB : K.In (hidT s₁.heap H) := fun b o e => by
    refine hidT_get (KX b o e) ?_
    cases q : H b with
    | none => rfl
    | some u =>
      obtain rfl := hA b u q
      rw [hK u q] at e
      cases e
  have lim : (hidT s₁.heap H).NoLimit := by
    obtain ⟨mc, h1, h2⟩ := hlim
    exact ⟨mc, nsK h1, h2⟩
  have M : Mod K mg (hidT s₁.heap H) := { kin := inB, glob := nsK hns, blt := ⟨mb, nsK hb, hbb⟩, nolimit := lim }
  have E : Env0 P w K mg (hidT s₁.heap H) callerA [] s₁ H := by
    refine { frames := rfl, mod := M, bs := fun b o e => of_hidT e, bsz := Nat.le_of_eq (hidT_size _ _), funs := trivial, frf := ?_, hok := hok, bare := .of_eq hg }
    intro b z
    cases (show b ∈ ([] : List Addr) from z)
  have R := (F _ inB (nsK hns)).run callerA [] s₁ H ⟨[.ref a], []⟩ [.ref a] [.ref a] _ _ rfl hr E (hbind s₁ (.ref a)) (.cons rfl .nil) hsp
  refine codeAny_mono R ?_
  intro r s' h
  match r, h with
  | .error e, h => exact False.elim h
  | .ok (.ret u), ⟨v, H', os, bare, un, hok', rv, q⟩ =>
    obtain rfl : v = .bl true := q
    obtain rfl : u = Value.bool true := rv
    refine ⟨rfl, OldK.of_keep fun b o e => ?_, os, bare⟩
    rcases hO b with z | ⟨ob, xs, z⟩
    · refine un.keep b o e z (fun m => ?_) (fun m => ?_)
      · cases (show b ∈ ([] : List Addr) from m)
      · cases m
    · have p1 := (hok b _ z).1
      have p2 := (hok' b _ (un.frzs b ob _ z)).1
      exact p2.trans (p1.symm.trans e)
/-- the law's promise, at the heap behind the top -/
theorem law_callG (KX : K.In s₁.heap) (hns : s₁.heap.Ns mainGlobals mg) (hb : s₁.heap.Ns builtinsNs mb) (hbb : ∀ x : Str, x ≠ "__name__" → mb x = bootBuiltins x) (hlim : s₁.heap.NoLimit) (hg : s₁.gens = #[])
    (ha : s₁.heap.get? a = some { cls := .type "list", data := .seq vs.toArray }) (hi : IntsAre vs ns) (hl : ns.length ≤ sizeLine) (hr : Room k callerA)
    (F : ∀ base : Heap, K.In base → base.Ns mainGlobals mg → FnG P w K mg base k fa fd [x] sp) (hbind : ∀ (s : Shared) (u : Value), BindsTo s fd ⟨[u], []⟩ [(x, u)])
    (hsp : ∀ H : Hp, Only H → SqL K H a (ns.map V.int) → sp [.ref a] H (fun v _ => v = .bl true) fun _ _ _ => False) :
    codeAny (model P w) callerA (.call (.ref fa) ⟨[.ref a], []⟩) (fun r s' => r = .ok (.ret (.bool true)) ∧ OldK s₁.heap s'.heap ∧ s'.os = s₁.os ∧ AllBare s'.gens) s₁ := by
  have rv := vals_ints hi
  cases hk : K.lookup a with
  | some o =>
    have e := (KX a o hk).symm.trans ha
    obtain rfl := Option.some.inj e
    have hO : Only (fun _ => none) := fun _ => .inl rfl
    refine law_coreG (fun _ => none) KX hns hb hbb hlim hg ha hr F hbind hO (hsp _ hO (.inr ⟨_, vs.toArray, _, hk, rfl, rfl, rfl, ?_, ?_⟩)) ?_ ?_ ?_
    · rw [List.size_toArray, hi.length]
      exact hl
    · simpa using rv
    · intro b u z
      cases (show (none : Option HO) = some u from z)
    · intro b u z
      cases (show (none : Option HO) = some u from z)
    · intro u z
      cases (show (none : Option HO) = some u from z)
  | none =>
    let fz : HO := .frz { cls := .type "list", data := .seq vs.toArray } (.lst (ns.map V.int))
    have only : ∀ b u, upd (fun _ => none) a fz b = some u → b = a ∧ u = fz := fun b u z => by
      by_cases e : b = a
      · subst e
        rw [upd_same] at z
        exact ⟨rfl, (Option.some.inj z).symm⟩
      · rw [upd_ne e] at z
        cases z
    have hO : Only (upd (fun _ => none) a fz) := fun b => by
      cases q : upd (fun _ => none) a fz b with
      | none => exact .inl rfl
      | some u =>
        obtain ⟨_, rfl⟩ := only b u q
        exact .inr ⟨_, _, rfl⟩
    refine law_coreG _ KX hns hb hbb hlim hg ha hr F hbind hO (hsp _ hO (.inl (.inr ⟨_, upd_same⟩))) ?_ (fun b u z => (only b u z).1) (fun _ _ => hk)
    intro b u z
    obtain ⟨rfl, rfl⟩ := only b u z
    refine ⟨ha, ?_, vs, _, rv, ha⟩
    rw [List.length_map]
    exact hl
end

/-- the end of the row -/
theorem walk_ofG {l : PySem.W.OpenLaw} {n k : Nat} {q : Program} {loose : List Str} {XP : (Str → Option Value) → Heap → Prop} {YP : World → Heap → Prop} {d : DefRec} {K : Params → PySem.W.Frag} {sp : PySem.W.Frag → Sp} {x : Str}
    (hn : l.most = some n) (hn2 : n ≤ sizeLine) (hdf : d.params.defaults = []) (hr : Room k callerA)
    (hY : ∀ (w : World) (h : Heap), YP w h → (K w.params).In h)
    (F : ∀ (w : World) (mg : Str → Option Value) (fa : Addr) (h : Heap), (K w.params).In h → h.Ns mainGlobals mg → mg d.name = some (.ref fa) →
      ∃ fd : FuncData, (∀ (s : Shared) (u : Value), BindsTo s fd ⟨[u], []⟩ [(x, u)]) ∧
        ∀ base : Heap, (K w.params).In base → base.Ns mainGlobals mg → FnG l.prog w (K w.params) mg base k fa fd [x] (sp (K w.params)))
    (hsp : ∀ (K : PySem.W.Frag) (H : Hp) (a : Addr) (ns : List Int), ns.length ≤ n → Only H → SqL K H a (ns.map V.int) → sp K [.ref a] H (fun v _ => v = .bl true) fun _ _ _ => False) :
    PySem.W.WalkO q loose XP YP l.row.toRowW d [] (fun f vs => PySem.call f vs) := by
  refine Att.attach_call hn hdf ?_
  intro w s₀ s₁ mg mb fa o pm cd doc a vs ns G Y ho hd hcd hmg hobj hints hlen hg
  obtain ⟨fd, hb, hF⟩ := F w mg fa _ (hY w _ Y) G.T.g hmg
  exact law_callG (hY w _ Y) G.T.g G.T.b G.T.builtins G.T.nolimit hg hobj hints (Nat.le_trans hlen hn2) hr hF hb fun H hO hS => hsp _ H a ns hlen hO hS
end Vk
/-! Data that is shown by a short text. -/
namespace Vk
open PySem PySem.Spec PyProof.Rows L2
/-- levels at most k, items at most n, each int of few bits -/
structure FitN (k n : Nat) (d : PyData) : Prop where
  s : d.showable = true
  h : d.hasDict = false
  dp : d.depth ≤ k
  l : d.leavesShort 2000 = true
  b : d.bulk ≤ n
structure FitLN (k n : Nat) (ds : List PyData) : Prop where
  s : PyData.showableAll ds = true
  h : PyData.hasDictAll ds = false
  dp : PyData.depthAll ds ≤ k
  l : PyData.leavesShortAll 2000 ds = true
  b : PyData.bulkAll ds ≤ n
theorem FitLN.nil {k n : Nat} : FitLN k n [] := ⟨by simp [PyData.showableAll], by simp [PyData.hasDictAll], by simp [PyData.depthAll], by simp [PyData.leavesShortAll], by simp [PyData.bulkAll]⟩
theorem FitLN.cons {k a b n : Nat} {d : PyData} {ds : List PyData} (x : FitN k a d) (y : FitLN k b ds) (hn : a + 1 + b ≤ n) : FitLN k n (d :: ds) :=
  ⟨by simp [PyData.showableAll, x.s, y.s], by simp [PyData.hasDictAll, x.h, y.h], by have := x.dp; have := y.dp; simp only [PyData.depthAll]; omega, by simp [PyData.leavesShortAll, x.l, y.l], by have := x.b; have := y.b; simp only [PyData.bulkAll]; omega⟩
theorem FitN.list {k n : Nat} {ds : List PyData} (y : FitLN k n ds) : FitN (k + 1) n (.list ds) :=
  ⟨by simp [PyData.showable, y.s], by simp [PyData.hasDict, y.h], by have := y.dp; simp only [PyData.depth]; omega, by simp [PyData.leavesShort, y.l], by have := y.b; simp only [PyData.bulk]; omega⟩
theorem FitN.tup {k n : Nat} {ds : List PyData} (y : FitLN k n ds) : FitN (k + 1) n (.tuple ds) :=
  ⟨by simp [PyData.showable, y.s], by simp [PyData.hasDict, y.h], by have := y.dp; simp only [PyData.depth]; omega, by simp [PyData.leavesShort, y.l], by have := y.b; simp only [PyData.bulk]; omega⟩
theorem FitN.non {k n : Nat} : FitN k n .none := ⟨by simp [PyData.showable], by simp [PyData.hasDict], by simp [PyData.depth], by simp [PyData.leavesShort], by simp [PyData.bulk]⟩
theorem FitN.bl {k n : Nat} (b : Bool) : FitN k n (.bool b) := ⟨by simp [PyData.showable], by simp [PyData.hasDict], by simp [PyData.depth], by simp [PyData.leavesShort], by simp [PyData.bulk]⟩
theorem FitN.int {k n : Nat} {i : Int} (hi : i.natAbs < 2 ^ 1900) : FitN k n (.int i) := by
  have lg : i.natAbs.log2 < 1900 := PySem.Flt.log2_lt_of (by decide) hi
  refine ⟨by simp only [PyData.showable, decide_eq_true_eq]; omega, by simp [PyData.hasDict], by simp [PyData.depth], ?_, by simp [PyData.bulk]⟩
  have h1 := int_text_length_le (by decide) lg
  have h2 : (PyData.shown (.int i)).length = (Str.ofString (toString i)).length := by simp only [PyData.shown]
  rw [PySem.ofString_length] at h2
  have h3 : (PyData.shown (.int i)).length ≤ 2000 := by omega
  simpa only [PyData.leavesShort, decide_eq_true_eq] using h3
theorem FitN.str {k n : Nat} (x : Str) (h : (x.cps.toList.all fun c => decide (c < 16 ^ 8)) = true) (hn : x.cps.size ≤ n) : FitN k n (.str x) :=
  ⟨by simp [PyData.showable], by simp [PyData.hasDict], by simp [PyData.depth], by simpa only [PyData.leavesShort] using h, by simp only [PyData.bulk]; omega⟩
theorem FitN.mono {k n k' n' : Nat} {d : PyData} (x : FitN k n d) (h1 : k ≤ k') (h2 : n ≤ n') : FitN k' n' d := ⟨x.s, x.h, Nat.le_trans x.dp h1, x.l, Nat.le_trans x.b h2⟩
/-- the text is not too long -/
theorem FitN.len {k n : Nat} {d : PyData} (x : FitN k n d) (hn : n ≤ 8000) : d.shown.length ≤ sizeLine := by
  have h := PyData.shown_le_bulk 2000 (by decide) d x.l
  have h2 : (2000 + 2) * d.bulk ≤ 2002 * 8000 := Nat.mul_le_mul_left _ (Nat.le_trans x.b hn)
  rw [sizeLine_eq]
  omega
/-- the text of a short value -/
def Fit (d : PyData) : Prop := FitN 60 8000 d
theorem rep_ {K : PySem.W.Frag} {H : Hp} {x : V} {d : PyData} {Q : VK} (hD : Dp K H x d) (f : Fit d) (q : Q (.str d.shown) H) : rRep K [x] H Q := ⟨x, d, rfl, hD, f.s, f.h, f.dp, f.len (Nat.le_refl _), q⟩
end Vk
namespace Vk
open PySem PySem.Spec PyProof.Rows L2
/-- both ways of an if lead to what follows -/
theorem tifs_both {c : Bool} {t u : TS} {D : Ends} {σ : L2.St} {H : Hp} (Good : L2.St → Hp → Prop) (hQ : ∀ σ' H', Good σ' H' → D.nx σ' H') (ht : c = true → (∀ σ' H', Good σ' H' → D.nx σ' H') → t D σ H)
    (hu : c = false → (∀ σ' H', Good σ' H' → D.nx σ' H') → u D σ H) : if c = true then t D σ H else u D σ H := by
  cases c with
  | true => exact iteT (ht rfl hQ)
  | false => exact iteF (hu rfl hQ)
theorem SameBut.free {m p : Addr} {H H' : Hp} (s : SameBut m H H') (hm : ∃ o, H' m = some o) (h : H' p = none) : H p = none := by
  cases q : H p with
  | none => rfl
  | some o =>
    by_cases e : p = m
    · subst e
      obtain ⟨o', z⟩ := hm
      rw [h] at z
      cases z
    · have z := s p o e q
      rw [h] at z
      cases z
end Vk
namespace Vk
open PySem PySem.Spec PyProof.Rows L2
/-- both ways of a conditional expression lead to what follows, where they make things -/
theorem tif_bothH {c : Bool} {ta tb : TE} {σ : L2.St} {H : Hp} {Q : VK} (Good : V → Hp → Prop) (hQ : ∀ v H', Good v H' → Q v H') (ha : c = true → (∀ v H', Good v H' → Q v H') → ta σ H Q) (hb : c = false → (∀ v H', Good v H' → Q v H') → tb σ H Q) :
    if c = true then ta σ H Q else tb σ H Q := by
  cases c with
  | true => exact iteT (ha rfl hQ)
  | false => exact iteF (hb rfl hQ)
end Vk
namespace Vk
open PySem PySem.Spec PyProof.Rows L2
/-- a value of one of seven kinds -/
inductive Oky (H : Hp) : V → String → Prop where
  | non : Oky H .non "NoneType"
  | bl (b : Bool) : Oky H (.bl b) "bool"
  | int (i : Int) : Oky H (.int i) "int"
  | str (x : Str) : Oky H (.str x) "str"
  | lst {a : Addr} {xs : List V} (e : H a = some (.lst xs)) : Oky H (.ref a) "list"
  | tup {a : Addr} {xs : List V} (e : H a = some (.tup xs)) : Oky H (.ref a) "tuple"
  | dK {a : Addr} {kvs : List (Key × V)} (e : H a = some (.dK kvs)) : Oky H (.ref a) "dict"
theorem Oky.ty {K : PySem.W.Frag} {H : Hp} {x : V} {t : String} (h : Oky H x t) : TyX K H x (.type t) := by
  cases h with
  | non => exact .base .non
  | bl b => exact .base (.bl b)
  | int i => exact .base (.int i)
  | str x => exact .base (.str x)
  | lst e => exact .base (.lst e)
  | tup e => exact .base (.tup e)
  | dK e => exact .base (.dK e)
theorem Oky.same {H H' : Hp} {x : V} {t : String} (h : Oky H x t) (s : Same H H') : Oky H' x t := by
  cases h with
  | non => exact .non
  | bl b => exact .bl b
  | int i => exact .int i
  | str x => exact .str x
  | lst e => exact .lst (s _ _ e)
  | tup e => exact .tup (s _ _ e)
  | dK e => exact .dK (s _ _ e)
theorem Oky.kTup {H : Hp} {x : V} {t : String} (h : Oky H x t) : kitB t "tuple" = some (decide (t = "tuple")) := by
  cases h <;> decide +kernel
theorem Oky.kInt {H : Hp} {x : V} {t : String} (h : Oky H x t) : kitB t "int" = some (decide (t = "int" ∨ t = "bool")) := by
  cases h <;> decide +kernel
theorem Oky.kBool {H : Hp} {x : V} {t : String} (h : Oky H x t) : kitB t "bool" = some (decide (t = "bool")) := by
  cases h <;> decide +kernel
def isInt : V → Bool
  | .int _ => true
  | _ => false
theorem Oky.isInt {H : Hp} {x : V} {t : String} (h : Oky H x t) : isInt x = decide (t = "int") := by
  cases h <;> simp [Vk.isInt]
/-- the reading of isinstance(x, T) -/
theorem isi_ {K : PySem.W.Frag} {H : Hp} {x : V} {t T : String} {b : Bool} {Q : VK} (h : Oky H x t) (k : kitB t T = some b) (q : Q (.bl b) H) : rIsi K [x, .ty T] H Q :=
  ⟨x, .ty T, _, _, b, rfl, .ty T, h.ty, kit_ty k, q⟩
end Vk
/-! zip of a list and a tuple in any mix, enumerate of a tuple. -/
namespace Vk
open PySem PySem.Spec PyProof.Rows L2
/-- a list (true) or a tuple (false) -/
def SqK : Bool → PySem.W.Frag → Hp → Addr → List V → Prop
  | true => SqL
  | false => SqT
def ItA : Bool → Heap → Addr → Addr → Nat → Prop
  | true => Heap.IsListIter
  | false => Heap.IsTupleIter
def AtA : Bool → Heap → Addr → Array Value → Prop
  | true => Heap.IsList
  | false => Heap.IsTuple
/-- a new iterator's object -/
def itO : Bool → Addr → Obj
  | true, l => { cls := .type "list_iterator", data := .fields #[.ref l, .int 0 0] }
  | false, l => { cls := .type "tuple_iterator", data := .fields #[.ref l, .int 0 0] }
section
variable {X : Cx} {pins : List (Addr × Obj)} {σ : L2.St} {H : Hp} {s : Shared} {b : Bool} {a : Addr} {xs ys : List V} {h h' : Heap} {it l : Addr} {i : Nat}
theorem seqK (I : Inv X pins σ H s) (q : SqK b X.K H a xs) : ∃ its : List Value, Vals xs its ∧ AtA b s.heap a its.toArray := by
  cases b with
  | true =>
    obtain ⟨its, r, p, _⟩ := I.list q
    exact ⟨its, r, p.isList⟩
  | false =>
    obtain ⟨its, r, p, _⟩ := I.tuple q
    exact ⟨its, r, p⟩
theorem injK (I : Inv X pins σ H s) (q : SqK b X.K H a xs) (q' : SqK b X.K H a ys) : xs = ys := by
  cases b with
  | true => exact I.list_inj q q'
  | false => exact I.tuple_inj q q'
theorem ItA.at (q : ItA b h it l i) (k : ∀ o, h.get? it = some o → h'.get? it = some o) : ItA b h' it l i := by
  cases b with
  | true => exact Heap.IsListIter.at q k
  | false => exact Heap.IsTupleIter.at q k
theorem ItA.obj (q : ItA b h it l i) : ∃ o, h.get? it = some o ∧ ∀ v, o.data ≠ .cell v := by
  cases b with
  | true =>
    obtain ⟨o, e, _, d⟩ := q
    exact ⟨o, e, fun v z => by rw [d] at z; cases z⟩
  | false =>
    obtain ⟨o, e, _, d⟩ := q
    exact ⟨o, e, fun v z => by rw [d] at z; cases z⟩
theorem ItA.new (q : h.get? it = some (itO b l)) : ItA b h it l 0 := by
  cases b with
  | true => exact ⟨_, q, rfl, rfl⟩
  | false => exact ⟨_, q, rfl, rfl⟩
theorem drawsK {prog : Program} {w : World} {A : Around} (hh : A.handled = none) (hne : l ≠ it) (items : Array Value) :
    Draws prog w A it [it, l] items.size (fun i v => items[i]? = some v) (fun i h => ItA b h it l i ∧ AtA b h l items) := by
  cases b with
  | true => exact Draws.list hh it l hne items
  | false => exact Draws.tuple hh it l hne items
theorem beginsK (l : Addr) (items : Array Value) : Begins (.ref l) (itO b l) fun h => AtA b h l items := by
  cases b with
  | true => exact begins_list l items
  | false => exact begins_tuple l items
theorem AtA.lt {items : Array Value} (q : AtA b h l items) : l < h.objs.size := by
  cases b with
  | true =>
    obtain ⟨o, e, _⟩ := q
    exact Heap.lt_size e
  | false =>
    obtain ⟨o, e, _⟩ := q
    exact Heap.lt_size e
end
/-- two of either kind, the items in new pairs -/
def ItzK (b1 b2 : Bool) (K : PySem.W.Frag) (a b : Addr) : It :=
  ⟨fun i H => ∃ (xs ys : List V) (x y : V), SqK b1 K H a xs ∧ SqK b2 K H b ys ∧ xs[i]? = some x ∧ ys[i]? = some y,
    fun i H v H' => ∃ T x y, v = .ref T ∧ H T = none ∧ H' = upd H T (.tup [x, y]) ∧ (∀ xs, SqK b1 K H a xs → xs[i]? = some x) ∧ ∀ ys, SqK b2 K H b ys → ys[i]? = some y,
    fun i H => ∃ xs ys : List V, SqK b1 K H a xs ∧ SqK b2 K H b ys ∧ i ≤ xs.length ∧ i ≤ ys.length ∧ (i = xs.length ∨ i = ys.length)⟩
theorem walk_zipK {b1 b2 : Bool} {K : PySem.W.Frag} {a b : Addr} {xs ys : List V} {n : Nat} (hn : n = min xs.length ys.length) : Walk (ItzK b1 b2 K a b) n (fun H => SqK b1 K H a xs ∧ SqK b2 K H b ys) (YPair (fun i => xs[i]?) (fun i => ys[i]?)) where
  goes := fun i H hi ⟨q1, q2⟩ => by
    have l1 : i < xs.length := by omega
    have l2 : i < ys.length := by omega
    exact ⟨xs, ys, xs[i], ys[i], q1, q2, List.getElem?_eq_getElem l1, List.getElem?_eq_getElem l2⟩
  stops := fun H ⟨q1, q2⟩ => ⟨xs, ys, q1, q2, by omega, by omega, by omega⟩
  yields := fun i H v H' hi ⟨q1, q2⟩ ⟨T, x, y, e1, e2, e3, f1, f2⟩ => ⟨T, x, y, e1, e2, e3, f1 _ q1, f2 _ q2⟩
section
variable {P : Program} {w : World} {K : PySem.W.Frag} {elts : List Expr} {kk : Nat} {tpos : Pos}
theorem five {c z TI TO i1 i2 : Addr} (h : c ∈ [z, TI, TO, i1, i2]) : c = z ∨ c = TI ∨ c = TO ∨ c = i1 ∨ c = i2 := by simpa using h
theorem turn_zipK {b1 b2 : Bool} {a b z TI TO i1 i2 : Addr} (S : ZipSep2 z TI TO i1 i2 [i1, a] [i2, b]) (ha : a ≠ i1) (hb : b ≠ i2) :
    Turn P w K (.Tuple elts kk tpos) (ItzK b1 b2 K a b) [z, TI, TO, i1, i2] z (fun i h => IsZip h z TI TO .none ∧ IsPair h TI (.ref i1) (.ref i2) ∧ (∃ x y, IsPair h TO x y) ∧ ItA b1 h i1 a i ∧ ItA b2 h i2 b i) where
  mem := List.mem_cons_self
  obj := fun i h st c hc => by
    obtain ⟨hz, hTI, ⟨x, y, hTO⟩, q1, q2⟩ := st
    rcases five hc with rfl | rfl | rfl | rfl | rfl
    · exact ⟨_, hz, fun v q => nomatch q⟩
    · exact ⟨_, hTI, fun v q => nomatch q⟩
    · exact ⟨_, hTO, fun v q => nomatch q⟩
    · exact q1.obj
    · exact q2.obj
  keep := fun i h h' st k => by
    obtain ⟨hz, hTI, ⟨x, y, hTO⟩, q1, q2⟩ := st
    exact ⟨k z (by simp) _ hz, k TI (by simp) _ hTI, ⟨x, y, k TO (by simp) _ hTO⟩, q1.at (k i1 (by simp)), q2.at (k i2 (by simp))⟩
  item := by
    intro X hP hw hK hc i pins s σ H E I hf st hg
    subst hP hw hK
    obtain ⟨hz, hTI, ⟨x0, y0, hTO⟩, q1, q2⟩ := st
    obtain ⟨xs, ys, x, y, sx, sy, hx, hy⟩ := hg
    obtain ⟨its1, r1, p1⟩ := seqK I sx
    obtain ⟨its2, r2, p2⟩ := seqK I sy
    obtain ⟨u, hu, ru⟩ := r1.get hx
    obtain ⟨u2, hu2, ru2⟩ := r2.get hy
    have hd : X.A.in1.handled = none := I.ok.hd hc
    have l1 : i < its1.toArray.size := by
      have := (List.getElem?_eq_some_iff.mp hu).1
      simpa using this
    have l2 : i < its2.toArray.size := by
      have := (List.getElem?_eq_some_iff.mp hu2).1
      simpa using this
    have zl : z < s.heap.objs.size := Heap.lt_size hz
    refine wpAny_pyNext_zipD2_item S (drawsK (prog := X.prog) (w := X.w) (b := b1) hd ha its1.toArray) (drawsK (prog := X.prog) (w := X.w) (b := b2) hd hb its2.toArray) hz hTI hTO ⟨q1, p1⟩ ⟨q2, p2⟩ l1 l2 fun v1 v2 h' tk e1 e2 z' TO' s1' s2' hT hsz hk => ?_
    have ev1 : v1 = u := by
      have : its1[i]? = some v1 := by simpa using e1
      rw [hu] at this
      exact (Option.some.inj this).symm
    have ev2 : v2 = u2 := by
      have : its2[i]? = some v2 := by simpa using e2
      rw [hu2] at this
      exact (Option.some.inj this).symm
    subst ev1 ev2
    refine ⟨_, rfl, wpAny_letOwnedTupleGo_zip (s := { s with heap := h', toks := tk }) z' fun h'' z'' sb => ?_⟩
    have hT2 : h''.get? s.heap.objs.size = some { cls := .type "tuple", data := .seq #[v1, v2] } := (sb.2 _ (Nat.ne_of_gt zl)).trans hT
    have new : ObjOk X.prog X.w (upd H s.heap.objs.size (.tup [x, y])) h'' s.heap.objs.size (.tup [x, y]) :=
      ⟨by show 2 ≤ sizeLine; decide, [v1, v2], .cons ru (.cons ru2 .nil), ⟨_, hT2, rfl, _, rfl⟩⟩
    have I1 : Inv X pins σ (upd H s.heap.objs.size (.tup [x, y])) { s with heap := h'', toks := tk } :=
      I.turnedNew (t' := tk) (ch := [z, TI, TO, i1, i2]) (fun c o hc q => (sb.2 c fun q' => hc (by simp [q'])).trans (hk c o (fun q' => hc (by simp [q'])) (fun q' => hc (by simp [q'])) (fun q' => hc (by simp [q'])) (fun q' => hc (by simp [q'])) q)) hf (Nat.le_refl _) new
    have nz1 : i1 ≠ z := fun e => S.zf1 (by rw [e]; exact List.mem_cons_self)
    have nz2 : i2 ≠ z := fun e => S.zf2 (by rw [e]; exact List.mem_cons_self)
    refine ⟨.ref s.heap.objs.size, _, I1, rfl, ⟨_, x, y, rfl, I.hok.fresh (Nat.le_refl _), rfl, fun l hl => by rw [injK I hl sx]; exact hx, fun l hl => by rw [injK I hl sy]; exact hy⟩, ⟨z'', ?_, ⟨v1, v2, ?_⟩, ?_, ?_⟩, fun c hcm => ?_⟩
    · exact (sb.2 _ S.TIz).trans (hk _ _ S.TIz S.TITO S.TIi1 S.TIi2 hTI)
    · exact (sb.2 _ S.TOz).trans TO'
    · exact s1'.1.at fun o q => (sb.2 _ nz1).trans q
    · exact s2'.1.at fun o q => (sb.2 _ nz2).trans q
    · have lt : c < s.heap.objs.size := by
        rcases five hcm with rfl | rfl | rfl | rfl | rfl
        · exact zl
        · exact Heap.lt_size hTI
        · exact Heap.lt_size hTO
        · obtain ⟨o, e, _⟩ := q1.obj
          exact Heap.lt_size e
        · obtain ⟨o, e, _⟩ := q2.obj
          exact Heap.lt_size e
      rw [upd_ne (Nat.ne_of_lt lt)]
      exact (hf c hcm).1
  done := by
    intro X hP hw hK hc i pins s σ H E I hf st hg
    subst hP hw hK
    obtain ⟨hz, hTI, ⟨x0, y0, hTO⟩, q1, q2⟩ := st
    obtain ⟨xs, ys, sx, sy, l1, l2, le⟩ := hg
    obtain ⟨its1, r1, p1⟩ := seqK I sx
    obtain ⟨its2, r2, p2⟩ := seqK I sy
    have hd : X.A.in1.handled = none := I.ok.hd hc
    have m1 := r1.length
    have m2 := r2.length
    refine wpAny_pyNext_zipD2_end S (drawsK (prog := X.prog) (w := X.w) (b := b1) hd ha its1.toArray) (drawsK (prog := X.prog) (w := X.w) (b := b2) hd hb its2.toArray) hz hTI hTO ⟨q1, p1⟩ ⟨q2, p2⟩ (by simp; omega) (by simp; omega) (by simp; omega) fun h' tk hk => ⟨rfl, ?_⟩
    exact I.turnedL (t' := tk) (ch := [z, TI, TO, i1, i2]) (fun c o hc q => hk c o (fun q' => hc (by simp [q'])) (fun q' => hc (by simp [q'])) (fun q' => hc (by simp [q'])) (fun q' => hc (by simp [q'])) q) hf
  self := fun A i s Q E st h => wpAny_pyIter_zip st.1 h
def iZipK (K : PySem.W.Frag) (ta : TA) : TI := fun σ H R => ta σ H fun vs H1 => ∃ b1 b2 a b xs ys, vs = [.ref a, .ref b] ∧ SqK b1 K H1 a xs ∧ SqK b2 K H1 b ys ∧ R (ItzK b1 b2 K a b) H1
theorem pi_zipK {X : Cx} {e e2 : Expr} {ta : TA} {p pos : Pos} (hg : Gl X "zip") (hm : X.mg "zip" = none) (ha : PA X [e, e2] ta)
    (hs : starEach [e, e2] X.env = (false, eval e X.env) :: starEach [e2] X.env := by rfl) (hpl : (backTo pos (starEach [e2] X.env)).any (·.1) = false := by rfl) :
    PI X (.Tuple elts kk tpos) (.Call (.Name "zip" p) [e, e2] [] pos) (iZipK X.K ta) := by
  refine ⟨fun pins s σ H R I h => ?_⟩
  refine Call_ (ld_blt I hg hm PyProof.Rows.boot_zip (PyProof.Rows.callWith_type1 (thn (ha.run pos pins s σ H _ I h) fun us s1 q => ?_) hs hpl))
  obtain ⟨vs, H1, I1, r1, b1, b2, a, b, xs, ys, rfl, sx, sy, q⟩ := q
  obtain ⟨u1, u2, rfl, e1, e2⟩ := vals2 r1
  cases e1
  cases e2
  obtain ⟨its1, _, p1⟩ := seqK I1 sx
  obtain ⟨its2, _, p2⟩ := seqK I1 sy
  refine zip_begins2 (beginsK (b := b1) a its1.toArray) (beginsK (b := b2) b its2.toArray) p1 p2 fun h' hz hTI hTO g1 g2 hsz hk => wpAny_pyIter_zip hz ?_
  have I2 : Inv X pins σ H1 { s1 with heap := h' } := I1.kept (t' := s1.toks) hk
  have na : a < s1.heap.objs.size := p1.lt
  have nb : b < s1.heap.objs.size := p2.lt
  have S : ZipSep2 (s1.heap.objs.size + 4) (s1.heap.objs.size + 2) (s1.heap.objs.size + 3) s1.heap.objs.size (s1.heap.objs.size + 1) [s1.heap.objs.size, a] [s1.heap.objs.size + 1, b] :=
    zip_sep2 (fun c hc => by rw [List.mem_singleton.mp hc]; exact na) (fun c hc => by rw [List.mem_singleton.mp hc]; exact nb)
  refine ⟨s1.heap.objs.size + 4, [s1.heap.objs.size + 4, s1.heap.objs.size + 2, s1.heap.objs.size + 3, s1.heap.objs.size, s1.heap.objs.size + 1], _, _, H1, rfl, I2, turn_zipK S (Nat.ne_of_lt na) (Nat.ne_of_lt (Nat.lt_succ_of_lt nb)), ⟨hz, hTI, ⟨_, _, hTO⟩, .new g1, .new g2⟩, fun c hc => ?_, q⟩
  have le : s1.heap.objs.size ≤ c := by
    rcases five hc with rfl | rfl | rfl | rfl | rfl <;> omega
  exact I1.fpOk le (I1.hok.fresh le)
theorem meets_enum1 {v : Value} {o : Obj} {H : Heap → Prop} (B : Begins v o H) :
    Meets (Builtin.«enumerate.__new__» ⟨[.type "enumerate", v], []⟩) (fun _ R s => H s.heap ∧
      R (.ok (.ret (.ref (s.heap.push o).objs.size))) { s with heap := (s.heap.push o).push { cls := .type "enumerate", data := .fields #[.none, .bool false, .ref s.heap.objs.size, rawInt 0, .none, .none] } }) :=
  .of_wp fun prog w A R s h => by
    obtain ⟨hp, g, d, tk, os⟩ := s
    obtain ⟨h1, h⟩ := h
    have sub := sub_enumerate
    have it : ∀ {A' : Around} {E : Value → Shared → Prop} {Q : Value → Shared → Prop}, Q (.ref hp.objs.size) ⟨hp.push o, g, d, tk, os⟩ → wpAny (model prog w) A' (pyIter v) Q E ⟨hp, g, d, tk, os⟩ :=
      fun q => B.iter prog w _ _ ⟨hp, g, d, tk, os⟩ _ h1 q
    wp_walk using it
    refine wpAny_stack_any fun st => wpAny_pure ?_
    split
    · rename_i c _ _ _ _ _
      cases (c == Value.type "enumerate") <;> (wp_walk using it; exact ⟨_, rfl, h⟩)
    · wp_walk using it
      exact ⟨_, rfl, h⟩
theorem call_enum1 {prog : Program} {A : Around} {E : Value → Shared → Prop} {s : Shared} {v : Value} {o : Obj} {H : Heap → Prop} {Q : Value → Shared → Prop} (B : Begins v o H) (h1 : H s.heap)
    (h : ∀ h', IsEnum h' (s.heap.objs.size + 1) s.heap.objs.size 0 .none → h'.get? s.heap.objs.size = some o → (∀ b u, s.heap.get? b = some u → h'.get? b = some u) → Q (.ref (s.heap.objs.size + 1)) { s with heap := h' }) :
    wpAny (model prog w) A (call (.type "enumerate") [v]) Q E s := by
  refine callType_new F.called_enumerate (by decide) (F.typeCall_enumerate_1 _) (F.newCall_enumerate_1 _) (fun obj => F.args_object_init_2 obj _) F.entry_enumerate_new (meets_enum1 B) ⟨h1, ?_⟩
  have z : (s.heap.push o).objs.size = s.heap.objs.size + 1 := Heap.size_push ..
  show _ ∧ _
  rw [z]
  have e : IsEnum ((s.heap.push o).push { cls := .type "enumerate", data := .fields #[.none, .bool false, .ref s.heap.objs.size, rawInt 0, .none, .none] }) (s.heap.objs.size + 1) s.heap.objs.size 0 .none := by
    have y := Heap.get?_push_size (s.heap.push o) (o := { cls := .type "enumerate", data := .fields #[.none, .bool false, .ref s.heap.objs.size, rawInt 0, .none, .none] }) rfl
    rw [z] at y
    exact y
  exact ⟨⟨_, e, rfl⟩, h _ e (Heap.get?_push_of_some _ (Heap.get?_push_size _ B.free)) fun b u x => Heap.get?_push_of_some _ (Heap.get?_push_of_some _ x)⟩
/-- one of either kind, each item in a new pair behind its number -/
def IteK (b : Bool) (K : PySem.W.Frag) (a : Addr) : It :=
  ⟨fun i H => ∃ (xs : List V) (x : V), SqK b K H a xs ∧ xs[i]? = some x, fun i H v H' => ∃ T x, v = .ref T ∧ H T = none ∧ H' = upd H T (.tup [.int (i : Nat), x]) ∧ ∀ xs, SqK b K H a xs → xs[i]? = some x,
    fun i H => ∃ xs : List V, SqK b K H a xs ∧ xs.length = i⟩
theorem walk_enumK {b : Bool} {a : Addr} {xs : List V} : Walk (IteK b K a) xs.length (fun H => SqK b K H a xs) (YPair (fun i => some (.int (i : Nat))) (fun i => xs[i]?)) where
  goes := fun i H hi q => ⟨xs, xs[i], q, List.getElem?_eq_getElem hi⟩
  stops := fun H q => ⟨xs, q, rfl⟩
  yields := fun i H v H' hi q ⟨T, x, e1, e2, e3, f⟩ => ⟨T, _, x, e1, e2, e3, rfl, f _ q⟩
theorem turn_enumK {b : Bool} {a e it : Addr} (ha : a ≠ it) (hea : e ≠ a) (hei : e ≠ it) :
    Turn P w K (.Tuple elts kk tpos) (IteK b K a) [e, it] e (fun i h => (∃ old, IsEnum h e it ((i : Nat) : Int) old) ∧ ItA b h it a i) where
  mem := List.mem_cons_self
  obj := fun i h st c hc => by
    obtain ⟨⟨old, he⟩, q⟩ := st
    rcases List.mem_cons.mp hc with rfl | hc
    · exact ⟨_, he, fun v z => nomatch z⟩
    · rw [List.mem_singleton.mp hc]
      exact q.obj
  keep := fun i h h' st k => by
    obtain ⟨⟨old, he⟩, q⟩ := st
    exact ⟨⟨old, k e (by simp) _ he⟩, q.at (k it (by simp))⟩
  item := by
    intro X hP hw hK hc i pins s σ H E I hf st hg
    subst hP hw hK
    obtain ⟨⟨old, he⟩, q⟩ := st
    obtain ⟨xs, x, sx, hx⟩ := hg
    obtain ⟨its, r, p⟩ := seqK I sx
    obtain ⟨u, hu, ru⟩ := r.get hx
    have hd : X.A.in1.handled = none := I.ok.hd hc
    have l1 : i < its.toArray.size := by
      have := (List.getElem?_eq_some_iff.mp hu).1
      simpa using this
    have el : e < s.heap.objs.size := Heap.lt_size he
    have il : it < s.heap.objs.size := by
      obtain ⟨o, z, _⟩ := q.obj
      exact Heap.lt_size z
    refine wpAny_pyNext_enum_itemD (drawsK (prog := X.prog) (w := X.w) (b := b) hd ha its.toArray) he ⟨q, p⟩ l1 hei (by simp [hei, hea]) fun v h' tk e1 ho st' hT hsz hk => ?_
    have ev : v = u := by
      have : its[i]? = some v := by simpa using e1
      rw [hu] at this
      exact (Option.some.inj this).symm
    subst ev
    refine ⟨_, rfl, wpAny_letOwnedTupleGo_enum (s := { s with heap := h', toks := tk + 1 }) ho fun h'' he' sb => ?_⟩
    have hT2 : h''.get? s.heap.objs.size = some { cls := .type "tuple", data := .seq #[.int i tk, v] } := (sb.2 _ (Nat.ne_of_gt el)).trans hT
    have new : ObjOk X.prog X.w (upd H s.heap.objs.size (.tup [.int (i : Nat), x])) h'' s.heap.objs.size (.tup [.int (i : Nat), x]) :=
      ⟨by show 2 ≤ sizeLine; decide, [.int i tk, v], .cons ⟨_, rfl⟩ (.cons ru .nil), ⟨_, hT2, rfl, _, rfl⟩⟩
    have I1 : Inv X pins σ (upd H s.heap.objs.size (.tup [.int (i : Nat), x])) { s with heap := h'', toks := tk + 1 } :=
      I.turnedNew (ch := [e, it]) (fun c o hc z => (sb.2 c fun y => hc (by simp [y])).trans (hk c o (fun y => hc (by simp [y])) (fun y => hc (by simp [y])) z)) hf (Nat.le_refl _) new
    refine ⟨.ref s.heap.objs.size, _, I1, rfl, ⟨_, x, rfl, I.hok.fresh (Nat.le_refl _), rfl, fun ys hy => by rw [injK I hy sx]; exact hx⟩, ⟨⟨v, ?_⟩, st'.1.at fun o z => (sb.2 it (Ne.symm hei)).trans z⟩, fun c hc => ?_⟩
    · have e2 : ((i + 1 : Nat) : Int) = (i : Int) + 1 := by omega
      rw [e2]
      exact he'
    · have lt : c < s.heap.objs.size := by
        rcases List.mem_cons.mp hc with rfl | z
        · exact el
        · rw [List.mem_singleton.mp z]
          exact il
      rw [upd_ne (Nat.ne_of_lt lt)]
      exact (hf c hc).1
  done := by
    intro X hP hw hK hc i pins s σ H E I hf st hg
    subst hP hw hK
    obtain ⟨⟨old, he⟩, q⟩ := st
    obtain ⟨xs, sx, rfl⟩ := hg
    obtain ⟨its, r, p⟩ := seqK I sx
    have hd : X.A.in1.handled = none := I.ok.hd hc
    obtain ⟨f0, f1, f2, f3, f4, f5⟩ := hf it (by simp)
    have hl : xs.length = its.toArray.size := by
      rw [List.size_toArray]
      exact r.length
    refine wpAny_pyNext_enum_endD (drawsK (prog := X.prog) (w := X.w) (b := b) hd ha its.toArray) he (by rw [hl] at q; exact ⟨q, p⟩) fun h' eb => ⟨rfl, I.turned (t' := s.toks) (fun b o hb z => eb b o hb z) f0 f1 f3 f4 f5⟩
  self := fun A i s Q E st h => by
    obtain ⟨⟨old, he⟩, _⟩ := st
    exact wpAny_pyIter_enum he h
def iEnumK (K : PySem.W.Frag) (ta : TA) : TI := fun σ H R => ta σ H fun vs H1 => ∃ b a xs, vs = [.ref a] ∧ SqK b K H1 a xs ∧ R (IteK b K a) H1
theorem pi_enumK {X : Cx} {e : Expr} {ta : TA} {p pos : Pos} (hg : Gl X "enumerate") (hm : X.mg "enumerate" = none) (ha : PA X [e] ta) (hs : starEach [e] X.env = [(false, eval e X.env)] := by rfl) :
    PI X (.Tuple elts kk tpos) (.Call (.Name "enumerate" p) [e] [] pos) (iEnumK X.K ta) := by
  refine ⟨fun pins s σ H R I h => ?_⟩
  refine Call_ (ld_blt I hg hm boot_enumerate (PyProof.Rows.callWith_type1 (thn (ha.run pos pins s σ H _ I h) fun us s1 q => ?_) hs rfl))
  obtain ⟨vs, H1, I1, r1, b, a, xs, rfl, sx, q⟩ := q
  obtain ⟨u, rfl, e1⟩ := vals1 r1
  cases e1
  obtain ⟨its, _, p1⟩ := seqK I1 sx
  refine call_enum1 (beginsK (b := b) a its.toArray) p1 fun h' he g hk => wpAny_pyIter_enum he ?_
  have I2 : Inv X pins σ H1 { s1 with heap := h' } := I1.kept (t' := s1.toks) hk
  have na : a < s1.heap.objs.size := p1.lt
  refine ⟨s1.heap.objs.size + 1, [s1.heap.objs.size + 1, s1.heap.objs.size], _, _, H1, rfl, I2, turn_enumK (Nat.ne_of_lt na) (Nat.ne_of_gt (Nat.lt_succ_of_lt na)) (Nat.succ_ne_self _), ⟨⟨.none, he⟩, .new g⟩, fun c hc => ?_, q⟩
  have le : s1.heap.objs.size ≤ c := by
    rcases List.mem_cons.mp hc with rfl | z
    · exact Nat.le_succ _
    · rw [List.mem_singleton.mp z]
      exact Nat.le_refl _
  exact I1.fpOk le (I1.hok.fresh le)
end
end Vk
/-! Readings by what stands afterwards. -/
namespace Vk
open PySem PySem.Spec PyProof.Rows L2
theorem Same.seqT {K : PySem.W.Frag} {H H' : Hp} {a : Addr} {xs : List V} (s : Same H H') (h : SqT K H a xs) : SqT K H' a xs := by
  rcases h with (h | ⟨o, h⟩) | h
  · exact .inl (.inl (s _ _ h))
  · exact .inl (.inr ⟨o, s _ _ h⟩)
  · exact .inr h
theorem Same.seqK {b : Bool} {K : PySem.W.Frag} {H H' : Hp} {a : Addr} {xs : List V} (s : Same H H') (h : SqK b K H a xs) : SqK b K H' a xs := by
  cases b with
  | true => exact s.seq h
  | false => exact Same.seqT s h
/-- t + u -/
theorem cat_any {K : PySem.W.Frag} {H : Hp} {a b : Addr} {xs ys : List V} {Q : VK} (ha : SqT K H a xs) (hb : SqT K H b ys) (hl : xs.length + ys.length ≤ sizeLine) (q : ∀ r H', Same H H' → SqT K H' r (xs ++ ys) → Q (.ref r) H') : rCatA K (.ref a) (.ref b) H Q := by
  refine ⟨a, b, xs, ys, rfl, rfl, ha, hb, hl, fun e => ?_, fun _ e => ?_, fun _ _ p np => q p _ (same_new np) (SqT.of upd_same)⟩
  · subst e
    exact q b H (Same.refl _) hb
  · subst e
    exact q a H (Same.refl _) (by rw [List.append_nil]; exact ha)
theorem cutV_whole (xs : List V) (lo hi : Option Int) (h : HT.sIx xs.length 0 lo = 0 ∧ HT.sIx xs.length xs.length hi = xs.length) : cutV xs lo hi = xs := by
  unfold cutV
  rw [h.1, h.2, List.drop_zero, Nat.sub_zero, List.take_length]
/-- t[lo:hi] -/
theorem slice_any {K : PySem.W.Frag} {H : Hp} {a : Addr} {xs : List V} {lo hi : Option Int} {Q : VK} (ha : SqT K H a xs) (q : ∀ r H', Same H H' → SqT K H' r (cutV xs lo hi) → Q (.ref r) H') : rSlA K (.ref a) lo hi H Q :=
  ⟨a, xs, rfl, ha, fun h => q a H (Same.refl _) (by rw [cutV_whole xs lo hi h]; exact ha), fun _ p np => q p _ (same_new np) (SqT.of upd_same)⟩
/-- from one on -/
theorem cut1 {xs : List V} {x : V} : cutV (x :: xs) (some 1) none = xs := by
  unfold cutV
  have e1 : HT.sIx (x :: xs).length 0 (some 1) = 1 := by
    have h := HT.sIx_nat (x :: xs).length 0 1
    rw [List.length_cons] at h ⊢
    exact h.trans (by omega)
  have e2 : HT.sIx (x :: xs).length (x :: xs).length none = xs.length + 1 := by
    rw [HT.sIx_none, List.length_cons]
  rw [e1, e2, List.drop_succ_cons, List.drop_zero, Nat.add_sub_cancel, List.take_length]
/-- a comprehension without a test, over any walk, whose items are those of R -/
theorem lc_to {J : It} {n : Nat} {G : Hp → Prop} {Y : Nat → Hp → V → Hp → Prop} (w : Walk J n G Y) {g : TG} {te : TE} {vs : List Nat} {σ : L2.St} {H1 : Hp} {D : Addr} {Qd : Hp → Prop} (R : List V) (hn : R.length = n) (hz : n < sizeLine) (nD : H1 D = none)
    (hG : ∀ H, Same H1 H → G H)
    (hs : ∀ (i : Nat) (x y : V) (H H' : Hp) (Qy : VK), R[i]? = some y → i < n → Same H1 H → Y i H x H' → (∀ H4, Same H H4 → Qy y H4) → g x (wipe σ vs) H' fun σ2 H2 => wipe σ2 vs = wipe σ vs ∧ te σ2 H2 Qy)
    (hd : ∀ H, Same H1 H → H D = some (.lst R) → Qd H) :
    ∃ W : Nat → Nat → Hp → Prop, (∃ m, W 0 m (upd H1 D (.lst []))) ∧ ∀ i m H, W i m H →
      (J.stop i H ∧ Qd H) ∨ (J.go i H ∧ ∃ Nx : Hp → Prop, (∀ H', Nx H' → ∃ m', m' < m ∧ W (i + 1) m' H') ∧ ∀ x H', J.yld i H x H' → g x (wipe σ vs) H' fun σ2 H2 => wipe σ2 vs = wipe σ vs ∧ tYes σ2 H2 fun b H3 =>
        if b = true then te σ2 H3 fun y H4 => ∃ acc, H4 D = some (.lst acc) ∧ acc.length < sizeLine ∧ Nx (upd H4 D (.lst (acc ++ [y]))) else Nx H3) := by
  refine lc_it w (tt := tYes) (fun i H => Same H1 H ∧ H D = some (.lst (R.take i))) ⟨same_new nD, by rw [upd_same]; rfl⟩ (fun i H _ p => hG H p.1) ?_ ?_
  · rintro i x H H' hi ⟨s, d⟩ y
    have hiR : i < R.length := by omega
    obtain ⟨v, hv⟩ : ∃ v, R[i]? = some v := ⟨_, List.getElem?_eq_getElem hiR⟩
    exact hs i x v H H' (fun y H4 => ∃ acc, H4 D = some (.lst acc) ∧ acc.length < sizeLine ∧ Same H1 (upd H4 D (.lst (acc ++ [y]))) ∧ upd H4 D (.lst (acc ++ [y])) D = some (.lst (R.take (i + 1)))) hv hi s y fun H4 s4 => by
      refine ⟨R.take i, s4 _ _ d, ?_, same_put (s.trans s4) nD, ?_⟩
      · rw [List.length_take]
        omega
      · rw [upd_same, List.take_add_one, hv]
        rfl
  · rintro H ⟨s, d⟩
    refine hd H s ?_
    rw [d, ← hn, List.take_length]
/-- a tuple that stands in the heap -/
def Tp (H : Hp) (a : Addr) (xs : List V) : Prop := H a = some (.tup xs)
theorem Tp.same {H H' : Hp} {a : Addr} {xs : List V} (h : Tp H a xs) (s : Same H H') : Tp H' a xs := s _ _ h
theorem Tp.t {K : PySem.W.Frag} {H : Hp} {a : Addr} {xs : List V} (h : Tp H a xs) : SqT K H a xs := SqT.of h
theorem Tp.but {m : Addr} {H H' : Hp} {a : Addr} {xs : List V} {kvs : List (Key × V)} (h : Tp H a xs) (hm : H m = some (.dK kvs)) (s : SameBut m H H') : Tp H' a xs := s _ _ (ne_of h hm (by intro z; cases z)) h
theorem cat_tp {K : PySem.W.Frag} {H : Hp} {a b : Addr} {xs ys : List V} {Q : VK} (ha : Tp H a xs) (hb : Tp H b ys) (hl : xs.length + ys.length ≤ sizeLine) (q : ∀ r H', Same H H' → Tp H' r (xs ++ ys) → Q (.ref r) H') : rCatA K (.ref a) (.ref b) H Q := by
  refine ⟨a, b, xs, ys, rfl, rfl, ha.t, hb.t, hl, fun e => ?_, fun _ e => ?_, fun _ _ p np => q p _ (same_new np) upd_same⟩
  · subst e
    exact q b H (Same.refl _) hb
  · subst e
    exact q a H (Same.refl _) (by rw [List.append_nil]; exact ha)
theorem slice_tp {K : PySem.W.Frag} {H : Hp} {a : Addr} {xs : List V} {lo hi : Option Int} {Q : VK} (ha : Tp H a xs) (q : ∀ r H', Same H H' → Tp H' r (cutV xs lo hi) → Q (.ref r) H') : rSlA K (.ref a) lo hi H Q :=
  ⟨a, xs, rfl, ha.t, fun h => q a H (Same.refl _) (by rw [cutV_whole xs lo hi h]; exact ha), fun _ p np => q p _ (same_new np) upd_same⟩
end Vk
namespace Vk
open PySem PySem.Spec PyProof.Rows L2
/-- a tuple once is the tuple -/
theorem once_ (l : Addr) (its : Array Value) (n : Nat) (dd : Option Addr) (sl : Array (Option Value)) (u : Tok) :
    Meets (Builtin.«tuple.__mul__» ⟨[.ref l, .int 1 u], []⟩) (fun _ R s => s.heap.get? l = some { cls := .type "tuple", dict := dd, data := .seq its n, slots := sl } ∧ R (.ok (.ret (Value.ref l))) s) :=
  .of_wp fun prog w A R s h => by
    obtain ⟨hp, gs, dr, tk, os⟩ := s
    obtain ⟨at_l, last⟩ := h
    have f1 := AutoSeq1.idx_int
    have one : (its.isEmpty || (1 : Int) == 1) = true := by
      rw [Bool.or_eq_true]
      exact Or.inr rfl
    wp_walk using wpAny_loadPart' at_l
    exact ⟨_, rfl, last⟩
/-- a tuple no times is the empty tuple -/
theorem never_ (l : Addr) (its : Array Value) (n : Nat) (dd : Option Addr) (sl : Array (Option Value)) (u : Tok) (ne : its.isEmpty = false) :
    Meets (Builtin.«tuple.__mul__» ⟨[.ref l, .int 0 u], []⟩) (fun _ R s => s.heap.get? l = some { cls := .type "tuple", dict := dd, data := .seq its n, slots := sl } ∧
      R (.ok (.ret (Value.ref s.heap.objs.size))) { s with heap := s.heap.push { cls := Value.type "tuple", data := Data.seq #[] }, toks := s.toks }) :=
  .of_wp fun prog w A R s h => by
    obtain ⟨hp, gs, dr, tk, os⟩ := s
    obtain ⟨at_l, last⟩ := h
    have f1 := AutoSeq1.idx_int
    have no : (its.isEmpty || (0 : Int) == 1) = false := by
      rw [ne]
      rfl
    wp_walk using wpAny_loadPart' at_l
    exact ⟨_, rfl, last⟩
/-- a tuple some times, be it once or never -/
def rTms (K : PySem.W.Frag) : R2 := fun x y H Q => ∃ (l : Addr) (k : Nat) (xs : List V), x = .ref l ∧ y = .int (k : Int) ∧ SqT K H l xs ∧ xs ≠ [] ∧ k ≤ 1000 ∧ xs.length ≤ 1000 ∧ (k = 1 → Q (.ref l) H) ∧ (k ≠ 1 → ∀ p, H p = none → Q (.ref p) (upd H p (.tup (List.replicate k xs).flatten)))
theorem op_tms {X : Cx} {K : PySem.W.Frag} (h : X.K = K) : OpR X (binaryOp .Mult) (rTms K) := by
  subst h
  intro pins s σ H x y v u Q I rx ry h
  obtain ⟨l, k, xs, rfl, rfl, hT, hne, hk, hx, q1, q2⟩ := h
  by_cases big : 2 ≤ k
  · refine op_repT _ _ _ _ _ _ _ _ _ I rx ry ⟨l, k, xs, rfl, rfl, hT, hne, by omega, by omega, hx, ?_⟩
    rw [Int.toNat_natCast]
    exact q2 (by omega)
  · cases rx
    obtain ⟨tk, rfl⟩ := ry
    obtain ⟨its, r, ⟨⟨cls, dd, data, sl⟩, ho, hc, n, hd⟩, hs⟩ := I.tuple hT
    simp only at hc hd
    subst hc hd
    have full : its.toArray.isEmpty = false := by
      cases its with
      | cons a b => rfl
      | nil => exact absurd (List.eq_nil_of_length_eq_zero r.length) hne
    obtain rfl | rfl : k = 0 ∨ k = 1 := by omega
    · refine wpAny_binaryOp_repeat_ref (T := "tuple") (U := "int") (by decide) ⟨_, ho, rfl⟩ (fun s' => typeIs_int s' _ tk) noFill_tuple_mul F.fills_int_mul F.slot_int_rmul repeat_tuple F.slot_int_index.lookup (call_meets F.slot_int_rmul (typeIs_int s _ tk) F.entry_int_rmul (F.args_int_rmul_2 _ _) (int_rmul_tuple _ tk l its.toArray n dd sl) ⟨ho, rfl, ⟨_, ho, rfl⟩, call_meets F.slot_tuple_mul ⟨_, ho, rfl⟩ F.entry_tuple_mul (F.args_tuple_mul_2 _ _) (never_ l its.toArray n dd sl tk full) ⟨ho, ?_⟩⟩)
      refine ⟨.ref s.heap.objs.size, _, I.laid (t' := s.toks) (o := .tup []) (fun b ob q => Heap.get?_push_of_some _ q) (Nat.le_refl _) ?_, rfl, q2 (by decide) _ (I.hok.fresh (Nat.le_refl _))⟩
      exact ⟨by decide, _, .nil, IsTup.new _ _⟩
    · exact wpAny_binaryOp_repeat_ref (T := "tuple") (U := "int") (by decide) ⟨_, ho, rfl⟩ (fun s' => typeIs_int s' _ tk) noFill_tuple_mul F.fills_int_mul F.slot_int_rmul repeat_tuple F.slot_int_index.lookup (call_meets F.slot_int_rmul (typeIs_int s _ tk) F.entry_int_rmul (F.args_int_rmul_2 _ _) (int_rmul_tuple _ tk l its.toArray n dd sl) ⟨ho, rfl, ⟨_, ho, rfl⟩, call_meets F.slot_tuple_mul ⟨_, ho, rfl⟩ F.entry_tuple_mul (F.args_tuple_mul_2 _ _) (once_ l its.toArray n dd sl tk) ⟨ho, ⟨.ref l, _, I, rfl, q1 rfl⟩⟩⟩)
end Vk
/-! What nearly every law of the table wants: the state of the draws, rows of numbers, short data. -/
namespace Vk
open PySem PySem.Spec PyProof.Rows L2
def mkv (L sd : Int) (c : Addr) (sp : Int) : List (Key × V) := [(.inr "left", .int L), (.inr "seed", .int sd), (.inr "cells", .ref c), (.inr "spot", .int sp)]
theorem val_left {L sd sp : Int} {c : Addr} : valV (mkv L sd c sp) (.inr "left") = some (.int L) := by rfl
theorem val_seed {L sd sp : Int} {c : Addr} : valV (mkv L sd c sp) (.inr "seed") = some (.int sd) := by rfl
theorem val_cells {L sd sp : Int} {c : Addr} : valV (mkv L sd c sp) (.inr "cells") = some (.ref c) := by rfl
theorem val_spot {L sd sp : Int} {c : Addr} : valV (mkv L sd c sp) (.inr "spot") = some (.int sp) := by rfl
theorem put_left {L sd sp i : Int} {c : Addr} : putK (mkv L sd c sp) (.inr "left") (.int i) = mkv i sd c sp := by rfl
theorem put_spot {L sd sp i : Int} {c : Addr} : putK (mkv L sd c sp) (.inr "spot") (.int i) = mkv L sd c i := by rfl
theorem get_m {H : Hp} {m : Addr} {kvs : List (Key × V)} {x : Str} {v : V} (hm : H m = some (.dK kvs)) (h : valV kvs (.inr x) = some v) : DGet H m (.str x) (some v) := by
  have q := DGet.k (k := Sum.inr x) hm
  rw [h] at q
  exact q
theorem put_m {H : Hp} {m : Addr} {L sd sp : Int} {c : Addr} {kvs : List (Key × V)} {x : Str} {v : V} (hm : H m = some (.dK (mkv L sd c sp))) (h : putK (mkv L sd c sp) (.inr x) v = kvs) : DPut H m (.str x) v (upd H m (.dK kvs)) := by
  have q := DPut.k (k := Sum.inr x) (v := v) hm (small1000 (show 4 ≤ 1000 by decide))
  rw [h] at q
  exact q
/-- the state of the draws stands at m; at most n draws were made -/
def MOk (H : Hp) (m c : Addr) (n : Nat) : Prop := ∃ (L sd sp : Int) (cells : List Int), H m = some (.dK (mkv L sd c sp)) ∧ H c = some (.lst (cells.map V.int)) ∧ 0 < cells.length ∧ 0 ≤ sp ∧ sp ≤ n
theorem MOk.but {H H' : Hp} {m c q : Addr} {n : Nat} (h : MOk H m c n) (hq : q ≠ m) (hl : ∀ xs, H q ≠ some (.lst xs)) (s : SameBut q H H') : MOk H' m c n := by
  obtain ⟨L, sd, sp, cells, h1, h2, h3⟩ := h
  refine ⟨L, sd, sp, cells, s _ _ (Ne.symm hq) h1, s _ _ (fun z => hl _ (by rw [← z]; exact h2)) h2, h3⟩
theorem MOk.same {H H' : Hp} {m c : Addr} {n : Nat} (h : MOk H m c n) (s : Same H H') : MOk H' m c n := by
  obtain ⟨L, sd, sp, cells, h1, h2, h3⟩ := h
  exact ⟨L, sd, sp, cells, s _ _ h1, s _ _ h2, h3⟩
def spDraw : Sp := fun vs H Q _ => ∃ (m c : Addr) (n : Nat) (b : Int), vs = [.ref m, .int b] ∧ MOk H m c n ∧ n ≤ 100000 ∧ 0 < b ∧ b.natAbs < 2 ^ 200 ∧
  ∀ H' v, SameBut m H H' → MOk H' m c (n + 1) → 0 ≤ v → v < b → Q (.int v) H'
def spBegun (K : PySem.W.Frag) : Sp := fun vs H Q _ => ∃ (a : Addr) (k : Int) (ns : List Int), vs = [.ref a, .int k] ∧ SqL K H a (ns.map V.int) ∧ ns.length ≤ 63 ∧ 0 ≤ k ∧ k ≤ 100 ∧
  ∀ H' p r, Same H H' → H p = none → MOk H' p r 0 → Q (.ref p) H'
/-- |a| < 2 ^ n -/
def SmZ (n : Nat) (a : Int) : Prop := a.natAbs < 2 ^ n
def dot (xs ys : List Int) : Int := (List.zipWith (· * ·) xs ys).sum
/-- rows of few and small numbers -/
def Row (H : Hp) (a : Addr) (xs : List Int) : Prop := Tp H a (xs.map V.int) ∧ xs.length ≤ 100 ∧ ∀ x ∈ xs, SmZ 300 x
theorem Row.same {H H' : Hp} {a : Addr} {xs : List Int} (h : Row H a xs) (s : Same H H') : Row H' a xs := ⟨h.1.same s, h.2⟩
theorem small {n : Nat} (h : n ≤ 100) : n < sizeLine := Nat.lt_of_le_of_lt h (by decide)
theorem zipW_get {α : Type} {f : Int → Int → α} {xs ys : List Int} {i : Nat} {y : α} (h : (List.zipWith f xs ys)[i]? = some y) : ∃ a b, xs[i]? = some a ∧ ys[i]? = some b ∧ y = f a b := by
  rw [List.getElem?_zipWith] at h
  cases h1 : xs[i]? with
  | none => rw [h1] at h; cases h
  | some a =>
    cases h2 : ys[i]? with
    | none => rw [h1, h2] at h; cases h
    | some b => rw [h1, h2] at h; exact ⟨a, b, rfl, rfl, (Option.some.inj h).symm⟩
theorem map_get {α β : Type} {f : α → β} {xs : List α} {i : Nat} {y : β} (h : (xs.map f)[i]? = some y) : ∃ a, xs[i]? = some a ∧ y = f a := by
  rw [List.getElem?_map] at h
  cases h1 : xs[i]? with
  | none => rw [h1] at h; cases h
  | some a => rw [h1] at h; exact ⟨a, rfl, (Option.some.inj h).symm⟩
theorem wide {a b : Int} (h1 : SmZ 300 a) (h2 : SmZ 300 b) : a.natAbs.log2 + b.natAbs.log2 < 700 := by
  have := PySem.Flt.log2_lt_of (by decide) h1
  have := PySem.Flt.log2_lt_of (by decide) h2
  omega
/-- several rows of n numbers -/
def Rws (H : Hp) (ps : List Addr) (rows : List (List Int)) (n : Nat) : Prop := ps.length = rows.length ∧ ∀ (i : Nat) (p : Addr) (r : List Int), ps[i]? = some p → rows[i]? = some r → Row H p r ∧ r.length = n
theorem Rws.same {H H' : Hp} {ps : List Addr} {rows : List (List Int)} {n : Nat} (h : Rws H ps rows n) (s : Same H H') : Rws H' ps rows n := ⟨h.1, fun i p r h1 h2 => ⟨(h.2 i p r h1 h2).1.same s, (h.2 i p r h1 h2).2⟩⟩
theorem ix_tupK {X : Cx} {K : PySem.W.Frag} (h : X.K = K) : IxR X (rIxT K) := by
  subst h
  exact ix_tup
theorem atI_at {xs : List V} {j : Int} {i : Nat} {v : V} (e : j = ((i : Nat) : Int)) (h : xs[i]? = some v) : atI xs j = some v := by
  rw [e]
  exact atI_nat h
theorem get_map {α β : Type} {f : α → β} {xs : List α} {i : Nat} {x : α} (h : xs[i]? = some x) : (xs.map f)[i]? = some (f x) := by
  rw [List.getElem?_map, h]
  rfl
theorem Row.but {m a : Addr} {H H' : Hp} {xs : List Int} {kvs : List (Key × V)} (h : Row H a xs) (hm : H m = some (.dK kvs)) (s : SameBut m H H') : Row H' a xs := ⟨h.1.but hm s, h.2⟩
theorem Rws.but {m : Addr} {H H' : Hp} {ps : List Addr} {rows : List (List Int)} {n : Nat} {kvs : List (Key × V)} (h : Rws H ps rows n) (hm : H m = some (.dK kvs)) (s : SameBut m H H') : Rws H' ps rows n :=
  ⟨h.1, fun i p r h1 h2 => ⟨(h.2 i p r h1 h2).1.but hm s, (h.2 i p r h1 h2).2⟩⟩
theorem sb_put {m D : Addr} {H1 H4 : Hp} {o : HO} (nD : H1 D = none) (s : SameBut m H1 H4) : SameBut m H1 (upd H4 D o) := fun b u hb e => by
  rw [upd_ne (ne_of_none e nD)]
  exact s _ _ hb e
theorem MOk.m_some {H : Hp} {m c : Addr} {n : Nat} (h : MOk H m c n) : ∃ kvs, H m = some (.dK kvs) := by
  obtain ⟨L, sd, sp, cells, h1, _⟩ := h
  exact ⟨_, h1⟩
theorem MOk.c_some {H : Hp} {m c : Addr} {n : Nat} (h : MOk H m c n) : ∃ xs, H c = some (.lst xs) := by
  obtain ⟨L, sd, sp, cells, _, h2, _⟩ := h
  exact ⟨_, h2⟩
theorem MOk.mono {H : Hp} {m c : Addr} {n n' : Nat} (h : MOk H m c n) (l : n ≤ n') : MOk H m c n' := by
  obtain ⟨L, sd, sp, cells, h1, h2, h3, h4, h5⟩ := h
  exact ⟨L, sd, sp, cells, h1, h2, h3, h4, by omega⟩
theorem MOk.put {H : Hp} {m c D : Addr} {n : Nat} {o : HO} (h : MOk H m c n) (dm : D ≠ m) (dc : D ≠ c) : MOk (upd H D o) m c n := by
  obtain ⟨L, sd, sp, cells, h1, h2, h3, h4, h5⟩ := h
  exact ⟨L, sd, sp, cells, by rw [upd_ne (Ne.symm dm)]; exact h1, by rw [upd_ne (Ne.symm dc)]; exact h2, h3, h4, h5⟩
theorem smz_of {a b : Int} {n : Nat} (h0 : -b ≤ a) (h1 : a ≤ b) (hb : b.natAbs < 2 ^ n) : SmZ n a := by
  unfold SmZ
  have : a.natAbs ≤ b.natAbs := by omega
  omega
theorem smz_mono {a : Int} {n m : Nat} (h : SmZ n a) (l : n ≤ m) : SmZ m a := Nat.lt_of_lt_of_le h (Nat.pow_le_pow_right (by decide) l)
theorem smz_mul {a b : Int} {n m : Nat} (h1 : SmZ n a) (h2 : SmZ m b) : SmZ (n + m) (a * b) := by
  unfold SmZ at *
  rw [Int.natAbs_mul, Nat.pow_add]
  exact Nat.mul_lt_mul'' h1 h2
theorem ix_listK {X : Cx} {K : PySem.W.Frag} (h : X.K = K) : IxR X (rIxL K) := by
  subst h
  exact ix_list
theorem getD_at {xs : List Int} {i : Nat} (hi : i < xs.length) : xs[i]? = some (xs.getD i 0) := by
  rw [List.getD_eq_getElem?_getD, List.getElem?_eq_getElem hi]
  rfl
/-- a run over any walk, whatever a turn's form -/
theorem walk_run {J : It} {n : Nat} {G : Hp → Prop} {Y : Nat → Hp → V → Hp → Prop} (w : Walk J n G Y) (B : (Hp → Prop) → V → Hp → Prop) (Pv : Nat → Hp → Prop) {H0 : Hp} {Z : Hp → Prop} (h0 : Pv 0 H0) (hG : ∀ i H, i ≤ n → Pv i H → G H)
    (hs : ∀ i x H H', i < n → Pv i H → Y i H x H' → B (Pv (i + 1)) x H') (hd : ∀ H, Pv n H → Z H) :
    ∃ W : Nat → Nat → Hp → Prop, (∃ m, W 0 m H0) ∧ ∀ i m H, W i m H → (J.stop i H ∧ Z H) ∨ (J.go i H ∧ ∃ Nx : Hp → Prop, (∀ H', Nx H' → ∃ m', m' < m ∧ W (i + 1) m' H') ∧ ∀ x H', J.yld i H x H' → B Nx x H') := by
  refine ⟨fun i m H => m = n - i ∧ i ≤ n ∧ Pv i H, ⟨n - 0, rfl, Nat.zero_le _, h0⟩, ?_⟩
  rintro i m H ⟨rfl, hi, p⟩
  by_cases lt : i < n
  · exact .inr ⟨w.goes i H lt (hG i H hi p), Pv (i + 1), fun H' p' => ⟨n - (i + 1), by omega, rfl, lt, p'⟩, fun x H' y => hs i x H H' lt p (w.yields i H x H' lt (hG i H hi p) y)⟩
  · obtain rfl : i = n := by omega
    exact .inl ⟨w.stops H (hG _ H hi p), hd H p⟩
/-- several tuples of numbers -/
def Rw (H : Hp) (ps : List Addr) (ss : List (List Int)) : Prop := ps.length = ss.length ∧ ∀ (i : Nat) (p : Addr) (r : List Int), ps[i]? = some p → ss[i]? = some r → Tp H p (r.map V.int)
theorem Rw.same {H H' : Hp} {ps : List Addr} {ss : List (List Int)} (h : Rw H ps ss) (s : Same H H') : Rw H' ps ss := ⟨h.1, fun i p r h1 h2 => (h.2 i p r h1 h2).same s⟩
theorem Rw.snoc {H : Hp} {ps : List Addr} {ss : List (List Int)} {p : Addr} {r : List Int} (h : Rw H ps ss) (hp : Tp H p (r.map V.int)) : Rw H (ps ++ [p]) (ss ++ [r]) := by
  refine ⟨by rw [List.length_append, List.length_append, h.1]; rfl, fun j a z h1 h2 => ?_⟩
  by_cases hj : j < ps.length
  · rw [List.getElem?_append_left hj] at h1
    rw [List.getElem?_append_left (by rw [← h.1]; exact hj)] at h2
    exact h.2 j a z h1 h2
  · rw [List.getElem?_append_right (by omega)] at h1
    rw [List.getElem?_append_right (by rw [← h.1]; omega)] at h2
    have j0 : j - ps.length = 0 := by
      have := (List.getElem?_eq_some_iff.mp h1).1
      simp only [List.length_cons, List.length_nil] at this
      omega
    rw [j0] at h1
    rw [← h.1, j0] at h2
    obtain rfl : p = a := Option.some.inj h1
    obtain rfl : r = z := Option.some.inj h2
    exact hp
theorem eqv_rows (xs ys : List Int) : PyData.eqv (.tuple (xs.map PyData.int)) (.tuple (ys.map PyData.int)) = decide (xs = ys) := by
  rw [show PyData.eqv (.tuple (xs.map PyData.int)) (.tuple (ys.map PyData.int)) = PyData.eqvAll (xs.map PyData.int) (ys.map PyData.int) by simp only [PyData.eqv]]
  exact PySem.W.ked_eqvAll xs ys
theorem shaped_row (ns : List Int) : SeqAt.shaped (.tuple (ns.map PyData.int)) = true := by
  obtain ⟨h1, h2⟩ := lay_ints ns
  simp [SeqAt.shaped, PyData.canLay0, PyData.depth, h1, h2]
theorem pa_starK {X : Cx} {K : PySem.W.Frag} {e : Expr} {es : List Expr} {te : TE} {t : TA} {p : Pos} (h : X.K = K) (he : PE X e te) (hr : PA X es t) (hs : starEach (.Starred e p :: es) X.env = (true, eval e X.env) :: starEach es X.env := by rfl) : PA X (.Starred e p :: es) (StX.tStar K te t) := by
  subst h
  exact StX.pa_star he hr hs
theorem op_neDK {X : Cx} {K : PySem.W.Frag} (h : X.K = K) (hu : X.A.units + 64 < cLine) : OpR X (compareOp .NotEq) (rNeD K) := by
  subst h
  exact op_neD hu
theorem big {n : Nat} (h : n ≤ 40000) : n < sizeLine := Nat.lt_of_le_of_lt h (by decide)
theorem tp_put {H : Hp} {p D : Addr} {xs l : List V} {o : HO} (h : Tp H p xs) (d : H D = some (.lst l)) : Tp (upd H D o) p xs := by
  have ne : p ≠ D := by
    rintro rfl
    have h : H p = some (.tup xs) := h
    rw [h] at d
    cases d
  show upd H D o p = some (.tup xs)
  rw [upd_ne ne]
  exact h
theorem Rw.put {H : Hp} {D : Addr} {l : List V} {o : HO} {ps : List Addr} {ss : List (List Int)} (h : Rw H ps ss) (d : H D = some (.lst l)) : Rw (upd H D o) ps ss := ⟨h.1, fun i p r h1 h2 => tp_put (h.2 i p r h1 h2) d⟩
theorem op_tmsK {X : Cx} {K : PySem.W.Frag} (h : X.K = K) : OpR X (binaryOp .Mult) (rTms K) := op_tms h
theorem tms_tp {K : PySem.W.Frag} {H : Hp} {a : Addr} {xs : List V} {k : Nat} {z : Int} {Q : VK} (ez : z = ((k : Nat) : Int)) (ha : Tp H a xs) (ne : xs ≠ []) (hk : k ≤ 1000) (hx : xs.length ≤ 1000) (q : ∀ r H', Same H H' → Tp H' r (List.replicate k xs).flatten → Q (.ref r) H') : rTms K (.ref a) (.int z) H Q := by
  subst ez
  refine ⟨a, k, xs, rfl, rfl, ha.t, ne, hk, hx, fun e => ?_, fun _ p np => q p _ (same_new np) upd_same⟩
  subst e
  refine q a H (Same.refl _) ?_
  rw [List.replicate_one, List.flatten_singleton]
  exact ha
def spSigned : Sp := fun vs H Q _ => ∃ (m c : Addr) (q : Nat) (b : Int), vs = [.ref m, .int b] ∧ MOk H m c q ∧ q ≤ 50000 ∧ 0 ≤ b ∧ b ≤ 1000 ∧ ∀ H' v, SameBut m H H' → MOk H' m c (q + 2) → -b ≤ v → v ≤ b → Q (.int v) H'
/-- two values of the same data -/
def spLike (K : PySem.W.Frag) : Sp := fun vs H Q _ => ∃ x y d, vs = [x, y] ∧ Dp K H x d ∧ Dp K H y d ∧ Fit d ∧ Q (.bl true) H
theorem iteF' {c : Bool} {A B : Prop} (hc : c = false) (h : B) : if c = true then A else B := by
  subst hc
  exact iteF h
theorem dot_abs (A M : Nat) : ∀ (xs ys : List Int), (∀ x ∈ xs, x.natAbs ≤ A) → (∀ y ∈ ys, y.natAbs ≤ M) → (dot xs ys).natAbs ≤ ys.length * (A * M)
  | [], _, _, _ => by
    show (0 : Int).natAbs ≤ _
    exact Nat.zero_le _
  | x :: xs, [], _, _ => by
    show (0 : Int).natAbs ≤ _
    exact Nat.zero_le _
  | x :: xs, y :: ys, hx, hy => by
    have ih := dot_abs A M xs ys (fun a h => hx a (List.mem_cons_of_mem _ h)) (fun a h => hy a (List.mem_cons_of_mem _ h))
    have e : dot (x :: xs) (y :: ys) = x * y + dot xs ys := by
      unfold dot
      rw [List.zipWith_cons_cons, List.sum_cons]
    rw [e, List.length_cons, Nat.succ_mul]
    have h1 : (x * y).natAbs ≤ A * M := by
      rw [Int.natAbs_mul]
      exact Nat.mul_le_mul (hx x (List.mem_cons_self ..)) (hy y (List.mem_cons_self ..))
    have h2 := Int.natAbs_add_le (x * y) (dot xs ys)
    omega
theorem fdiv_abs {a d : Int} (hd : 0 < d) : (a.fdiv d).natAbs ≤ a.natAbs := by
  rw [Int.fdiv_eq_ediv_of_nonneg _ (Int.le_of_lt hd)]
  exact Int.natAbs_ediv_le_natAbs a d
theorem fit_all {k a : Nat} : ∀ (L : Nat) (ds : List PyData), (∀ d ∈ ds, FitN k a d) → ds.length ≤ L → FitLN k ((a + 1) * L) ds
  | _, [], _, _ => .nil
  | 0, d :: ds, _, h => by cases h
  | L + 1, d :: ds, hd, h => by
    refine .cons (hd d (List.mem_cons_self ..)) (fit_all L ds (fun x hx => hd x (List.mem_cons_of_mem _ hx)) (by rw [List.length_cons] at h; omega)) ?_
    rw [Nat.mul_succ]
    omega
theorem fit_ints {k : Nat} (L : Nat) (xs : List Int) (h : ∀ x ∈ xs, SmZ 300 x) (hl : xs.length ≤ L) : FitN (k + 1) L (.tuple (xs.map PyData.int)) := by
  have q := fit_all (k := k) (a := 0) L (xs.map PyData.int) (fun d hd => by
    obtain ⟨x, hx, rfl⟩ := List.mem_map.mp hd
    exact FitN.int (Nat.lt_of_lt_of_le (h x hx) (Nat.pow_le_pow_right (by decide) (by decide)))) (by rw [List.length_map]; exact hl)
  rw [Nat.zero_add, Nat.one_mul] at q
  exact .tup q
/-- the data of a row, of a table, of a grid -/
def dRow (r : List Int) : PyData := .tuple (r.map PyData.int)
theorem dp_row {K : PySem.W.Frag} {H : Hp} {p : Addr} {r : List Int} (h : Tp H p (r.map V.int)) : Dp K H (.ref p) (dRow r) := .tup h.t (dp_ints r)
theorem dp_all {K : PySem.W.Frag} {H : Hp} : ∀ (qs : List Addr) (ds : List PyData), qs.length = ds.length → (∀ (i : Nat) (q : Addr) (d : PyData), qs[i]? = some q → ds[i]? = some d → Dp K H (.ref q) d) → DpAll K H (qs.map V.ref) ds
  | [], [], _, _ => .nil
  | [], _ :: _, h, _ => by cases h
  | _ :: _, [], h, _ => by cases h
  | q :: qs, d :: ds, h, k => .cons (k 0 q d rfl rfl) (dp_all qs ds (Nat.succ.inj h) fun i a b h1 h2 => k (i + 1) a b h1 h2)
instance (n : Nat) (a : Int) : Decidable (SmZ n a) := Nat.decLt _ _
theorem MOk.ext {H H' : Hp} {m r : Addr} {n : Nat} (h : MOk H m r n) (e : LamX.ExtN H H') : MOk H' m r n := by
  obtain ⟨L, sd, sp, cells, h1, h2, h3⟩ := h
  exact ⟨L, sd, sp, cells, e _ _ h1 (fun ps z => by cases z), e _ _ h2 (fun ps z => by cases z), h3⟩
theorem sql_ext {K : PySem.W.Frag} {H H' : Hp} {a : Addr} {xs : List V} (h : SqL K H a xs) (e : LamX.ExtN H H') : SqL K H' a xs := by
  rcases h with (h | ⟨o, h⟩) | h
  · exact .inl (.inl (e _ _ h fun ps z => by cases z))
  · exact .inl (.inr ⟨o, e _ _ h fun ps z => by cases z⟩)
  · exact .inr h
theorem ext_but {H H1 H2 : Hp} {m : Addr} (hm : H m = none) (a : LamX.ExtN H H1) (b : SameBut m H1 H2) : LamX.ExtN H H2 := fun c o h n => b c o (ne_of_none h hm) (a c o h n)
theorem tabs_but {T : List (Addr × Str)} {H H' : Hp} {m : Addr} {kvs : List (Key × V)} (hT : LamX.Tabs T H) (hm : H m = some (.dK kvs)) (s : SameBut m H H') : LamX.Tabs T H' := fun p hp => by
  obtain ⟨ps, h1, h2, h3⟩ := hT p hp
  refine ⟨ps, s _ _ (ne_of h1 hm (by intro z; cases z)) h1, h2, fun pos cv hc => ?_⟩
  obtain ⟨c, e1, e2⟩ := h3 pos cv hc
  exact ⟨c, e1, s _ _ (ne_of e2 hm (by intro z; unfold LamX.CodeO at z; cases z)) e2⟩
theorem ext_same {H H1 H2 : Hp} (a : LamX.ExtN H H1) (b : Same H1 H2) : LamX.ExtN H H2 := a.trans (LamX.ExtN.of b)
theorem Tp.ext {H H' : Hp} {a : Addr} {xs : List V} (h : Tp H a xs) (e : LamX.ExtN H H') : Tp H' a xs := e _ _ h fun ps z => by cases z
theorem cons_ {te : TE} {t : TA} {σ : L2.St} {H : Hp} {R : List V → Hp → Prop} (h : te σ H fun x H1 => t σ H1 fun xs H2 => R (x :: xs) H2) : tCons te t σ H R := h
def tInts : List Int → TA
  | [] => tNil
  | x :: r => tCons (tC (.int x)) (tInts r)
def tRows : List (List Int) → TA
  | [] => tNil
  | x :: r => tCons (tTup (tInts x)) (tRows r)
theorem ints_ {σ : L2.St} {H : Hp} : ∀ (xs : List Int) {R : List V → Hp → Prop}, R (xs.map V.int) H → tInts xs σ H R
  | [], _, h => h
  | x :: r, R, h => ints_ r (R := fun vs H' => R (.int x :: vs) H') h
theorem row_ {σ : L2.St} {H : Hp} (xs : List Int) (hl : xs.length ≤ 100) {Q : VK} (h : ∀ p H', Same H H' → Tp H' p (xs.map V.int) → Q (.ref p) H') : tTup (tInts xs) σ H Q :=
  ints_ xs ⟨by rw [List.length_map]; exact Nat.le_of_lt (small hl), fun p np => h p _ (same_new np) upd_same⟩
theorem rows_ {n : Nat} {σ : L2.St} : ∀ (rs : List (List Int)) {H : Hp} {R : List V → Hp → Prop}, (∀ r ∈ rs, r.length = n ∧ n ≤ 100 ∧ ∀ x ∈ r, SmZ 300 x) → (∀ ps H', Same H H' → Rws H' ps rs n → R (ps.map V.ref) H') → tRows rs σ H R
  | [], H, R, _, h => h [] H (Same.refl _) ⟨rfl, fun i p r e _ => by cases e⟩
  | x :: rs, H, R, hx, h => by
    obtain ⟨l, ln, z⟩ := hx x (List.mem_cons_self ..)
    show tTup (tInts x) σ H fun v H1 => tRows rs σ H1 fun xs H2 => R (v :: xs) H2
    refine row_ x (by omega) fun p H1 s1 g1 => ?_
    refine rows_ rs (fun r hr => hx r (List.mem_cons_of_mem _ hr)) fun ps H2 s2 w2 => ?_
    refine h (p :: ps) H2 (s1.trans s2) ⟨by rw [List.length_cons, List.length_cons, w2.1], fun i q r e1 e2 => ?_⟩
    cases i with
    | zero =>
      obtain rfl : p = q := Option.some.inj e1
      obtain rfl : x = r := Option.some.inj e2
      exact ⟨⟨g1.same s2, by omega, z⟩, l⟩
    | succ i => exact w2.2 i q r e1 e2
theorem smz_le {x b : Int} (h0 : 0 ≤ x) (h1 : x ≤ b) (hb : b.natAbs < 2 ^ 300) : SmZ 300 x := smz_of (b := b) (by omega) h1 hb
def spOf : Sp := fun vs H Q _ => ∃ (m c L : Addr) (n : Nat) (xs : List V), vs = [.ref m, .ref L] ∧ MOk H m c n ∧ n ≤ 100000 ∧ H L = some (.lst xs) ∧ 0 < xs.length ∧ xs.length ≤ 100 ∧ ∀ H' v, SameBut m H H' → MOk H' m c (n + 1) → v ∈ xs → Q v H'
theorem Row.tail {H : Hp} {a : Addr} {x : Int} {xs : List Int} (h : Row H a (x :: xs)) : xs.length ≤ 100 ∧ ∀ y ∈ xs, SmZ 300 y := ⟨Nat.le_trans (Nat.le_succ _) h.2.1, fun y hy => h.2.2 y (List.mem_cons_of_mem _ hy)⟩
theorem smz_log {a : Int} {n : Nat} (hn : 0 < n) (h : SmZ n a) : a.natAbs.log2 < n := PySem.Flt.log2_lt_of hn h
def spIsn : Sp := fun vs H Q _ => ∃ x t, vs = [x] ∧ Oky H x t ∧ Q (.bl (isInt x)) H
def tupOk (n : Nat) (xs : List V) : Bool := decide (xs.length = n) && xs.all isInt
/-- a value of any kind is judged: an entry of a tuple, too -/
def spAren : Sp := fun vs H Q _ => ∃ (x : V) (n : Nat), vs = [x, .int n] ∧ ((∃ t, Oky H x t ∧ t ≠ "tuple" ∧ Q (.bl false) H) ∨ ∃ a xs, x = .ref a ∧ Tp H a xs ∧ xs.length ≤ 100 ∧ (∀ e ∈ xs, ∃ t, Oky H e t) ∧ ∀ H', Same H H' → Q (.bl (tupOk n xs)) H')
def spPsum : Sp := fun vs H Q _ => ∃ (a b : Addr) (xs ys : List Int), vs = [.ref a, .ref b] ∧ Row H a xs ∧ Row H b ys ∧ xs.length = ys.length ∧ ∀ H', Same H H' → Q (.int (dot xs ys)) H'
def spFval : Sp := fun vs H Q _ => ∃ (a b : Addr) (c : Int) (xs ys : List Int), vs = [.ref a, .ref b] ∧ Row H a (c :: xs) ∧ Row H b ys ∧ xs.length = ys.length ∧ ∀ H', Same H H' → Q (.int (c + dot xs ys)) H'
def spFsum : Sp := fun vs H Q _ => ∃ (a b : Addr) (xs ys : List Int), vs = [.ref a, .ref b] ∧ Row H a xs ∧ Row H b ys ∧ xs.length = ys.length ∧ ∀ r H', Same H H' → Tp H' r ((List.zipWith (· + ·) xs ys).map V.int) → Q (.ref r) H'
def spFtimes : Sp := fun vs H Q _ => ∃ (a : Addr) (n : Int) (xs : List Int), vs = [.ref a, .int n] ∧ Row H a xs ∧ SmZ 300 n ∧ ∀ r H', Same H H' → Tp H' r ((xs.map (n * ·)).map V.int) → Q (.ref r) H'
def spGcd : Sp := fun vs H Q _ => ∃ a c : Int, vs = [.int a, .int c] ∧ Q (.int (Int.gcd a c)) H
def sg (n : Int) : Int := (if 0 < n then 1 else 0) - (if n < 0 then 1 else 0)
def spSign : Sp := fun vs H Q _ => ∃ n : Int, vs = [.int n] ∧ Q (.int (sg n)) H
/-- a value of some kind, not the drawn dict -/
def Ky (m : Addr) (H : Hp) (x : V) : Prop := x ≠ .ref m ∧ ∃ t, Oky H x t
/-- a value that is judged -/
def Kn (m : Addr) (H : Hp) (x : V) : Prop := x ≠ .ref m ∧ ((∃ t, Oky H x t ∧ t ≠ "tuple") ∨ ∃ a xs, x = .ref a ∧ Tp H a xs ∧ xs.length ≤ 100 ∧ ∀ e ∈ xs, Ky m H e)
theorem Ky.but {m : Addr} {H H' : Hp} {x : V} (h : Ky m H x) (s : SameBut m H H') : Ky m H' x := by
  obtain ⟨n, t, h⟩ := h
  refine ⟨n, t, ?_⟩
  cases h with
  | non => exact .non
  | bl b => exact .bl b
  | int i => exact .int i
  | str x => exact .str x
  | lst e => exact .lst (s _ _ (fun z => n (by rw [z])) e)
  | tup e => exact .tup (s _ _ (fun z => n (by rw [z])) e)
  | dK e => exact .dK (s _ _ (fun z => n (by rw [z])) e)
theorem Kn.but {m : Addr} {H H' : Hp} {x : V} (h : Kn m H x) (s : SameBut m H H') : Kn m H' x := by
  obtain ⟨n, ⟨t, h, ht⟩ | ⟨a, xs, rfl, ha, hl, hes⟩⟩ := h
  · refine ⟨n, .inl ⟨t, ?_, ht⟩⟩
    cases h with
    | non => exact .non
    | bl b => exact .bl b
    | int i => exact .int i
    | str x => exact .str x
    | lst e => exact .lst (s _ _ (fun z => n (by rw [z])) e)
    | tup e => exact absurd rfl ht
    | dK e => exact .dK (s _ _ (fun z => n (by rw [z])) e)
  · exact ⟨n, .inr ⟨a, xs, rfl, s _ _ (fun z => n (by rw [z])) ha, hl, fun e he => (hes e he).but s⟩⟩
theorem Ky.int {m : Addr} {H : Hp} (i : Int) : Ky m H (.int i) := ⟨(fun z => by cases z), _, .int i⟩
theorem ky_row {m : Addr} {H : Hp} {xs : List Int} : ∀ e ∈ xs.map V.int, Ky m H e := fun e he => by
  obtain ⟨i, _, rfl⟩ := List.mem_map.mp he
  exact Ky.int i
theorem Kn.tp {m a : Addr} {H : Hp} {xs : List V} (hm : ∃ kvs, H m = some (.dK kvs)) (ha : Tp H a xs) (hl : xs.length ≤ 100) (h : ∀ e ∈ xs, Ky m H e) : Kn m H (.ref a) := by
  obtain ⟨kvs, hm⟩ := hm
  exact ⟨fun z => ne_of ha hm (by intro w; cases w) (V.ref.inj z), .inr ⟨a, xs, rfl, ha, hl, h⟩⟩
theorem Kn.lst {m a : Addr} {H : Hp} {xs : List V} (hm : ∃ kvs, H m = some (.dK kvs)) (ha : H a = some (.lst xs)) : Kn m H (.ref a) := by
  obtain ⟨kvs, hm⟩ := hm
  exact ⟨fun z => ne_of ha hm (by intro w; cases w) (V.ref.inj z), .inl ⟨_, .lst ha, by decide⟩⟩
theorem Ky.tp {m a : Addr} {H : Hp} {xs : List V} (hm : ∃ kvs, H m = some (.dK kvs)) (ha : Tp H a xs) : Ky m H (.ref a) := by
  obtain ⟨kvs, hm⟩ := hm
  exact ⟨fun z => ne_of ha hm (by intro w; cases w) (V.ref.inj z), _, .tup ha⟩
theorem Ky.lst {m a : Addr} {H : Hp} {xs : List V} (hm : ∃ kvs, H m = some (.dK kvs)) (ha : H a = some (.lst xs)) : Ky m H (.ref a) := by
  obtain ⟨kvs, hm⟩ := hm
  exact ⟨fun z => ne_of ha hm (by intro w; cases w) (V.ref.inj z), _, .lst ha⟩
theorem cut_mem {xs : List V} {lo hi : Option Int} {e : V} (h : e ∈ cutV xs lo hi) : e ∈ xs := by
  unfold cutV at h
  exact List.mem_of_mem_drop (List.mem_of_mem_take h)
theorem cut_len {xs : List V} {lo hi : Option Int} : (cutV xs lo hi).length ≤ xs.length := by
  unfold cutV
  rw [List.length_take, List.length_drop]
  omega
theorem sm_but {m : Addr} {H0 H H' : Hp} (nm : H0 m = none) (s : Same H0 H) (b : SameBut m H H') : Same H0 H' := fun a o e => b a o (ne_of_none e nm) (s a o e)
theorem sql_same {K : PySem.W.Frag} {H H' : Hp} {a : Addr} {xs : List V} (h : SqL K H a xs) (s : Same H H') : SqL K H' a xs := s.seq h
theorem nat_of {v : Int} (h : 0 ≤ v) : ∃ n : Nat, v = n := ⟨v.toNat, by omega⟩
/-- a comprehension of drawn numbers, w draws for each -/
theorem lc_dr {n w : Nat} {g : TG} {te : TE} {vs : List Nat} {σ : L2.St} {H1 : Hp} {D : Addr} {Qd : Hp → Prop} {m c : Addr} {q : Nat} (R : Nat → Int → Prop) (hz : n < sizeLine) (hM : MOk H1 m c q) (nD : H1 D = none)
    (hs : ∀ (i : Nat) (H : Hp) (Qy : VK), i < n → SameBut m H1 H → MOk H m c (q + w * i) → (∀ H4 v, SameBut m H H4 → MOk H4 m c (q + w * i + w) → R i v → Qy (.int v) H4) → g (.int (0 + i)) (wipe σ vs) H fun σ2 H2 => wipe σ2 vs = wipe σ vs ∧ te σ2 H2 Qy)
    (hd : ∀ H (xs : List Int), SameBut m H1 H → MOk H m c (q + w * n) → H D = some (.lst (xs.map V.int)) → xs.length = n → (∀ (i : Nat) (x : Int), xs[i]? = some x → R i x) → Qd H) :
    ∃ W : Nat → Nat → Hp → Prop, (∃ m, W 0 m (upd H1 D (.lst []))) ∧ ∀ i m H, W i m H →
      ((Itr 0 n).stop i H ∧ Qd H) ∨ ((Itr 0 n).go i H ∧ ∃ Nx : Hp → Prop, (∀ H', Nx H' → ∃ m', m' < m ∧ W (i + 1) m' H') ∧ ∀ x H', (Itr 0 n).yld i H x H' → g x (wipe σ vs) H' fun σ2 H2 => wipe σ2 vs = wipe σ vs ∧ tYes σ2 H2 fun b H3 =>
        if b = true then te σ2 H3 fun y H4 => ∃ acc, H4 D = some (.lst acc) ∧ acc.length < sizeLine ∧ Nx (upd H4 D (.lst (acc ++ [y]))) else Nx H3) := by
  obtain ⟨kvs, hm⟩ := hM.m_some
  obtain ⟨ys, hc⟩ := hM.c_some
  have dm : D ≠ m := Ne.symm (ne_of_none hm nD)
  have dc : D ≠ c := Ne.symm (ne_of_none hc nD)
  refine lc_it (walk_range (lo := 0) (n := n)) (tt := tYes) (fun i H => ∃ xs : List Int, SameBut m H1 H ∧ MOk H m c (q + w * i) ∧ H D = some (.lst (xs.map V.int)) ∧ xs.length = i ∧ ∀ (j : Nat) (x : Int), xs[j]? = some x → R j x) ⟨[], SameBut.of (same_new nD), hM.put dm dc, upd_same, rfl, fun j x hx => by cases hx⟩ (fun _ _ _ _ => True.intro) ?_ ?_
  · rintro i x H H' hi ⟨xs, sb, M, d, l, bd⟩ ⟨rfl, rfl⟩
    refine hs i H' (fun y H4 => ∃ acc, H4 D = some (.lst acc) ∧ acc.length < sizeLine ∧ ∃ xs : List Int, SameBut m H1 (upd H4 D (.lst (acc ++ [y]))) ∧ MOk (upd H4 D (.lst (acc ++ [y]))) m c (q + w * (i + 1)) ∧ upd H4 D (.lst (acc ++ [y])) D = some (.lst (xs.map V.int)) ∧ xs.length = i + 1 ∧ ∀ (j : Nat) (x : Int), xs[j]? = some x → R j x) hi sb M fun H4 v b4 M4 v0 => ?_
    refine ⟨xs.map V.int, b4 _ _ dm d, by rw [List.length_map]; omega, xs ++ [v], sb_put nD (sb.trans b4), (M4.put dm dc).mono (by rw [Nat.mul_succ]; omega), ?_, by rw [List.length_append, l]; rfl, fun j x hx => ?_⟩
    · rw [upd_same, List.map_append]
      rfl
    · by_cases hj : j < xs.length
      · rw [List.getElem?_append_left hj] at hx
        exact bd j x hx
      · have hj2 := (List.getElem?_eq_some_iff.mp hx).1
        rw [List.length_append] at hj2
        have hj3 : j = xs.length := by
          simp only [List.length_cons, List.length_nil] at hj2
          omega
        subst hj3
        rw [List.getElem?_append_right (Nat.le_refl _), Nat.sub_self] at hx
        obtain rfl := Option.some.inj hx
        rw [l]
        exact v0
  · rintro H ⟨xs, sb, M, d, l, bd⟩
    exact hd H xs sb M d l bd
/-- a comprehension with a test, over any walk: the values of the kept places -/
theorem lc_fl {J : It} {n : Nat} {G : Hp → Prop} {Y : Nat → Hp → V → Hp → Prop} (w : Walk J n G Y) {g : TG} {tt : TT} {te : TE} {vs : List Nat} {σ : L2.St} {H1 : Hp} {D : Addr} {Qd : Hp → Prop} (keep : Nat → Bool) (val : Nat → V) (hz : n < sizeLine) (nD : H1 D = none)
    (hG : ∀ H, Same H1 H → G H)
    (hs : ∀ (i : Nat) (x : V) (H H' : Hp) (Qy : VK) (Nx : Hp → Prop), i < n → Same H1 H → Y i H x H' → (keep i = true → ∀ H4, Same H H4 → Qy (val i) H4) → (keep i = false → ∀ H4, Same H H4 → Nx H4) → g x (wipe σ vs) H' fun σ2 H2 => wipe σ2 vs = wipe σ vs ∧ tt σ2 H2 fun b H3 => if b = true then te σ2 H3 Qy else Nx H3)
    (hd : ∀ H, Same H1 H → H D = some (.lst (((List.range n).filter keep).map val)) → Qd H) :
    ∃ W : Nat → Nat → Hp → Prop, (∃ m, W 0 m (upd H1 D (.lst []))) ∧ ∀ i m H, W i m H →
      (J.stop i H ∧ Qd H) ∨ (J.go i H ∧ ∃ Nx : Hp → Prop, (∀ H', Nx H' → ∃ m', m' < m ∧ W (i + 1) m' H') ∧ ∀ x H', J.yld i H x H' → g x (wipe σ vs) H' fun σ2 H2 => wipe σ2 vs = wipe σ vs ∧ tt σ2 H2 fun b H3 =>
        if b = true then te σ2 H3 fun y H4 => ∃ acc, H4 D = some (.lst acc) ∧ acc.length < sizeLine ∧ Nx (upd H4 D (.lst (acc ++ [y]))) else Nx H3) := by
  refine lc_it w (tt := tt) (fun i H => Same H1 H ∧ H D = some (.lst (((List.range i).filter keep).map val))) ⟨same_new nD, by rw [upd_same]; rfl⟩ (fun i H _ p => hG H p.1) ?_ ?_
  · rintro i x H H' hi ⟨s, d⟩ y
    refine hs i x H H' _ _ hi s y (fun hk H4 s4 => ?_) (fun hk H4 s4 => ?_)
    · refine ⟨_, s4 _ _ d, ?_, same_put (s.trans s4) nD, ?_⟩
      · rw [List.length_map]
        have := List.length_filter_le keep (List.range i)
        rw [List.length_range] at this
        omega
      · rw [upd_same, List.range_succ, List.filter_append, List.filter_cons_of_pos hk, List.filter_nil, List.map_append]
        rfl
    · refine ⟨s.trans s4, ?_⟩
      rw [s4 _ _ d, List.range_succ, List.filter_append, List.filter_cons_of_neg (by rw [hk]; decide), List.filter_nil, List.append_nil]
  · rintro H ⟨s, d⟩
    exact hd H s d
theorem lay_rows : ∀ rows : List (List Int), PyData.canLayAll0 (rows.map dRow) = true ∧ PyData.depthAll (rows.map dRow) ≤ 1
  | [] => ⟨by simp [PyData.canLayAll0], by simp [PyData.depthAll]⟩
  | r :: rs => by
    obtain ⟨h1, h2⟩ := lay_rows rs
    obtain ⟨h3, h4⟩ := lay_ints r
    refine ⟨by simp [PyData.canLayAll0, dRow, PyData.canLay0, h1, h3], ?_⟩
    simp only [List.map_cons, PyData.depthAll, dRow, PyData.depth, h4]
    omega
theorem shaped_rows (rows : List (List Int)) : SeqAt.shaped (.list (rows.map dRow)) = true ∧ SeqAt.shaped (.tuple (rows.map dRow)) = true := by
  obtain ⟨h1, h2⟩ := lay_rows rows
  constructor <;> simp [SeqAt.shaped, PyData.canLay0, PyData.depth, h1] <;> omega
theorem iteT' {c : Bool} {A B : Prop} (hc : c = true) (h : A) : if c = true then A else B := by
  subst hc
  exact iteT h
theorem all_of_get {xs : List Int} {R : Int → Prop} (h : ∀ (i : Nat) (x : Int), xs[i]? = some x → R x) : ∀ x ∈ xs, R x := fun x hx => by
  obtain ⟨i, hi⟩ := List.getElem?_of_mem hx
  exact h i x hi
end Vk
/-! An exception that is caught and kept in a local. -/
namespace Vk
open PySem PySem.Spec PyProof.Rows L2
/-- an exception of the class cls, own dict d, that was caught -/
def ExK (cls : Value) (d : Option Addr) (a : Addr) : HO := .ext fun h => ∃ oe : Obj, h.get? a = some oe ∧ Zc cls d oe ∧ ∃ vs, oe.data = .fields vs
section
variable {X : Cx} {pins : List (Addr × Obj)} {σ : L2.St} {H : Hp} {s : Shared}
/-- what is pinned is tracked from now on -/
theorem keep_pinned {a : Addr} {oe : Obj} {cls : Value} {d : Option Addr} (I : Inv X ((a, oe) :: pins) σ H s) (hz : Zc cls d oe) (hf : ∃ vs, oe.data = .fields vs) (n0 : X.s_0.heap.get? a = none) (np : ∀ p ∈ X.pn ++ pins, p.1 ≠ a) :
    Inv X pins σ (upd H a (ExK cls d a)) s := by
  obtain ⟨ga, na, nL, nF, nc⟩ := I.pin (a, oe) (List.mem_append_right _ List.mem_cons_self)
  have ga : s.heap.get? a = some oe := ga
  have na : H a = none := na
  have nC : ∀ x c, X.env.cells.lookup x = some c → c ≠ a := by
    rintro x c e rfl
    obtain ⟨v, o, ho, hd⟩ := I.cell x c e
    obtain rfl := Option.some.inj (ho.symm.trans ga)
    exact nc v hd
  have off : ∀ b, b ≠ a → upd H a (ExK cls d a) b = H b := fun b hb => upd_ne hb
  have some_ne : ∀ b u, H b = some u → b ≠ a := fun b u e z => by
    rw [z, na] at e
    cases e
  refine { ok := I.ok, os := I.os, bare := I.bare, base := ?_, loc := I.loc, cell := I.cell, free := ?_, freeC := ?_, pin := ?_, hok := ?_, len := I.len }
  · have old : ∀ b o, X.s_0.heap.get? b = some o → b ≠ a := fun b o e z => by
      rw [z, n0] at e
      cases e
    refine { keep := I.base.keep, slot := I.base.slot, free := ?_, there := I.base.there, tups := ?_, frzs := ?_, tbls := ?_ }
    · intro b o e n hx
      rw [off b (old b o e)]
      exact I.base.free b o e n hx
    · intro b xs e
      have q := I.base.tups b xs e
      rw [off b (some_ne b _ q)]
      exact q
    · intro b o u e
      have q := I.base.frzs b o u e
      rw [off b (some_ne b _ q)]
      exact q
    · intro b ps e
      obtain ⟨more, q⟩ := I.base.tbls b ps e
      refine ⟨more, ?_⟩
      rw [off b (some_ne b _ q)]
      exact q
  · rw [off _ (Ne.symm nL)]
    exact I.free
  · intro x c e
    rw [off c (nC x c e)]
    exact I.freeC x c e
  · intro p hp
    have hp' : p ∈ X.pn ++ (a, oe) :: pins := by
      rcases List.mem_append.mp hp with z | z
      · exact List.mem_append_left _ z
      · exact List.mem_append_right _ (List.mem_cons_of_mem _ z)
    obtain ⟨e1, e2, e3, e4, e5⟩ := I.pin p hp'
    refine ⟨e1, ?_, e3, e4, e5⟩
    rw [off p.1 (np p hp)]
    exact e2
  · intro b u e
    by_cases hb : b = a
    · subst hb
      rw [upd_same] at e
      obtain rfl := Option.some.inj e
      exact ⟨⟨oe, ga, hz, hf⟩, ⟨oe, ga⟩, fun h1 h2 ⟨o, q1, q2, q3⟩ st => ⟨o, st o q1, q2, q3⟩⟩
    · rw [off b hb] at e
      refine (I.hok b u e).stay (fun c v _ q => q) (fun c q => ?_) (fun c xs q => ?_)
      · rw [off c (some_ne c _ q)]
        exact q
      · rw [off c (some_ne c _ q)]
        exact q
end
/-- the wish of an except clause that keeps what it caught: the exception is known behind it -/
def wKp (K : PySem.W.Frag) (len : Nat) (c : Value) (i : Nat) (ts : Addr → Value → Option Addr → TS) (D : Ends) : WX := fun cls d σ H =>
  PySem.W.exmOne K cls c = some true ∧ (σ.length = len → ∀ a, H a = none →
    ts a cls d { nx := fun σ' H' => D.nx (σ'.set i none) (upd H' a (ExK cls d a)), rt := fun _ _ => False, bk := fun _ _ => False, ct := fun _ _ => False } (σ.set i (some (.ref a))) H)
section
variable {X : Cx} {x n : Str} {c : Value} {i : Nat} {body suite : List Stmt} {b₀ : Stmt} {np pos pos' : Pos} {tb : WX → TS} {ts : Addr → Value → Option Addr → TS}
/-- what is wanted of an exception of the body: the clauses look at it -/
def landing (X : Cx) (hs : List ExceptHandler) (R : Flow → Shared → Prop) : Value → Shared → Prop := fun e s0 =>
  wpAny (model X.prog X.w) X.A (noteFrame e X.env) (fun _ s1 => wpAny (model X.prog X.w) X.A (setFlight e none)
    (fun _ s2 => wpAny (model X.prog X.w) X.A (handleBy e X.env hs) R X.xe s2) X.xe s1) X.xe s0
/-- try: .. except x as n: suite (the suite runs through) -/
theorem ps_try_keep (hs : X.stack = X.env :: X.outer) (hf : X.env.frame = some X.env.locals) (hex : X.ex = []) (hN : X.N.Nodup) (hi : X.N[i]? = some n) (hln : X.env.kindOf n = some .local) (hc : Names X x c)
    (hb : ∀ (W : WX) (pn : List (Addr × Obj)) (xe : Value → Shared → Prop), Takes (X.tr pn xe) W → PassesOwn (model X.prog X.w) X.A X.env xe → PSs (X.tr pn xe) body (tb W))
    (hsu : ∀ (a : Addr) (oe : Obj) (cls : Value) (d : Option Addr) (pn : List (Addr × Obj)), Zc cls d oe → (∃ vs, oe.data = .fields vs) → PSs (X.suite a ((a, oe) :: pn)) (b₀ :: suite) (ts a cls d)) :
    PS X (.Try body [.ExceptHandler (some (.Name x np)) (some n) (b₀ :: suite) pos'] [] [] pos) (fun D σ H => tb (wKp X.K X.N.length c i ts D) D σ H) := by
  refine ⟨fun pins s σ H D I h => wpAny_Try_except ?_⟩
  have ok := I.ok
  have frm : X.A.frames = some (X.env :: X.outer) := by rw [ok.frames, hs]
  have run := (hb (wKp X.K X.N.length c i ts D) (X.pn ++ pins) (landing X [.ExceptHandler (some (.Name x np)) (some n) (b₀ :: suite) pos'] (SP X pins D)) (fun u s' xx => ?_) PassesOwn.looking).run [] s σ H D (I.toTry _) h
  · refine wpAny_mono run (fun fl s1 hsp => ?_) (fun e s1 he => he)
    match fl, hsp with
    | .next, ⟨σ', H', J, q⟩ => exact wpAny_execs_nil ⟨σ', H', J.ofTry ok, q⟩
    | .brk, ⟨σ', H', J, q⟩ => exact ⟨σ', H', J.ofTry ok, q⟩
    | .cont, ⟨σ', H', J, q⟩ => exact ⟨σ', H', J.ofTry ok, q⟩
    | .ret u, ⟨v, σ', H', J, r, q⟩ => exact ⟨v, σ', H', J.ofTry ok, r, q⟩
  · -- what was raised lands here
    obtain ⟨a, B, sI, pins', σ', H', cls, d, rfl, J', nb, up, sky, na, os, ag, hyes, hgo⟩ := xx
    have J : Inv X pins σ' H' sI := J'.ofTry ok
    have air : Sky B (X.env :: X.outer) a (Zc cls d) X.env.locals s'.heap := by
      rw [← hs]
      exact sky
    show wpAny (model X.prog X.w) X.A (noteFrame (.ref a) X.env) _ _ _
    refine Sky.land Zc.steady frm hf air fun h3 fl3 up3 => ?_
    have J3 : Inv X pins σ' H' { s' with heap := h3 } := J.landed nb fl3.1 (up.trans up3) os ag
    obtain ⟨oe3, vs3, he3, hz3, hd3⟩ := fl3.there
    have nB : B.get? a = none := fl3.2.1
    have nfr : a ∉ frs (X.env :: X.outer) := fun hm => by
      obtain ⟨_, o', e', hnf⟩ := fl3.2.2.1.mem hm
      obtain rfl := Option.some.inj (he3.symm.trans e')
      exact hnf _ hd3
    have nL : a ≠ X.env.locals := fun z => nfr (List.mem_filterMap.mpr ⟨X.env, List.mem_cons_self, by rw [hf, z]⟩)
    have nF : a ∉ X.fs := fun hm => by
      obtain ⟨e, he, q⟩ := List.mem_filterMap.mp hm
      exact nfr (List.mem_filterMap.mpr ⟨e, List.mem_cons_of_mem _ he, q⟩)
    have fresh : ∀ b o, sI.heap.get? b = some o → b ≠ a := by
      rintro b o e rfl
      have z := nb b o e (by rw [hs]; exact nfr)
      rw [nB] at z
      cases z
    have n0 : X.s_0.heap.get? a = none := by
      cases q : X.s_0.heap.get? a with
      | none => rfl
      | some o =>
        obtain ⟨o', z⟩ := J.base.there a o q (by rw [hex]; exact List.not_mem_nil)
        exact absurd rfl (fresh a o' z)
    have npp : ∀ p ∈ X.pn ++ pins, p.1 ≠ a := fun p hp => fresh p.1 p.2 (J.pin p hp).1
    have S3 := J3.suite he3 hd3 na nL nF
    refine wpAny_handleBy_cons (codeAny_handlers_test ?_) (by intro q; cases q)
    have seen : PySem.W.Looks (model X.prog X.w) h3 (typeOf (.ref a)) cls := fun A Q E s k q => wpAny_typeOf_ref (k _ _ he3) (by
      rw [hz3.1]
      exact q)
    have fits := PySem.W.exm_one (M := model X.prog X.w) J3.kIn seen hyes
    have look : ∀ {Q : Value → Shared → Prop} {E : Value → Shared → Prop}, Q c { s' with heap := h3 } → wpAny (model X.prog X.w) (X.A.mark (some (.ref a))) (eval (.Name x np) X.env) Q E { s' with heap := h3 } := by
      intro Q E q
      obtain ⟨hg, hdbg, hm | ⟨hm, hv, hnn⟩⟩ := hc
      · exact ld_glob (X := X.suite a ((a, oe3) :: (X.pn ++ pins))) S3 hg hm q hdbg
      · exact ld_blt (X := X.suite a ((a, oe3) :: (X.pn ++ pins))) S3 hg hm hv q hnn hdbg
    refine look (fits.here (codeAny_handlers_suite_as ?_))
    refine HandSPX.lands_againZ fl3 fun h4 fl4 up4 => ?_
    have J4 : Inv X pins σ' H' { s' with heap := h4 } := J.landed nb fl4.1 ((up.trans up3).trans up4) os ag
    obtain ⟨oe4, vs4, he4, hz4, hd4⟩ := fl4.there
    have S4 := J4.suite he4 hd4 na nL nF
    refine store_ok (X := X.suite a ((a, oe4) :: (X.pn ++ pins))) (v := .ref a) S4 hN hi (.inl hln) rfl (fun s5 S5 => ?_) (.inr hln)
    refine wpAny_mono ((hsu a oe4 cls d (X.pn ++ pins) hz4 ⟨_, hd4⟩).run [] s5 _ H' _ S5 (hgo J.len a na)) (fun fl s6 hsp => ?_) (fun _ _ z => False.elim z)
    match fl, hsp with
    | .brk, ⟨_, _, _, q⟩ => exact False.elim q
    | .cont, ⟨_, _, _, q⟩ => exact False.elim q
    | .ret u, ⟨_, _, _, _, _, q⟩ => exact False.elim q
    | .next, ⟨σ6, H6, S6, q6⟩ =>
      obtain ⟨g6, n6, _⟩ := S6.pin (a, oe4) (List.mem_append_left _ List.mem_cons_self)
      have J6 : Inv X ((a, oe4) :: pins) σ6 H6 s6 := (S6.unsuite ok).pins_of fun p hp => by
        rcases List.mem_cons.mp hp with e | hp
        · rw [e]
          exact ⟨g6, n6, nL, nF, fun v z => by
            have z' : oe4.data = .cell v := z
            rw [hd4] at z'
            cases z'⟩
        · exact (S6.unsuite ok).pin p (List.mem_append_right _ hp)
      exact gone_ok J6 hN hi hln fun s7 J7 => ⟨_, _, keep_pinned J7 hz4 ⟨_, hd4⟩ n0 npp, q6⟩
end
/-- isinstance(e, c), e such an exception -/
def rIsK (K : PySem.W.Frag) (D : Addr) : List V → Hp → VK → Prop := fun xs H Q => ∃ (a : Addr) (c : V) (cv : Value) (b : Bool), xs = [.ref a, c] ∧ H a = some (ExK (.ref D) none a) ∧ ClsV c cv ∧ PySem.W.kitOne K (.ref D) cv = some b ∧ Q (.bl b) H
theorem call_isK {X : Cx} {D : Addr} (C : ExcC X.K D) : CallR X (.builtin "isinstance") (rIsK X.K D) := by
  intro pins s σ H xs us Q I r h
  obtain ⟨a, c, cv, b, rfl, ha, hcv, e, q⟩ := h
  obtain ⟨u1, u2, rfl, r1, r2⟩ := vals2 r
  obtain rfl : u1 = Value.ref a := r1
  obtain rfl := hcv.eq r2
  obtain ⟨⟨oe, g, hz, vs, hv⟩, _, _⟩ := I.hok a _ ha
  have J : PySem.W.InstAt s.heap a oe D none := by
    obtain ⟨oc, od, oda, osl⟩ := oe
    obtain ⟨h1, h2⟩ := hz
    dsimp only at h1 h2 hv
    subst h1 h2 hv
    exact ⟨g, rfl, rfl, trivial⟩
  exact PySem.W.kia_one (PySem.W.handS_kitx_exc C.hg C.hk C.hs C.hd C.ha C.hn C.ht C.hm) I.kIn J e (fun z => nomatch z) fun tk => ⟨.bl b, H, I.kept (t' := tk) fun _ _ z => z, rfl, q⟩
end Vk
/-! A kept exception with fields of its own. -/
namespace Vk
open PySem PySem.Spec PyProof.Rows L2
/-- a kept exception of the class C with these fields -/
def KxF (H : Hp) (a C : Addr) (fs : List (Str × V)) : Prop := ∃ dd, H a = some (ExK (.ref C) (some dd) a) ∧ H dd = some (.xd fs)
theorem KxF.same {H H' : Hp} {a C : Addr} {fs : List (Str × V)} (k : KxF H a C fs) (s : Same H H') : KxF H' a C fs := by
  obtain ⟨dd, h1, h2⟩ := k
  exact ⟨dd, s _ _ h1, s _ _ h2⟩
theorem KxF.inst {X : Cx} {pins : List (Addr × Obj)} {σ : L2.St} {H : Hp} {s : Shared} {a C : Addr} {fs : List (Str × V)} (I : Inv X pins σ H s) (k : KxF H a C fs) : ∃ (oe od : Obj) (mA : Str → Option Value), PySem.W.InstAt s.heap a oe C (some od) ∧ (∀ f, PySem.W.lookIn f od = some (mA f)) ∧ ∀ f, RelO (fs.lookup f) (mA f) := by
  obtain ⟨dd, h1, h2⟩ := k
  obtain ⟨⟨oe, g, hz, vs, hd⟩, _, _⟩ := I.hok a _ h1
  obtain ⟨mA, hns, hr⟩ := (show ObjOk X.prog X.w H s.heap dd (.xd fs) from I.hok dd _ h2)
  obtain ⟨od, ho, hl⟩ := lookIn_ns hns
  exact ⟨oe, od, mA, ⟨g, hz.1, by unfold PySem.W.notCls; rw [hd] <;> rfl, by rw [hz.2]; exact ho⟩, hl, hr⟩
/-- isinstance(e, c) -/
def rIsF (K : PySem.W.Frag) (C : Addr) : List V → Hp → VK → Prop := fun xs H Q => ∃ (a : Addr) (fs : List (Str × V)) (c : V) (cv : Value) (b : Bool), xs = [.ref a, c] ∧ KxF H a C fs ∧ ClsV c cv ∧ PySem.W.kitOne K (.ref C) cv = some b ∧ Q (.bl b) H
theorem call_isF {X : Cx} {C : Addr} (E : ExcC X.K C) : CallR X (.builtin "isinstance") (rIsF X.K C) := by
  intro pins s σ H xs us Q I r h
  obtain ⟨a, fs, c, cv, b, rfl, k, hcv, e, q⟩ := h
  obtain ⟨u1, u2, rfl, r1, r2⟩ := vals2 r
  obtain rfl : u1 = Value.ref a := r1
  obtain rfl := hcv.eq r2
  obtain ⟨oe, od, mA, J, _, _⟩ := k.inst I
  have hcl : (PySem.W.clsIn X.K C).isSome = true := by
    obtain ⟨cd, hc, _⟩ := PySem.W.any_some E.hd
    rw [hc]
    rfl
  exact PySem.W.kia_one (PySem.W.kitx_exc (od := some od) hcl E.hg E.hk E.hs E.ha E.hn E.ht E.hm) I.kIn J e (fun z => nomatch z) fun tk => ⟨.bl b, H, I.kept (t' := tk) fun _ _ z => z, rfl, q⟩
/-- e.f -/
def tKf (C : Addr) (f : Str) (te : TE) : TE := fun σ H Q => te σ H fun x H1 => ∃ (a : Addr) (fs : List (Str × V)) (v : V), x = .ref a ∧ KxF H1 a C fs ∧ fs.lookup f = some v ∧ Q v H1
theorem pe_kf {X : Cx} {C : Addr} {e : Expr} {te : TE} {pos : Pos} {n : Str} (T : XfC X.K C) (hno : PySem.W.findIn X.K (.ref C) n = some none) (he : PE X e te) (hb : attributeBase e n X.env (eval e X.env) = eval e X.env := by rfl) :
    PE X (.Attribute e n pos) (tKf C n te) := by
  refine ⟨fun pins s σ H Q I h => attr_of hb (thn (he.run pins s σ H _ I h) fun u s1 hh => ?_)⟩
  obtain ⟨x, H1, I1, rx, a, fs, v, rfl, k, l, q⟩ := hh
  obtain rfl : u = Value.ref a := rx
  obtain ⟨oe, od, mA, J, hl, hr⟩ := k.inst I1
  obtain ⟨u, hu, ru⟩ := RelO.some_of (v := v) (o := mA n) (by rw [← l]; exact hr n)
  exact HandSPX.exc_get I1.kIn J T.ga T.gg T.exC (PySem.W.findObj_own T.hdC hno rfl (by rw [hl, hu])) (handed_of ru) ⟨v, H1, I1.tok _, ru, q⟩
end Vk
namespace K16
open PySem PySem.Spec PyProof.Rows L2 Vk
def topS (i : Nat) : Stmt := PySem.Challenge.pw_pointtally_k16_whole_near_rows.main.body.getD i (.Pass ⟨0, 0, 0, 0⟩)
abbrev s_draw : Stmt := topS 24
theorem sc_draw : FnScope ["m", "bound", "found", "spot", "cells", "extra", "cell", "blend"] ["m", "bound"] (defScope s_draw) := ⟨rfl, rfl, rfl, by decide +kernel, rfl, by decide +kernel, by decide +kernel⟩
abbrev s_begun : Stmt := topS 23
theorem sc_begun : FnScope ["script", "k_so", "cells", "cell", "great", "seed"] ["script", "k_so"] (defScope s_begun) := ⟨rfl, rfl, rfl, by decide +kernel, rfl, by decide +kernel, by decide +kernel⟩
abbrev s_of : Stmt := topS 25
theorem sc_of : FnScope ["m", "some"] ["m", "some"] (defScope s_of) := ⟨rfl, rfl, rfl, by decide +kernel, rfl, by decide +kernel, by decide +kernel⟩
abbrev s_like : Stmt := topS 26
theorem sc_like : FnScope ["got", "due"] ["got", "due"] (defScope s_like) := ⟨rfl, rfl, rfl, by decide +kernel, rfl, by decide +kernel, by decide +kernel⟩
abbrev s_signed : Stmt := topS 29
theorem sc_signed : FnScope ["m", "most", "number"] ["m", "most"] (defScope s_signed) := ⟨rfl, rfl, rfl, by decide +kernel, rfl, by decide +kernel, by decide +kernel⟩
abbrev s_psum : Stmt := topS 7
theorem sc_psum : FnScope ["one", "other", "a", "b"] ["one", "other"] (defScope s_psum) := ⟨rfl, rfl, rfl, by decide +kernel, rfl, by decide +kernel, by decide +kernel⟩
abbrev s_isn : Stmt := topS 5
theorem sc_isn : FnScope ["value"] ["value"] (defScope s_isn) := ⟨rfl, rfl, rfl, by decide +kernel, rfl, by decide +kernel, by decide +kernel⟩
abbrev s_aren : Stmt := topS 6
theorem sc_aren : FnScope ["value", "count", "entry"] ["value", "count"] (defScope s_aren) := ⟨rfl, rfl, rfl, by decide +kernel, rfl, by decide +kernel, by decide +kernel⟩
section
variable {P : Program} {w : World} {K : PySem.W.Frag} {mg : Str → Option Value} {base : Heap}
theorem ok_draw {f : Addr} {fd : FuncData} (F : Fun K "_law_draw" "_law_draw" s_draw f fd) (m_int : mg "int" = none) (m_len : mg "len" = none) : FnOk P w K mg base CX0 1 f fd ["m", "bound"] spDraw := by
  have sc := sc_draw
  refine F.ok sc (fun vs H Q E h => ?_) (fun cdv A outer s H vs Q E hr h => ?_)
  · obtain ⟨m, c, n, b, rfl, _⟩ := h
    rfl
  · obtain ⟨m, c, n, b, rfl, hM, hn, hb0, hb1, q⟩ := h
    refine ⟨_, (pss_cons (ps_if (pt_cmpR op_gt (pe_dget (hu_of hr) (pv 0) pe_str (fun _ _ => rfl)) pe_int (nomark _))
      (pss_cons (ps_set (i := 2) sc.nd rfl (Or.inl rfl) (pe_op op_modN (pe_callTy call_int1 (by rfl) m_int (by decide +kernel) (pa_cons (pe_dget (hu_of hr) (pv 0) pe_str (fun _ _ => rfl)) pa_nil)) (pv 1)))
    (pss_cons (ps_dput (hu_of hr) (pv 0) pe_str (pe_op op_fdivX (pe_dget (hu_of hr) (pv 0) pe_str (fun _ _ => rfl)) (pv 1)) rfl)
    (pss_one (ps_ret (pv 2)))))
      pss_nil)
    (pss_cons (ps_set (i := 3) sc.nd rfl (Or.inl rfl) (pe_dget (hu_of hr) (pv 0) pe_str (fun _ _ => rfl)))
    (pss_cons (ps_dput (hu_of hr) (pv 0) pe_str (pe_op op_add (pv 3) pe_int) rfl)
    (pss_cons (ps_par (i := 4) (j := 5) (by rfl) sc.nd rfl rfl (by decide) rfl rfl (pa_cons (pe_dget (hu_of hr) (pv 0) pe_str (fun _ _ => rfl)) (pa_cons (pe_op op_add (pe_dget (hu_of hr) (pv 0) pe_str (fun _ _ => rfl)) (pe_op op_mul (pe_op op_mul pe_int (pv 3)) (pv 3))) pa_nil)) (by rfl))
    (pss_cons (ps_set (i := 6) sc.nd rfl (Or.inl rfl) (pe_ix ix_list (pv 4) (pe_op op_modN (pe_callTy call_int1 (by rfl) m_int (by decide +kernel) (pa_cons (pv 3) pa_nil)) (pe_callB call_len_seq (by rfl) m_len (by decide +kernel) (pa_cons (pv 4) pa_nil))) (fun _ _ => rfl)))
    (pss_cons (ps_set (i := 7) sc.nd rfl (Or.inl rfl) (pe_op op_modN (pe_callTy call_int1 (by rfl) m_int (by decide +kernel) (pa_cons (pe_op op_add (pe_op op_mul (pv 6) (pe_op op_add (pe_op op_mul pe_int (pv 3)) pe_int)) (pv 5)) pa_nil)) pe_int))
    (pss_cons (ps_set (i := 7) sc.nd rfl (Or.inl rfl) (pe_op op_modN (pe_callTy call_int1 (by rfl) m_int (by decide +kernel) (pa_cons (pe_op op_add (pe_op op_add (pe_op op_mul (pv 7) (pv 7)) (pe_op op_mul pe_int (pv 3))) (pe_dget (hu_of hr) (pv 0) pe_str (fun _ _ => rfl))) pa_nil)) pe_int))
    (pss_one (ps_ret (pe_op op_modN (pe_op op_fdivN (pe_op op_modN (pe_callTy call_int1 (by rfl) m_int (by decide +kernel) (pa_cons (pe_op op_add (pe_op op_mul (pv 7) pe_int) (pv 3)) pa_nil)) pe_int) pe_int) (pv 1))))))))))), ?_⟩
    obtain ⟨L, sd, sp, cells, h1, h2, h3, h4, h5⟩ := hM
    have ncm : c ≠ m := ne_of h2 h1 (by intro z; cases z)
    refine ⟨.ref m, rfl, m, .int L, rfl, get_m h1 val_left, L, 0, rfl, rfl, _, rfl, ite2 (fun hL => ?_) (fun hL => ?_)⟩
    · -- the first way
      refine ⟨.ref m, rfl, m, .int L, rfl, get_m h1 val_left, .inl ⟨L, rfl, .int b, rfl, L, b, rfl, rfl, by omega, ?_⟩⟩
      refine ⟨.ref m, rfl, m, .int L, rfl, get_m h1 val_left, .int b, rfl, L, b, rfl, rfl, ⟨by omega, Nat.lt_trans (PySem.Flt.log2_lt_of (by decide) hb1) (by decide)⟩, .ref m, rfl, m, _, rfl, put_m h1 put_left, ?_⟩
      refine ⟨.int (L.fmod b), rfl, q _ _ but_put ⟨_, sd, sp, cells, upd_same, ?_, h3, h4, by omega⟩ (Int.fmod_nonneg_of_pos _ hb0) (Int.fmod_lt_of_pos _ hb0)⟩
      rw [upd_ne ncm]
      exact h2
    · -- the second way
      refine ⟨.ref m, rfl, m, .int sp, rfl, get_m h1 val_spot, ?_⟩
      refine ⟨.int sp, rfl, sp, 1, rfl, rfl, .ref m, rfl, m, _, rfl, put_m h1 put_spot, ?_⟩
      have g1 : (upd H m (.dK (mkv L sd c (sp + 1)))) m = some (.dK (mkv L sd c (sp + 1))) := upd_same
      have g2 : (upd H m (.dK (mkv L sd c (sp + 1)))) c = some (.lst (cells.map V.int)) := by
        rw [upd_ne ncm]
        exact h2
      refine ⟨.ref m, rfl, m, .ref c, rfl, get_m g1 val_cells, .ref m, rfl, m, .int sd, rfl, get_m g1 val_seed, .int sp, rfl, 40503, sp, rfl, rfl, .inl ⟨by decide, by decide⟩, .int sp, rfl, 40503 * sp, sp, rfl, rfl, .inr ⟨by omega, by omega⟩, sd, 40503 * sp * sp, rfl, rfl, .ref c, .int (sd + 40503 * sp * sp), rfl, ?_⟩
      have hj : (sp.toNat % cells.length) < cells.length := Nat.mod_lt _ h3
      have e1 : Int.fmod sp ((cells.map V.int).length : Int) = ((sp.toNat % cells.length : Nat) : Int) := by
        rw [List.length_map, Int.fmod_eq_emod_of_nonneg _ (by omega), Int.natCast_emod, Int.toNat_of_nonneg h4]
      have e2 : (cells.map V.int)[sp.toNat % cells.length]? = some (.int cells[sp.toNat % cells.length]) := by
        rw [List.getElem?_map, List.getElem?_eq_getElem hj]
        rfl
      refine ⟨.ref c, rfl, .int sp, rfl, .inl ⟨sp, rfl, .ref c, rfl, c, _, rfl, .inl (SqL.of g2), sp, _, rfl, rfl, ?_, c, _, _, .int cells[sp.toNat % cells.length], rfl, rfl, SqL.of g2, ?_, ?_⟩⟩
      · rw [List.length_map]
        omega
      · rw [e1]
        exact atI_nat e2
      refine ⟨_, rfl, .int sp, rfl, 2, sp, rfl, rfl, .inl ⟨by decide, by decide⟩, 2 * sp, 3, rfl, rfl, _, 2 * sp + 3, rfl, rfl, .inr ⟨by omega, by omega⟩, _, rfl, _, _, rfl, rfl, .inl ⟨_, rfl, _, 2147483647, rfl, rfl, (by show (2147483647 : Int) ≠ 0; decide), ?_⟩⟩
      dsimp only
      generalize hB : Int.fmod (cells[sp.toNat % cells.length] * (2 * sp + 3) + (sd + 40503 * sp * sp)) 2147483647 = B
      have b0 : 0 ≤ B := by
        rw [← hB]
        exact Int.fmod_nonneg_of_pos _ (by decide)
      have b1 : B < 2147483647 := by
        rw [← hB]
        exact Int.fmod_lt_of_pos _ (by decide)
      refine ⟨.int B, rfl, .int B, rfl, B, B, rfl, rfl, .inl ⟨by omega, by omega⟩, .int sp, rfl, 69621, sp, rfl, rfl, .inl ⟨by decide, by decide⟩, B * B, 69621 * sp, rfl, rfl, .ref m, rfl, m, .int sd, rfl, get_m g1 val_seed, _, sd, rfl, rfl, .inl ⟨_, rfl, _, 2147483629, rfl, rfl, (by show (2147483629 : Int) ≠ 0; decide), ?_⟩⟩
      dsimp only
      generalize hB2 : Int.fmod (B * B + 69621 * sp + sd) 2147483629 = B2
      have c0 : 0 ≤ B2 := by
        rw [← hB2]
        exact Int.fmod_nonneg_of_pos _ (by decide)
      have c1 : B2 < 2147483629 := by
        rw [← hB2]
        exact Int.fmod_lt_of_pos _ (by decide)
      refine ⟨.int B2, rfl, B2, 48271, rfl, rfl, .inl ⟨by omega, by omega⟩, .int sp, rfl, _, sp, rfl, rfl, .inl ⟨_, rfl, _, 2147483647, rfl, rfl, (by show (2147483647 : Int) ≠ 0; decide), _, 11, rfl, rfl, (by show (11 : Int) ≠ 0 ∧ (11 : Int).natAbs < 1073741824; decide), .int b, rfl, _, b, rfl, rfl, by omega, ?_⟩⟩
      exact q _ _ but_put ⟨L, sd, sp + 1, cells, g1, g2, h3, by omega, by omega⟩ (Int.fmod_nonneg_of_pos _ hb0) (Int.fmod_lt_of_pos _ hb0)
theorem ok_begun {f : Addr} {fd : FuncData} (F : Fun K "_law_begun" "_law_begun" s_begun f fd) (m_int : mg "int" = none) : FnOk P w K mg base CX0 1 f fd ["script", "k_so"] (spBegun K) := by
  have sc := sc_begun
  refine F.ok sc (fun vs H Q E h => ?_) (fun cdv A outer s H vs Q E hr h => ?_)
  · obtain ⟨a, k, ns, rfl, _⟩ := h
    rfl
  · obtain ⟨a, k, ns, rfl, hS, hl, hk0, hk1, q⟩ := h
    refine ⟨_, (pss_cons (ps_set (i := 2) sc.nd rfl (Or.inl rfl) (pe_op op_cat (pe_slice sl_list (pv 0) (po_some (pv 1)) po_none) (pe_slice sl_list (pv 0) po_none (po_some (pv 1)))))
    (pss_cons (ps_setLc (i := 4) (own := [("cell", 3)]) (g := gName 3) (by rfl) sc.nd rfl rfl (sw_true rfl rfl rfl (by decide +kernel)) (pi_list (pv 2)) (blkOk_by (own := [("cell", 3)]) (N := ["script", "k_so", "cells", "cell", "great", "seed"]) (sc := defScope s_begun) (by decide +kernel)) (fun _ _ _ _ _ => pg_name (i := 3) sc.nd rfl (Or.inl rfl)) (fun _ _ _ _ _ => (pts_one (pt_cmpR op_ge (pv 3) (pe_op op_pow pe_int pe_int) (nomark _)))) (fun _ _ _ _ _ => (pv 3)))
    (pss_cons (ps_set (i := 5) sc.nd rfl (Or.inl rfl) (pe_op op_add pe_int (pv 1)))
    (pss_cons (ps_for PassesOwn.never rfl (pi_list (pv 2)) (pg_name (i := 3) sc.nd rfl (Or.inl rfl))
      (pss_one (ps_set (i := 5) sc.nd rfl (Or.inl rfl) (pe_op op_modN (pe_callTy call_int1 (by rfl) m_int (by decide +kernel) (pa_cons (pe_op op_add (pe_op op_mul (pv 5) pe_int) (pv 3)) pa_nil)) pe_int))))
    (pss_one (ps_ret (pe_disp (pps_cons pe_str (pe_ifExp (pt_cmpR (op_neD hr.units) (pv 4) (pe_lst pa_nil) (nomark _)) (pe_ix ix_list (pv 4) pe_int (fun _ _ => rfl)) pe_int) (pps_cons pe_str (pv 5) (pps_cons pe_str (pe_op op_cat (pv 2) (pe_lst (pa_cons (pe_op op_add (pe_op op_mul pe_int (pv 1)) pe_int) pa_nil))) (pps_cons pe_str pe_int pps_nil)))) (by rfl) (by rfl) (fun z => by cases z) (by decide)))))))), ?_⟩
    obtain ⟨l1, e1, b1⟩ := cut_ints ns (some k) none
    obtain ⟨l2, e2, b2⟩ := cut_ints ns none (some k)
    refine ⟨.ref a, rfl, .int k, rfl, k, rfl, a, _, rfl, hS, fun p1 n1 => ?_⟩
    rw [e1]
    have s1 : Same H (upd H p1 (.lst (l1.map V.int))) := same_new n1
    refine ⟨.ref a, rfl, .int k, rfl, k, rfl, a, _, rfl, s1.seq hS, fun p2 n2 => ?_⟩
    rw [e2]
    have n12 : p1 ≠ p2 := fun z => by
      rw [← z, upd_same] at n2
      cases n2
    have h2 : H p2 = none := s1.free n2
    refine ⟨p1, p2, l1.map V.int, l2.map V.int, rfl, rfl, ?_, upd_same, ?_, fun p np => ?_⟩
    · rw [upd_ne n12, upd_same]
    · rw [List.length_map, List.length_map]
      exact Nat.le_of_lt (small1000 (by omega))
    rw [← List.map_append]
    have s2 : Same H (upd (upd H p1 (.lst (l1.map V.int))) p2 (.lst (l2.map V.int))) := same_put s1 h2
    have hp : H p = none := s2.free np
    have s3 := same_put (o := .lst ((l1 ++ l2).map V.int)) s2 hp
    have hH3 : upd (upd (upd H p1 (.lst (l1.map V.int))) p2 (.lst (l2.map V.int))) p (.lst ((l1 ++ l2).map V.int)) p = some (.lst ((l1 ++ l2).map V.int)) := upd_same
    generalize upd (upd (upd H p1 (.lst (l1.map V.int))) p2 (.lst (l2.map V.int))) p (.lst ((l1 ++ l2).map V.int)) = H3 at s3 hH3 ⊢
    have g3 : H3 p = some (.lst ((l1 ++ l2).map V.int)) := hH3
    generalize hcs : l1 ++ l2 = cs at g3
    have bcs : cs.length ≤ 126 := by
      rw [← hcs, List.length_append]
      omega
    refine ⟨.ref p, rfl, p, rfl, ⟨_, SqL.of g3⟩, fun D nD => ?_⟩
    have hD : H D = none := s3.free nD
    have nDp : p ≠ D := ne_of_none g3 nD
    refine lc_list (K := K) (a := p) (xs := cs.map V.int) (fun i H' => ∃ acc : List Int, H' = upd H3 D (.lst (acc.map V.int)) ∧ acc.length ≤ i) ⟨[], rfl, Nat.le_refl _⟩ ?_ ?_ ?_
    · rintro i H' _ ⟨acc, rfl, _⟩
      refine SqL.of ?_
      rw [upd_ne nDp]
      exact g3
    · rintro i x H' hx ⟨acc, rfl, hacc⟩
      obtain ⟨z, hz, rfl⟩ : ∃ z, cs[i]? = some z ∧ x = V.int z := by
        rw [List.getElem?_map] at hx
        cases hc : cs[i]? with
        | none => rw [hc] at hx; cases hx
        | some z => rw [hc] at hx; exact ⟨z, rfl, (Option.some.inj hx).symm⟩
      have hi : i < cs.length := (List.getElem?_eq_some_iff.mp hz).1
      refine ⟨rfl, .int z, rfl, 10, 18, rfl, rfl, ⟨by decide, by decide, by decide⟩, z, _, rfl, rfl, _, rfl, ite2 (fun h => ?_) (fun h => ?_)⟩
      · refine ⟨.int z, rfl, _, upd_same, ?_, acc ++ [z], ?_, ?_⟩
        · rw [List.length_map]
          exact small1000 (by omega)
        · rw [upd_upd, List.map_append]
          rfl
        · rw [List.length_append]
          show acc.length + 1 ≤ i + 1
          omega
      · exact ⟨acc, rfl, by omega⟩
    rintro H' ⟨acc, rfl, hacc⟩
    have s4 : Same H (upd H3 D (.lst (acc.map V.int))) := same_put s3 hD
    have g4 : upd H3 D (.lst (acc.map V.int)) p = some (.lst (cs.map V.int)) := by
      rw [upd_ne nDp]
      exact g3
    have d4 : upd H3 D (.lst (acc.map V.int)) D = some (.lst (acc.map V.int)) := upd_same
    generalize upd H3 D (.lst (acc.map V.int)) = H4 at s4 g4 d4
    refine ⟨.int k, rfl, 71, k, rfl, rfl, .ref p, rfl, p, rfl, ⟨_, SqL.of g4⟩, ?_⟩
    refine for_list (K := K) (a := p) (xs := cs.map V.int) (fun i σ H' => ∃ (sd : Int) (y : Option V), σ = [some (.ref a), some (.int k), some (.ref p), y, some (.ref D), some (.int sd)] ∧ H' = H4 ∧ 0 ≤ sd ∧ sd < 2147483648) ⟨71 + k, none, rfl, rfl, by omega, by omega⟩ ?_ ?_ ?_
    · rintro i σ H' _ ⟨sd, y, rfl, rfl, _⟩
      exact SqL.of g4
    · rintro i x σ H' hx ⟨sd, y, rfl, rfl, h0, h1⟩
      obtain ⟨z, hz, rfl⟩ : ∃ z, cs[i]? = some z ∧ x = V.int z := by
        rw [List.getElem?_map] at hx
        cases hc : cs[i]? with
        | none => rw [hc] at hx; cases hx
        | some z => rw [hc] at hx; exact ⟨z, rfl, (Option.some.inj hx).symm⟩
      refine ⟨.int sd, rfl, sd, 48271, rfl, rfl, .inl ⟨by omega, by omega⟩, .int z, rfl, _, z, rfl, rfl, .inl ⟨_, rfl, _, 2147483647, rfl, rfl, (by show (2147483647 : Int) ≠ 0; decide), ?_⟩⟩
      have q1 := Int.fmod_lt_of_pos (sd * 48271 + z) (show (0 : Int) < 2147483647 by decide)
      exact ⟨_, _, rfl, rfl, Int.fmod_nonneg_of_pos _ (by decide), by omega⟩
    rintro σ H' ⟨sd, y, rfl, rfl, h0, h1⟩
    intro r nr
    have hr0 : H r = none := s4.free nr
    have s5 : Same H (upd H' r (.dK [])) := same_put s4 hr0
    have prn : p ≠ r := ne_of_none g4 nr
    have drn : D ≠ r := ne_of_none d4 nr
    have g5 : upd H' r (.dK []) p = some (.lst (cs.map V.int)) := by
      rw [upd_ne prn]
      exact g4
    have d5 : upd H' r (.dK []) D = some (.lst (acc.map V.int)) := by
      rw [upd_ne drn]
      exact d4
    have r5 : upd H' r (.dK []) r = some (.dK []) := upd_same
    generalize upd H' r (.dK []) = H5 at s5 g5 d5 r5 ⊢
    refine ⟨.ref D, rfl, Nat.zero_le _, fun e0 ne0 => ?_⟩
    have p0 : p ≠ e0 := ne_of_none g5 ne0
    have d0 : D ≠ e0 := ne_of_none d5 ne0
    have r0 : r ≠ e0 := ne_of_none r5 ne0
    have s6 : Same H (upd H5 e0 (.lst [])) := same_put s5 (s5.free ne0)
    have g6 : upd H5 e0 (.lst []) p = some (.lst (cs.map V.int)) := by
      rw [upd_ne p0]
      exact g5
    have d6 : upd H5 e0 (.lst []) D = some (.lst (acc.map V.int)) := by
      rw [upd_ne d0]
      exact d5
    have r6 : upd H5 e0 (.lst []) r = some (.dK []) := by
      rw [upd_ne r0]
      exact r5
    have l6 : upd H5 e0 (.lst []) e0 = some (.lst ([] : List V)) := upd_same
    generalize upd H5 e0 (.lst []) = H6 at s6 g6 d6 r6 l6 ⊢
    refine ⟨.list (acc.map PyData.int), .list [], .lst (SqL.of d6) (dp_ints acc), .lst (SqL.of l6) .nil, shaped_ints acc, shaped_ints [], _, rfl, ?_⟩
    refine tif_both (fun v => ∃ L : Int, v = .int L) ?_ ?_ ?_
    · rintro _ ⟨L, rfl⟩
      refine ⟨.int sd, rfl, .ref p, rfl, .int k, rfl, 53, k, rfl, rfl, .inl ⟨by decide, by decide⟩, _, 11, rfl, rfl, (by show 1 ≤ sizeLine; decide), fun e1 ne1 => ?_⟩
      have p1' : p ≠ e1 := ne_of_none g6 ne1
      have r1' : r ≠ e1 := ne_of_none r6 ne1
      have s7 : Same H (upd H6 e1 (.lst [.int (53 * k + 11)])) := same_put s6 (s6.free ne1)
      refine ⟨p, e1, cs.map V.int, [.int (53 * k + 11)], rfl, rfl, ?_, upd_same, ?_, fun c nc => ?_⟩
      · rw [upd_ne p1']
        exact g6
      · rw [List.length_map]
        exact Nat.le_of_lt (small1000 (show cs.length + 1 ≤ 1000 by omega))
      have r7 : upd H6 e1 (.lst [.int (53 * k + 11)]) r = some (.dK []) := by
        rw [upd_ne r1']
        exact r6
      have rc : r ≠ c := ne_of_none r7 nc
      have s8 := same_put (o := .lst (cs.map V.int ++ [.int (53 * k + 11)])) s7 (s7.free nc)
      refine ⟨?_, mkv L sd c 0, rfl, (by show 4 ≤ 15; decide), ?_⟩
      · rw [upd_ne rc]
        exact r7
      refine q _ _ _ (same_put s8 hr0) hr0 ⟨L, sd, 0, cs ++ [53 * k + 11], upd_same, ?_, ?_, by omega, by omega⟩
      · rw [upd_ne (Ne.symm rc), upd_same, List.map_append]
        rfl
      · rw [List.length_append]
        exact Nat.succ_pos _
    · intro hc hQ
      cases acc with
      | nil => exact absurd hc (by decide)
      | cons z zs => exact ⟨.ref D, rfl, D, _, 0, .int z, rfl, rfl, SqL.of d6, atI_nat (j := 0) rfl, hQ _ ⟨z, rfl⟩⟩
    · intro hc hQ
      exact hQ _ ⟨0, rfl⟩
theorem ok_of {f : Addr} {fd : FuncData} (F : Fun K "_law_of" "_law_of" s_of f fd) (C__law_draw : Cal P w K mg base 1 "_law_draw" ["m", "bound"] spDraw) (m_len : mg "len" = none) : FnOk P w K mg base CX0 2 f fd ["m", "some"] spOf := by
  have sc := sc_of
  refine F.ok sc (fun vs H Q E h => ?_) (fun cdv A outer s H vs Q E hr h => ?_)
  · obtain ⟨m, c, L, n, xs, rfl, _⟩ := h
    rfl
  · obtain ⟨m, c, L, n, xs, rfl, hM, hn, hL, h0, h1, q⟩ := h
    refine ⟨_, (pss_one (ps_ret (pe_ix ix_list (pv 1) (call_ C__law_draw (hr.mono (by decide)) (by rfl) (pa_cons (pv 0) (pa_cons (pe_callB call_len_seq (by rfl) m_len (by decide +kernel) (pa_cons (pv 1) pa_nil)) pa_nil))) (fun _ _ => rfl)))), ?_⟩
    have hLm : L ≠ m := by
      obtain ⟨_, _, _, _, h2, _⟩ := hM
      exact ne_of hL h2 (by intro z; cases z)
    refine ⟨.ref L, rfl, .ref m, rfl, .ref L, rfl, L, xs, rfl, .inl (SqL.of hL), m, c, n, xs.length, rfl, hM, hn, by omega, ?_, fun H1 v b1 M1 v0 v1 => ?_⟩
    · have e : ((xs.length : Nat) : Int).natAbs = xs.length := by omega
      rw [e]
      exact Nat.lt_of_le_of_lt h1 (by decide)
    · obtain ⟨j, rfl⟩ : ∃ j : Nat, v = j := ⟨v.toNat, by omega⟩
      have hj : j < xs.length := by omega
      exact ⟨L, xs, j, xs[j], rfl, rfl, SqL.of (b1 _ _ hLm hL), atI_nat (List.getElem?_eq_getElem hj), q H1 xs[j] b1 M1 (List.getElem_mem hj)⟩
theorem ok_like {f : Addr} {fd : FuncData} (F : Fun K "_law_like" "_law_like" s_like f fd) (m_repr : mg "repr" = none) : FnG P w K mg base 1 f fd ["got", "due"] (spLike K) := by
  have sc := sc_like
  refine okG F sc (fun vs H Q E h => ?_) (fun cdv A outer s H vs Q E hG hr h => ?_)
  · obtain ⟨x, y, d, rfl, _⟩ := h
    rfl
  · obtain ⟨x, y, d, rfl, h1, h2, hf, q⟩ := h
    have hG' : Quiet (cxOf CX0 P w K mg base ["got", "due"] "_law_like" (defScope s_like) f cdv A outer s H E).nox.A := hG.deeper _
    refine ⟨_, (pss_one (ps_ret (pe_cmpR op_eq (pe_callB (call_rep hG' hr.units) (by rfl) m_repr (by decide +kernel) (pa_cons (pv 0) pa_nil)) (pe_callB (call_rep hG' hr.units) (by rfl) m_repr (by decide +kernel) (pa_cons (pv 1) pa_nil)) (nomark _)))), ?_⟩
    refine ⟨x, rfl, x, d, rfl, h1, hf.s, hf.h, hf.dp, hf.len (Nat.le_refl _), y, rfl, y, d, rfl, h2, hf.s, hf.h, hf.dp, hf.len (Nat.le_refl _), rfl, ?_⟩
    rw [decide_eq_true rfl]
    exact q
theorem ok_signed {f : Addr} {fd : FuncData} (F : Fun K "_law_signed" "_law_signed" s_signed f fd) (C__law_draw : Cal P w K mg base 1 "_law_draw" ["m", "bound"] spDraw) : FnOk P w K mg base CX0 2 f fd ["m", "most"] spSigned := by
  have sc := sc_signed
  refine F.ok sc (fun vs H Q E h => ?_) (fun cdv A outer s H vs Q E hr h => ?_)
  · obtain ⟨m, c, q, b, rfl, _⟩ := h
    rfl
  · obtain ⟨m, c, q, b, rfl, hM, hq, b0, b1, k⟩ := h
    refine ⟨_, (pss_cons (ps_set (i := 2) sc.nd rfl (Or.inl rfl) (call_ C__law_draw (hr.mono (by decide)) (by rfl) (pa_cons (pv 0) (pa_cons (pe_op op_add (pv 1) pe_int) pa_nil))))
    (pss_one (ps_ret (pe_ifExp (pt_cmpR op_eq (call_ C__law_draw (hr.mono (by decide)) (by rfl) (pa_cons (pv 0) (pa_cons pe_int pa_nil))) pe_int (nomark _)) (pv 2) (pe_un un_neg (pv 2)))))), ?_⟩
    have lim : ∀ z : Int, 0 ≤ z → z ≤ 10000 → z.natAbs < 2 ^ 200 := fun z h0 h1 => Nat.lt_of_le_of_lt (show z.natAbs ≤ 10000 by omega) (by decide)
    refine ⟨.ref m, rfl, .int b, rfl, b, 1, rfl, rfl, m, c, q, b + 1, rfl, hM, by omega, by omega, lim _ (by omega) (by omega), fun H1 v s1 M1 v0 v1 => ?_⟩
    refine ⟨.ref m, rfl, m, c, q + 1, 2, rfl, M1, by omega, by decide, by decide, fun H2 u s2 M2 u0 u1 => ?_⟩
    have s12 := s1.trans s2
    have M3 := M2.mono (show q + 1 + 1 ≤ q + 2 by omega)
    refine ⟨rfl, _, rfl, ite2 (fun _ => ?_) (fun _ => ?_)⟩
    · exact ⟨_, rfl, k H2 _ s12 M3 (by omega) (by omega)⟩
    · exact ⟨_, rfl, v, rfl, k H2 _ s12 M3 (by omega) (by omega)⟩
theorem ok_psum {f : Addr} {fd : FuncData} (F : Fun K "product_sum" "product_sum" s_psum f fd) (m_sum : mg "sum" = none) (m_zip : mg "zip" = none) : FnOk P w K mg base CX0 1 f fd ["one", "other"] spPsum := by
  have sc := sc_psum
  refine F.ok sc (fun vs H Q E h => ?_) (fun cdv A outer s H vs Q E hr h => ?_)
  · obtain ⟨a, b, xs, ys, rfl, _⟩ := h
    rfl
  · obtain ⟨a, b, xs, ys, rfl, ha, hb, hl, q⟩ := h
    refine ⟨_, (pss_one (ps_ret (pe_callB (cr_sum rfl) (by rfl) m_sum (by decide +kernel) (pa_cons (pe_lc (own := [("a", 2), ("b", 3)]) (g := gTup K 2 (gCons (gName 2) (gCons (gName 3) gNil))) (by rfl) sc.nd (pi_zipK (by rfl) m_zip (pa_cons (pv 0) (pa_cons (pv 1) pa_nil))) (blkOk_by (own := [("a", 2), ("b", 3)]) (N := ["one", "other", "a", "b"]) (sc := defScope s_psum) (by decide +kernel)) (fun _ _ _ _ _ => pg_tup (n := 2) (by rfl) (pgs_cons (pg_name (i := 2) sc.nd rfl (Or.inl rfl)) (pgs_cons (pg_name (i := 3) sc.nd rfl (Or.inl rfl)) pgs_nil))) (fun _ _ _ _ _ => pts_nil) (fun _ _ _ _ _ => (pe_op op_mulW (pv 2) (pv 3)))) pa_nil)))), ?_⟩
    refine ⟨.ref a, rfl, .ref b, rfl, false, false, a, b, xs.map V.int, ys.map V.int, rfl, ha.1.t, hb.1.t, fun D nD => ?_⟩
    refine lc_to (walk_zipK (n := xs.length) (by rw [List.length_map, List.length_map]; omega)) ((List.zipWith (· * ·) xs ys).map V.int) (by rw [List.length_map, List.length_zipWith]; omega) (small ha.2.1) nD (fun H' s => ⟨(ha.1.same s).t, (hb.1.same s).t⟩) ?_ ?_
    · rintro i x y H0 H1 Qy hy hi s0 ⟨T, u, v, rfl, nT, rfl, hu, hv⟩ hq
      obtain ⟨z, hz, rfl⟩ := map_get hy
      obtain ⟨p, r, hp, hr', rfl⟩ := zipW_get hz
      obtain ⟨p', hp', rfl⟩ := map_get hu
      obtain ⟨r', hr'', rfl⟩ := map_get hv
      obtain rfl := Option.some.inj (hp.symm.trans hp')
      obtain rfl := Option.some.inj (hr'.symm.trans hr'')
      refine ⟨T, [.int p, .int r], rfl, SqT.of upd_same, rfl, .int p, [.int r], rfl, .int r, [], rfl, rfl, rfl, .int p, rfl, .int r, rfl, p, r, rfl, rfl, ?_, hq _ (same_new nT)⟩
      exact Nat.lt_trans (wide (ha.2.2 _ (List.mem_of_getElem? hp)) (hb.2.2 _ (List.mem_of_getElem? hr'))) (by decide)
    · intro H' s d
      exact ⟨D, List.zipWith (· * ·) xs ys, rfl, SqL.of d, q H' s⟩
theorem ok_isn {f : Addr} {fd : FuncData} (F : Fun K "is_number" "is_number" s_isn f fd) (m_isinstance : mg "isinstance" = none) (m_int : mg "int" = none) (m_bool : mg "bool" = none) : FnOk P w K mg base CX0 1 f fd ["value"] spIsn := by
  have sc := sc_isn
  refine F.ok sc (fun vs H Q E h => ?_) (fun cdv A outer s H vs Q E hr h => ?_)
  · obtain ⟨x, t, rfl, _⟩ := h
    rfl
  · obtain ⟨x, t, rfl, hx, q⟩ := h
    refine ⟨_, (pss_one (ps_ret (pe_and (pe_callB call_isi (by rfl) m_isinstance (by decide +kernel) (pa_cons (pv 0) (pa_cons (pe_bltn (v := .ty "int") (by rfl) m_int (by decide +kernel) rfl) pa_nil))) (pe_one (pe_not (pe_callB call_isi (by rfl) m_isinstance (by decide +kernel) (pa_cons (pv 0) (pa_cons (pe_bltn (v := .ty "bool") (by rfl) m_bool (by decide +kernel) rfl) pa_nil)))))))), ?_⟩
    refine ⟨x, rfl, x, .ty "int", _, _, _, rfl, .ty _, hx.ty, kit_ty hx.kInt, _, rfl, ite2 (fun h => ?_) (fun h => ?_)⟩
    · refine ⟨x, rfl, x, .ty "bool", _, _, _, rfl, .ty _, hx.ty, kit_ty hx.kBool, _, rfl, ?_⟩
      rw [hx.isInt] at q
      have e : decide (t = "int") = !decide (t = "bool") := by
        cases hx <;> revert h <;> decide
      rw [e] at q
      exact q
    · rw [hx.isInt] at q
      have e : decide (t = "int") = false := by
        cases hx <;> revert h <;> decide
      rw [e] at q
      exact q
theorem ok_aren {f : Addr} {fd : FuncData} (F : Fun K "are_numbers" "are_numbers" s_aren f fd) (C_is_number : Cal P w K mg base 1 "is_number" ["value"] spIsn) (m_isinstance : mg "isinstance" = none) (m_tuple : mg "tuple" = none) (m_len : mg "len" = none) (m_all : mg "all" = none) : FnOk P w K mg base CX0 2 f fd ["value", "count"] spAren := by
  have sc := sc_aren
  refine F.ok sc (fun vs H Q E h => ?_) (fun cdv A outer s H vs Q E hr h => ?_)
  · obtain ⟨x, n, rfl, _⟩ := h
    rfl
  · obtain ⟨x, n, rfl, h⟩ := h
    refine ⟨_, (pss_cons (ps_if (PW.pt (pw_or (pt_not (pt_val (pe_callB call_isi (by rfl) m_isinstance (by decide +kernel) (pa_cons (pv 0) (pa_cons (pe_bltn (v := .ty "tuple") (by rfl) m_tuple (by decide +kernel) rfl) pa_nil))))) (pw_or1 (pt_cmpR op_ne (pe_callB call_len_seq (by rfl) m_len (by decide +kernel) (pa_cons (pv 0) pa_nil)) (pv 1) (nomark _)))))
      (pss_one (ps_ret pe_bl))
      pss_nil)
    (pss_one (ps_ret (pe_callB (cr_all rfl) (by rfl) m_all (by decide +kernel) (pa_cons (pe_lc (own := [("entry", 2)]) (g := gName 2) (by rfl) sc.nd (pi_tup (pv 0)) (blkOk_by (own := [("entry", 2)]) (N := ["value", "count", "entry"]) (sc := defScope s_aren) (by decide +kernel)) (fun _ _ _ _ _ => pg_name (i := 2) sc.nd rfl (Or.inl rfl)) (fun _ _ _ _ _ => pts_nil) (fun _ _ _ _ _ => (call_ C_is_number (hr.mono (by decide)) (by rfl) (pa_cons (pv 2) pa_nil)))) pa_nil))))), ?_⟩
    rcases h with ⟨t, hx, ht, q⟩ | ⟨a, xs, rfl, ha, hz, hes, q⟩
    · refine ⟨x, rfl, x, .ty "tuple", _, _, _, rfl, .ty _, hx.ty, kit_ty hx.kTup, _, rfl, ?_⟩
      rw [decide_eq_false ht]
      exact iteT (iteT q)
    · have hx : Oky H (.ref a) "tuple" := .tup ha
      refine ⟨.ref a, rfl, .ref a, .ty "tuple", _, _, _, rfl, .ty _, hx.ty, kit_ty hx.kTup, _, rfl, iteF ?_⟩
      refine ⟨.ref a, rfl, a, xs, rfl, .inr ha.t, .int n, rfl, rfl, _, rfl, ite2 (fun hl => ?_) (fun hl => ?_)⟩
      · have n2 : xs.length ≠ n := fun z => by
          rw [z] at hl
          simp at hl
        have e : tupOk n xs = false := by
          unfold tupOk
          rw [decide_eq_false n2]
          rfl
        have q := q H (Same.refl _)
        rw [e] at q
        exact q
      · have n2 : xs.length = n := by
          by_cases z : xs.length = n
          · exact z
          · refine absurd ?_ hl
            rw [decide_eq_false (fun y => z (by have := V.int.inj y; omega))]
            rfl
        refine ⟨.ref a, rfl, a, rfl, ⟨_, ha.t⟩, fun D nD => ?_⟩
        refine lc_to (walk_tup (K := K) (a := a) (xs := xs)) (xs.map fun e => V.bl (isInt e)) (List.length_map ..) (small hz) nD (fun H' s => (ha.same s).t) ?_ ?_
        · rintro i x y H0 H1 Qy hy hi s0 ⟨rfl, hx⟩ hq
          obtain ⟨p, hp, rfl⟩ := map_get hy
          obtain rfl := Option.some.inj (hp.symm.trans hx)
          obtain ⟨t, ht⟩ := hes _ (List.mem_of_getElem? hp)
          exact ⟨rfl, p, rfl, p, t, rfl, ht.same s0, hq _ (Same.refl _)⟩
        · intro H' s d
          refine ⟨D, xs.map Vk.isInt, rfl, SqL.of (by rw [d, List.map_map]; rfl), ?_⟩
          have q := q H' s
          have e : tupOk n xs = (xs.map Vk.isInt).all id := by
            unfold tupOk
            rw [decide_eq_true n2, List.all_map]
            rfl
          rw [e] at q
          exact q
end
end K16
namespace Vk
open PySem PySem.Spec PyProof.Rows L2
/-- a comprehension that makes a new thing for each place -/
theorem lc_objs {J : It} {n : Nat} {G : Hp → Prop} {Y : Nat → Hp → V → Hp → Prop} (w : Walk J n G Y) {g : TG} {te : TE} {vs : List Nat} {σ : L2.St} {H1 : Hp} {D : Addr} {Qd : Hp → Prop} (o : Nat → HO) (hz : n < sizeLine) (nD : H1 D = none)
    (hG : ∀ H, Same H1 H → G H)
    (hs : ∀ (i : Nat) (x : V) (H H' : Hp) (Qy : VK), i < n → Same H1 H → Y i H x H' → (∀ p H4, Same H H4 → H p = none → H4 p = some (o i) → Qy (.ref p) H4) → g x (wipe σ vs) H' fun σ2 H2 => wipe σ2 vs = wipe σ vs ∧ te σ2 H2 Qy)
    (hd : ∀ H (ps : List Addr), Same H1 H → H D = some (.lst (ps.map V.ref)) → ps.length = n → ps.Nodup → (∀ p ∈ ps, H1 p = none) → (∀ (i : Nat) (p : Addr), ps[i]? = some p → H p = some (o i)) → Qd H) :
    ∃ W : Nat → Nat → Hp → Prop, (∃ m, W 0 m (upd H1 D (.lst []))) ∧ ∀ i m H, W i m H →
      (J.stop i H ∧ Qd H) ∨ (J.go i H ∧ ∃ Nx : Hp → Prop, (∀ H', Nx H' → ∃ m', m' < m ∧ W (i + 1) m' H') ∧ ∀ x H', J.yld i H x H' → g x (wipe σ vs) H' fun σ2 H2 => wipe σ2 vs = wipe σ vs ∧ tYes σ2 H2 fun b H3 =>
        if b = true then te σ2 H3 fun y H4 => ∃ acc, H4 D = some (.lst acc) ∧ acc.length < sizeLine ∧ Nx (upd H4 D (.lst (acc ++ [y]))) else Nx H3) := by
  refine lc_it w (tt := tYes) (fun i H => ∃ ps : List Addr, Same H1 H ∧ H D = some (.lst (ps.map V.ref)) ∧ ps.length = i ∧ ps.Nodup ∧ (∀ p ∈ ps, H1 p = none ∧ p ≠ D) ∧ ∀ (j : Nat) (p : Addr), ps[j]? = some p → H p = some (o j))
    ⟨[], same_new nD, upd_same, rfl, List.nodup_nil, fun p hp => (by cases hp), fun j p h => by cases h⟩ (fun i H _ p => by obtain ⟨_, s, _⟩ := p; exact hG H s) ?_ ?_
  · rintro i x H H' hi ⟨ps, s, d, l, nd, fr, ob⟩ y
    refine hs i x H H' (fun y H4 => ∃ acc, H4 D = some (.lst acc) ∧ acc.length < sizeLine ∧ ∃ ps : List Addr, Same H1 (upd H4 D (.lst (acc ++ [y]))) ∧ upd H4 D (.lst (acc ++ [y])) D = some (.lst (ps.map V.ref)) ∧ ps.length = i + 1 ∧ ps.Nodup ∧ (∀ p ∈ ps, H1 p = none ∧ p ≠ D) ∧ ∀ (j : Nat) (p : Addr), ps[j]? = some p → upd H4 D (.lst (acc ++ [y])) p = some (o j)) hi s y fun p H4 s4 np hp => ?_
    have pD : p ≠ D := Ne.symm (ne_of_none d np)
    refine ⟨ps.map V.ref, s4 _ _ d, by rw [List.length_map]; omega, ps ++ [p], same_put (s.trans s4) nD, by rw [upd_same, List.map_append]; rfl, by rw [List.length_append, l]; rfl, ?_, ?_, ?_⟩
    · rw [List.nodup_append]
      refine ⟨nd, List.nodup_cons.mpr ⟨List.not_mem_nil, List.nodup_nil⟩, fun a ha b hb => ?_⟩
      rw [List.mem_singleton] at hb
      subst hb
      rintro rfl
      obtain ⟨j, hj⟩ := List.getElem?_of_mem ha
      have := ob j a hj
      rw [np] at this
      cases this
    · intro a ha
      rcases List.mem_append.mp ha with h | h
      · exact fr a h
      · rw [List.mem_singleton] at h
        subst h
        exact ⟨s.free np, pD⟩
    · intro j a ha
      by_cases hj : j < ps.length
      · rw [List.getElem?_append_left hj] at ha
        rw [upd_ne (fr a (List.mem_of_getElem? ha)).2]
        exact s4 _ _ (ob j a ha)
      · have hj2 := (List.getElem?_eq_some_iff.mp ha).1
        rw [List.length_append] at hj2
        have hj3 : j = ps.length := by
          simp only [List.length_cons, List.length_nil] at hj2
          omega
        subst hj3
        rw [List.getElem?_append_right (Nat.le_refl _), Nat.sub_self] at ha
        obtain rfl := Option.some.inj ha
        rw [upd_ne pD, l]
        exact hp
  · rintro H ⟨ps, s, d, l, nd, fr, ob⟩
    exact hd H ps s d l nd (fun p hp => (fr p hp).1) ob
/-- a comprehension whose items are tuples of numbers -/
theorem lc_tps {J : It} {n : Nat} {G : Hp → Prop} {Y : Nat → Hp → V → Hp → Prop} (w : Walk J n G Y) {g : TG} {te : TE} {vs : List Nat} {σ : L2.St} {H1 : Hp} {D : Addr} {Qd : Hp → Prop} (R : List (List Int)) (hn : R.length = n) (hz : n < sizeLine) (nD : H1 D = none)
    (hG : ∀ H, Same H1 H → G H)
    (hs : ∀ (i : Nat) (x : V) (y : List Int) (H H' : Hp) (Qy : VK), R[i]? = some y → i < n → Same H1 H → Y i H x H' → (∀ p H4, Same H H4 → Tp H4 p (y.map V.int) → Qy (.ref p) H4) → g x (wipe σ vs) H' fun σ2 H2 => wipe σ2 vs = wipe σ vs ∧ te σ2 H2 Qy)
    (hd : ∀ H (ps : List Addr), Same H1 H → H D = some (.lst (ps.map V.ref)) → Rw H ps R → Qd H) :
    ∃ W : Nat → Nat → Hp → Prop, (∃ m, W 0 m (upd H1 D (.lst []))) ∧ ∀ i m H, W i m H →
      (J.stop i H ∧ Qd H) ∨ (J.go i H ∧ ∃ Nx : Hp → Prop, (∀ H', Nx H' → ∃ m', m' < m ∧ W (i + 1) m' H') ∧ ∀ x H', J.yld i H x H' → g x (wipe σ vs) H' fun σ2 H2 => wipe σ2 vs = wipe σ vs ∧ tYes σ2 H2 fun b H3 =>
        if b = true then te σ2 H3 fun y H4 => ∃ acc, H4 D = some (.lst acc) ∧ acc.length < sizeLine ∧ Nx (upd H4 D (.lst (acc ++ [y]))) else Nx H3) := by
  refine lc_it w (tt := tYes) (fun i H => ∃ ps : List Addr, Same H1 H ∧ H D = some (.lst (ps.map V.ref)) ∧ Rw H ps (R.take i) ∧ ps.length = i)
    ⟨[], same_new nD, upd_same, ⟨rfl, fun j p r h => by cases h⟩, rfl⟩ (fun i H _ p => by obtain ⟨_, s, _⟩ := p; exact hG H s) ?_ ?_
  · rintro i x H H' hi ⟨ps, s, d, hR, l⟩ y
    have hiR : i < R.length := by omega
    obtain ⟨v, hv⟩ : ∃ v, R[i]? = some v := ⟨_, List.getElem?_eq_getElem hiR⟩
    refine hs i x v H H' (fun y H4 => ∃ acc, H4 D = some (.lst acc) ∧ acc.length < sizeLine ∧ ∃ ps : List Addr, Same H1 (upd H4 D (.lst (acc ++ [y]))) ∧ upd H4 D (.lst (acc ++ [y])) D = some (.lst (ps.map V.ref)) ∧ Rw (upd H4 D (.lst (acc ++ [y]))) ps (R.take (i + 1)) ∧ ps.length = i + 1) hv hi s y fun p H4 s4 hp => ?_
    have d4 := s4 _ _ d
    refine ⟨ps.map V.ref, d4, by rw [List.length_map]; omega, ps ++ [p], same_put (s.trans s4) nD, by rw [upd_same, List.map_append]; rfl, ?_, by rw [List.length_append, l]; rfl⟩
    rw [List.take_add_one, hv]
    exact ((hR.same s4).snoc hp).put d4
  · rintro H ⟨ps, s, d, hR, l⟩
    rw [← hn, List.take_length] at hR
    exact hd H ps s d hR
theorem call_tuple_ofK {X : Cx} {K : PySem.W.Frag} (h : X.K = K) : CallR X (.type "tuple") (fun xs H Q => ∃ p ys, xs = [.ref p] ∧ ((SqL K H p ys ∧ ∀ l, H l = none → Q (.ref l) (upd H l (.tup ys))) ∨ (SqT K H p ys ∧ Q (.ref p) H))) := by
  subst h
  exact call_tuple_of
theorem pi_tupK {X : Cx} {K : PySem.W.Frag} {tg l : Expr} {tl : TE} (h : X.K = K) (hl : PE X l tl) : PI X tg l (iTup K tl) := by
  subst h
  exact pi_tup hl
theorem pi_listK {X : Cx} {K : PySem.W.Frag} {tg l : Expr} {tl : TE} (h : X.K = K) (hl : PE X l tl) : PI X tg l (iList K tl) := by
  subst h
  exact pi_list hl
theorem getD_of {xs : List Int} {i : Nat} {x : Int} (h : xs[i]? = some x) : xs.getD i 0 = x := by
  rw [List.getD_eq_getElem?_getD, h]
  rfl
theorem call_len_seqK {X : Cx} {K : PySem.W.Frag} (h : X.K = K) : CallR X (.builtin "len") (fun xs H Q => ∃ p ys, xs = [.ref p] ∧ (SqL K H p ys ∨ SqT K H p ys) ∧ Q (.int ys.length) H) := by
  subst h
  exact call_len_seq
theorem cr_sumK {X : Cx} {K : PySem.W.Frag} (h : X.K = K) (hc : X.calm = true) : CallR X (.builtin "sum") (rSum K) := by
  subst h
  exact cr_sum hc
theorem mulB {k j : Nat} {x y : Int} (hk : 0 < k) (hj : 0 < j) (h1 : SmZ k x) (h2 : SmZ j y) (h : k + j ≤ 900000) : CMulW x y := by
  have a := smz_log hk h1
  have b := smz_log hj h2
  show x.natAbs.log2 + y.natAbs.log2 < 1000000
  omega
theorem cut_from {xs : List V} {i : Nat} : cutV xs (some (i : Int)) none = xs.drop i := by
  unfold cutV
  rw [HT.sIx_none, HT.sIx_nat]
  rw [List.take_of_length_le (by rw [List.length_drop]; omega)]
  by_cases h : i ≤ xs.length
  · rw [Nat.min_eq_left h]
  · rw [Nat.min_eq_right (by omega), List.drop_length, List.drop_eq_nil_of_le (by omega)]
theorem cut_to {xs : List V} {n : Nat} : cutV xs none (some (n : Int)) = xs.take n := by
  unfold cutV
  rw [HT.sIx_none, HT.sIx_nat, List.drop_zero, Nat.sub_zero]
  by_cases h : n ≤ xs.length
  · rw [Nat.min_eq_left h]
  · rw [Nat.min_eq_right (by omega), List.take_length, List.take_of_length_le (by omega)]
theorem op_catAK {X : Cx} {K : PySem.W.Frag} (h : X.K = K) : OpR X (binaryOp .Add) (rCatA K) := by
  subst h
  exact op_catA
theorem sl_listK {X : Cx} {K : PySem.W.Frag} (h : X.K = K) : SlR X (rSlL K) := by
  subst h
  exact sl_list
theorem sl_tupAK {X : Cx} {K : PySem.W.Frag} (h : X.K = K) : SlR X (rSlA K) := by
  subst h
  exact sl_tupA
theorem smz_add {n : Nat} {a b : Int} (h1 : SmZ n a) (h2 : SmZ n b) : SmZ (n + 1) (a + b) := by
  unfold SmZ at *
  have e : (2 : Nat) ^ (n + 1) = 2 ^ n * 2 := Nat.pow_succ ..
  omega
theorem smz_sub {n : Nat} {a b : Int} (h1 : SmZ n a) (h2 : SmZ n b) : SmZ (n + 1) (a - b) := by
  unfold SmZ at *
  have e : (2 : Nat) ^ (n + 1) = 2 ^ n * 2 := Nat.pow_succ ..
  omega
theorem dot_sm {k j : Nat} : ∀ {xs ys : List Int}, (∀ x ∈ xs, SmZ k x) → (∀ x ∈ ys, SmZ j x) → SmZ (k + j + xs.length) (dot xs ys)
  | [], ys, _, _ => Nat.two_pow_pos _
  | x :: xs, [], _, _ => Nat.two_pow_pos _
  | x :: xs, y :: ys, h1, h2 => by
    have ih := dot_sm (xs := xs) (ys := ys) (fun z hz => h1 z (List.mem_cons_of_mem _ hz)) (fun z hz => h2 z (List.mem_cons_of_mem _ hz))
    have h3 := smz_mul (h1 x (List.mem_cons_self ..)) (h2 y (List.mem_cons_self ..))
    have e : dot (x :: xs) (y :: ys) = x * y + dot xs ys := by
      unfold dot
      rw [List.zipWith_cons_cons, List.sum_cons]
    rw [e, List.length_cons]
    exact smz_add (n := k + j + xs.length) (smz_mono h3 (by omega)) ih
theorem flat1 (n : Nat) (x : V) : (List.replicate n [x]).flatten = List.replicate n x := by
  induction n with
  | zero => rfl
  | succ n ih => rw [List.replicate_succ, List.flatten_cons, ih]; rfl
theorem zip_len (l1 l2 : List V) (n : Nat) (h1 : l1.length = n) (h2 : l2.length = n) : n = min l1.length l2.length := by omega
theorem tifs_rest {c : TT} {t u : TS} {D : Ends} {σ : L2.St} {H : Hp} (Good : L2.St → Hp → Prop) (rest : ∀ σ' H', Good σ' H' → D.nx σ' H') (paths : (∀ σ' H', Good σ' H' → D.nx σ' H') → tIfS c t u D σ H) : tIfS c t u D σ H := paths rest
theorem gname_ {i : Nat} {v : V} {σ : L2.St} {H : Hp} {Q : L2.St → Hp → Prop} (h : Q (σ.set i (some v)) H) : gName i v σ H Q := h
theorem seq_ {t u : TS} {D : Ends} {σ : L2.St} {H : Hp} (h : t { D with nx := u D } σ H) : tSeq t u D σ H := h
theorem Rws.snoc {H : Hp} {ps : List Addr} {rows : List (List Int)} {n : Nat} {p : Addr} {r : List Int} (h : Rws H ps rows n) (hp : Row H p r) (hl : r.length = n) : Rws H (ps ++ [p]) (rows ++ [r]) n := by
  refine ⟨by rw [List.length_append, List.length_append, h.1]; rfl, fun j a z h1 h2 => ?_⟩
  by_cases hj : j < ps.length
  · rw [List.getElem?_append_left hj] at h1
    rw [List.getElem?_append_left (by rw [← h.1]; exact hj)] at h2
    exact h.2 j a z h1 h2
  · rw [List.getElem?_append_right (by omega)] at h1
    rw [List.getElem?_append_right (by rw [← h.1]; omega)] at h2
    have j0 : j - ps.length = 0 := by
      have := (List.getElem?_eq_some_iff.mp h1).1
      simp only [List.length_cons, List.length_nil] at this
      omega
    rw [j0] at h1
    rw [← h.1, j0] at h2
    obtain rfl : p = a := Option.some.inj h1
    obtain rfl : r = z := Option.some.inj h2
    exact ⟨hp, hl⟩
theorem call_isiK {X : Cx} {K : PySem.W.Frag} (h : X.K = K) : CallR X (.builtin "isinstance") (rIsi K) := by
  subst h
  exact call_isi
end Vk
namespace Vd
/-- the sum of the first n -/
def S : Nat → (Nat → Int) → Int
  | 0, _ => 0
  | n + 1, f => S n f + f n
theorem S_congr {f g : Nat → Int} : ∀ n, (∀ j, j < n → f j = g j) → S n f = S n g
  | 0, _ => rfl
  | n + 1, h => by
    show S n f + f n = S n g + g n
    rw [S_congr n fun j hj => h j (by omega), h n (by omega)]
theorem S_add (f g : Nat → Int) : ∀ n, S n (fun j => f j + g j) = S n f + S n g
  | 0 => rfl
  | n + 1 => by
    show S n (fun j => f j + g j) + (f n + g n) = _
    rw [S_add f g n]
    show _ = S n f + f n + (S n g + g n)
    omega
theorem S_mul (k : Int) (f : Nat → Int) : ∀ n, S n (fun j => k * f j) = k * S n f
  | 0 => by simp [S]
  | n + 1 => by
    show S n (fun j => k * f j) + k * f n = k * (S n f + f n)
    rw [S_mul k f n, Int.mul_add]
theorem S_zero : ∀ n, S n (fun _ => 0) = 0
  | 0 => rfl
  | n + 1 => by
    show S n (fun _ => 0) + 0 = 0
    rw [S_zero n]
    rfl
theorem S_head (f : Nat → Int) : ∀ n, S (n + 1) f = f 0 + S n fun j => f (j + 1)
  | 0 => by
    show 0 + f 0 = f 0 + 0
    omega
  | n + 1 => by
    show S (n + 1) f + f (n + 1) = f 0 + (S n (fun j => f (j + 1)) + f (n + 1))
    rw [S_head f n]
    omega
theorem S_swap (f : Nat → Nat → Int) (m : Nat) : ∀ n, S n (fun j => S m (fun k => f j k)) = S m (fun k => S n (fun j => f j k))
  | 0 => (S_zero m).symm
  | n + 1 => by
    show S n (fun j => S m (fun k => f j k)) + S m (fun k => f n k) = S m (fun k => S n (fun j => f j k) + f n k)
    rw [S_swap f m n, ← S_add]
theorem S_one {f : Nat → Int} {i : Nat} : ∀ n, i < n → (∀ j, j < n → j ≠ i → f j = 0) → S n f = f i
  | 0, h, _ => by omega
  | n + 1, h, z => by
    show S n f + f n = f i
    by_cases e : i = n
    · subst e
      rw [S_congr (g := fun _ => 0) i fun j hj => z j (by omega) (by omega), S_zero]
      omega
    · rw [S_one n (by omega) fun j hj ne => z j (by omega) ne, z n (by omega) (by omega)]
      omega
theorem S_two {f : Nat → Int} {i : Nat} : ∀ n, i + 1 < n → (∀ j, j < n → j ≠ i → j ≠ i + 1 → f j = 0) → S n f = f i + f (i + 1)
  | 0, h, _ => by omega
  | n + 1, h, z => by
    show S n f + f n = _
    by_cases e : i + 1 = n
    · subst e
      rw [S_one (i := i) (i + 1) (by omega) fun j hj ne => z j (by omega) ne (by omega)]
    · rw [S_two n (by omega) fun j hj a b => z j (by omega) a b, z n (by omega) (by omega) (by omega)]
      omega
abbrev Mt := Nat → Nat → Int
/-- a number that leaves i out -/
def sk (i r : Nat) : Nat := if r < i then r else r + 1
theorem sk_zero (r : Nat) : sk 0 r = r + 1 := by simp [sk]
theorem sk_succ (i r : Nat) : sk (i + 1) (r + 1) = sk i r + 1 := by
  unfold sk
  split <;> split <;> omega
theorem sk_succ0 (i : Nat) : sk (i + 1) 0 = 0 := by simp [sk]
theorem sk_lt {i r n : Nat} (h : r < n) : sk i r < n + 1 := by
  unfold sk
  split <;> omega
theorem sk_ne (i r : Nat) : sk i r ≠ i := by
  unfold sk
  split <;> omega
/-- what is left without row i and column j -/
def mn (i j : Nat) (A : Mt) : Mt := fun r c => A (sk i r) (sk j c)
def sg (j : Nat) : Int := if j % 2 = 0 then 1 else -1
theorem sg_zero : sg 0 = 1 := rfl
theorem sg_succ (j : Nat) : sg (j + 1) = - sg j := by
  unfold sg
  split <;> split <;> omega
theorem sg_sq (j : Nat) : sg j * sg j = 1 := by
  unfold sg
  split <;> decide
/-- the determinant along the first row -/
def det : Nat → Mt → Int
  | 0, _ => 1
  | n + 1, A => S (n + 1) fun j => sg j * A 0 j * det n (mn 0 j A)
/-- the determinant along the first column -/
def detC : Nat → Mt → Int
  | 0, _ => 1
  | n + 1, A => S (n + 1) fun i => sg i * A i 0 * detC n (mn i 0 A)
theorem det_congr : ∀ (n : Nat) {A B : Mt}, (∀ r c, r < n → c < n → A r c = B r c) → det n A = det n B
  | 0, _, _, _ => rfl
  | n + 1, A, B, h => by
    refine S_congr _ fun j hj => ?_
    rw [h 0 j (by omega) hj, det_congr n (A := mn 0 j A) (B := mn 0 j B) fun r c hr hc => h _ _ (sk_lt hr) (sk_lt hc)]
theorem detC_tr : ∀ (n : Nat) (A : Mt), detC n A = det n fun r c => A c r
  | 0, _ => rfl
  | n + 1, A => S_congr _ fun j hj => by
    rw [detC_tr n]
    rfl
/-- both ways are one -/
theorem det_detC : ∀ (n : Nat) (A : Mt), det n A = detC n A
  | 0, _ => rfl
  | 1, A => rfl
  | n + 2, A => by
    show S (n + 2) (fun j => sg j * A 0 j * det (n + 1) (mn 0 j A)) = S (n + 2) fun i => sg i * A i 0 * detC (n + 1) (mn i 0 A)
    refine (S_head _ (n + 1)).trans (Eq.trans ?_ (S_head _ (n + 1)).symm)
    rw [det_detC (n + 1) (mn 0 0 A)]
    congr 1
    have l : ∀ j, sg (j + 1) * A 0 (j + 1) * det (n + 1) (mn 0 (j + 1) A) = S (n + 1) fun i => sg (j + 1) * A 0 (j + 1) * (sg i * A (i + 1) 0 * det n (mn i 0 (mn 0 (j + 1) A))) := fun j => by
      rw [det_detC (n + 1) (mn 0 (j + 1) A), S_mul]
      congr 1
      exact S_congr _ fun i hi => by
        rw [det_detC n]
        show sg i * A (sk 0 i) (sk (j + 1) 0) * _ = _
        rw [sk_zero, sk_succ0]
    have r : ∀ i, sg (i + 1) * A (i + 1) 0 * detC (n + 1) (mn (i + 1) 0 A) = S (n + 1) fun j => sg (i + 1) * A (i + 1) 0 * (sg j * A 0 (j + 1) * det n (mn 0 j (mn (i + 1) 0 A))) := fun i => by
      rw [← det_detC (n + 1) (mn (i + 1) 0 A), S_mul]
      congr 1
    rw [S_congr (n + 1) fun j hj => l j, S_congr (n + 1) fun i hi => r i, S_swap]
    refine S_congr _ fun i hi => S_congr _ fun j hj => ?_
    have e : mn i 0 (mn 0 (j + 1) A) = mn 0 j (mn (i + 1) 0 A) := by
      funext r c
      show A (sk 0 (sk i r)) (sk (j + 1) (sk 0 c)) = A (sk (i + 1) (sk 0 r)) (sk 0 (sk j c))
      rw [sk_zero, sk_zero, sk_zero, sk_zero, sk_succ, sk_succ]
    rw [e, sg_succ, sg_succ]
    grind
/-- turned over -/
theorem det_tr (n : Nat) (A : Mt) : det n (fun r c => A c r) = det n A := by
  rw [← detC_tr, det_detC]
/-- another row i -/
def up (A : Mt) (i : Nat) (v : Nat → Int) : Mt := fun r c => if r = i then v c else A r c
theorem up_same (A : Mt) (i : Nat) : up A i (A i) = A := by
  funext r c
  unfold up
  split
  · next h => rw [h]
  · rfl
theorem up_at (A : Mt) (i : Nat) (v : Nat → Int) : up A i v i = v := by
  funext c
  simp [up]
theorem up_ne {A : Mt} {i r : Nat} {v : Nat → Int} (h : r ≠ i) : up A i v r = A r := by
  funext c
  simp [up, h]
theorem up_up (A : Mt) (i : Nat) (v w : Nat → Int) : up (up A i v) i w = up A i w := by
  funext r c
  unfold up
  split <;> rfl
theorem up_comm {A : Mt} {i j : Nat} {v w : Nat → Int} (h : i ≠ j) : up (up A i v) j w = up (up A j w) i v := by
  funext r c
  unfold up
  split
  · next e => rw [if_neg (by omega)]
  · rfl
theorem mn_up0 (A : Mt) (j : Nat) (v : Nat → Int) : mn 0 j (up A 0 v) = mn 0 j A := by
  funext r c
  show up A 0 v (sk 0 r) (sk j c) = A (sk 0 r) (sk j c)
  rw [up_ne (by rw [sk_zero]; omega)]
theorem mn_up (A : Mt) (i j : Nat) (v : Nat → Int) : mn 0 j (up A (i + 1) v) = up (mn 0 j A) i fun c => v (sk j c) := by
  funext r c
  show up A (i + 1) v (sk 0 r) (sk j c) = up (mn 0 j A) i (fun c => v (sk j c)) r c
  rw [sk_zero]
  unfold up
  by_cases h : r = i
  · rw [if_pos (by omega), if_pos h]
  · rw [if_neg (by omega), if_neg h]
    show _ = A (sk 0 r) (sk j c)
    rw [sk_zero]
theorem det_lin : ∀ (n : Nat) (A : Mt) (i : Nat) (v w : Nat → Int) (a b : Int), i < n → det n (up A i fun c => a * v c + b * w c) = a * det n (up A i v) + b * det n (up A i w)
  | 0, _, _, _, _, _, _, h => by omega
  | n + 1, A, i, v, w, a, b, h => by
    show S (n + 1) (fun j => sg j * up A i (fun c => a * v c + b * w c) 0 j * det n (mn 0 j (up A i fun c => a * v c + b * w c))) = a * S (n + 1) (fun j => sg j * up A i v 0 j * det n (mn 0 j (up A i v))) + b * S (n + 1) (fun j => sg j * up A i w 0 j * det n (mn 0 j (up A i w)))
    rw [← S_mul, ← S_mul, ← S_add]
    refine S_congr _ fun j hj => ?_
    cases i with
    | zero =>
      rw [mn_up0, mn_up0, mn_up0, up_at, up_at, up_at]
      grind
    | succ i =>
      rw [mn_up, mn_up, mn_up, up_ne (by omega), up_ne (by omega), up_ne (by omega), det_lin n _ i _ _ a b (by omega)]
      grind
theorem det_adj : ∀ (n : Nat) (A : Mt) (i : Nat), i + 1 < n → (∀ c, c < n → A i c = A (i + 1) c) → det n A = 0
  | 0, _, _, h, _ => by omega
  | 1, _, _, h, _ => by omega
  | n + 2, A, i, h, e => by
    rw [det_detC]
    show S (n + 2) (fun r => sg r * A r 0 * detC (n + 1) (mn r 0 A)) = 0
    rw [S_two (i := i) (n + 2) h fun r hr a b => ?_]
    · have m : detC (n + 1) (mn i 0 A) = detC (n + 1) (mn (i + 1) 0 A) := by
        rw [← det_detC, ← det_detC]
        refine det_congr _ fun r c hr hc => ?_
        show A (sk i r) (sk 0 c) = A (sk (i + 1) r) (sk 0 c)
        by_cases z : r = i
        · subst z
          have e1 : sk r r = r + 1 := by simp [sk]
          have e2 : sk (r + 1) r = r := by simp [sk]
          rw [e1, e2]
          exact (e _ (sk_lt hc)).symm
        · have : sk i r = sk (i + 1) r := by
            unfold sk
            split <;> split <;> omega
          rw [this]
      rw [m, sg_succ, e 0 (by omega)]
      grind
    · rw [← det_detC]
      rcases Nat.lt_or_ge r i with l | l
      · rw [det_adj (n + 1) (mn r 0 A) (i - 1) (by omega) fun c hc => ?_]
        · omega
        · show A (sk r (i - 1)) _ = A (sk r (i - 1 + 1)) _
          have e1 : sk r (i - 1) = i := by
            unfold sk
            split <;> omega
          have e2 : sk r (i - 1 + 1) = i + 1 := by
            unfold sk
            split <;> omega
          rw [e1, e2]
          exact e _ (sk_lt hc)
      · rw [det_adj (n + 1) (mn r 0 A) i (by omega) fun c hc => ?_]
        · omega
        · show A (sk r i) _ = A (sk r (i + 1)) _
          have e1 : sk r i = i := by
            unfold sk
            split <;> omega
          have e2 : sk r (i + 1) = i + 1 := by
            unfold sk
            split <;> omega
          rw [e1, e2]
          exact e _ (sk_lt hc)
/-- linear in each row, 0 where two are the same -/
structure Alt (n : Nat) (D : Mt → Int) : Prop where
  cong : ∀ A B : Mt, (∀ r c, r < n → c < n → A r c = B r c) → D A = D B
  lin : ∀ (A : Mt) (i : Nat) (v w : Nat → Int) (a b : Int), i < n → D (up A i fun c => a * v c + b * w c) = a * D (up A i v) + b * D (up A i w)
  adj : ∀ (A : Mt) (i : Nat), i + 1 < n → (∀ c, c < n → A i c = A (i + 1) c) → D A = 0
theorem alt_det (n : Nat) : Alt n (det n) := ⟨fun A B h => det_congr n h, det_lin n, det_adj n⟩
namespace Alt
variable {n : Nat} {D : Mt → Int}
theorem plus (h : Alt n D) (A : Mt) {i : Nat} (v w : Nat → Int) (hi : i < n) : D (up A i fun c => v c + w c) = D (up A i v) + D (up A i w) := by
  have e := h.lin A i v w 1 1 hi
  simp only [Int.one_mul] at e
  exact e
/-- rows i and i + 1 the other way round -/
theorem flip (h : Alt n D) (A : Mt) {i : Nat} (hi : i + 1 < n) : D (up (up A i (A (i + 1))) (i + 1) (A i)) = - D A := by
  have z : ∀ v w : Nat → Int, D (up (up A i v) (i + 1) w) + D (up (up A i w) (i + 1) v) = 0 := fun v w => by
    have z0 : ∀ u : Nat → Int, D (up (up A i u) (i + 1) u) = 0 := fun u => h.adj _ i hi fun c hc => by rw [up_at, up_ne (by omega), up_at]
    have z1 := z0 fun c => v c + w c
    have a1 := h.plus (up A i fun c => v c + w c) v w hi
    have a2 : ∀ u : Nat → Int, D (up (up A i fun c => v c + w c) (i + 1) u) = D (up (up A i v) (i + 1) u) + D (up (up A i w) (i + 1) u) := fun u => by
      rw [up_comm (by omega), h.plus _ v w (by omega), up_comm (i := i + 1) (v := u) (w := v) (by omega), up_comm (i := i + 1) (v := u) (w := w) (by omega)]
    rw [a1, a2 v, a2 w, z0 v, z0 w] at z1
    omega
  have e := z (A (i + 1)) (A i)
  have s : up (up A i (A i)) (i + 1) (A (i + 1)) = A := by rw [up_same, up_same]
  rw [s] at e
  omega
end Alt
end Vd
namespace Vd
namespace Alt
variable {n : Nat} {D : Mt → Int}
/-- two rows that are the same -/
theorem same (h : Alt n D) : ∀ (d : Nat) (A : Mt) (i : Nat), i + d + 1 < n → (∀ c, c < n → A i c = A (i + d + 1) c) → D A = 0
  | 0, A, i, hi, e => h.adj A i hi e
  | d + 1, A, i, hi, e => by
    have f := h.flip A (i := i + d + 1) (by omega)
    have z := same h d (up (up A (i + d + 1) (A (i + d + 1 + 1))) (i + d + 1 + 1) (A (i + d + 1))) i (by omega) fun c hc => by
      rw [up_ne (by omega), up_ne (by omega), up_ne (by omega), up_at]
      exact e c hc
    rw [z] at f
    omega
theorem eq_rows (h : Alt n D) (A : Mt) {i j : Nat} (hi : i < n) (hj : j < n) (ne : i ≠ j) (e : ∀ c, c < n → A i c = A j c) : D A = 0 := by
  rcases Nat.lt_or_gt_of_ne ne with l | l
  · have := h.same (j - i - 1) A i (by omega) fun c hc => by
      rw [show i + (j - i - 1) + 1 = j by omega]
      exact e c hc
    exact this
  · have := h.same (i - j - 1) A j (by omega) fun c hc => by
      rw [show j + (i - j - 1) + 1 = i by omega]
      exact (e c hc).symm
    exact this
/-- a multiple of another row added -/
theorem add (h : Alt n D) (A : Mt) {i j : Nat} (hi : i < n) (hj : j < n) (ne : i ≠ j) (t : Int) : D (up A i fun c => A i c + t * A j c) = D A := by
  have e := h.lin A i (A i) (A j) 1 t hi
  simp only [Int.one_mul] at e
  rw [e, up_same, h.eq_rows (up A i (A j)) hi hj ne fun c _ => by rw [up_at, up_ne (Ne.symm ne)]]
  omega
theorem scale (h : Alt n D) (A : Mt) {i : Nat} (hi : i < n) (v : Nat → Int) (t : Int) : D (up A i fun c => t * v c) = t * D (up A i v) := by
  have e := h.lin A i v v t 0 hi
  rw [Int.zero_mul, Int.add_zero] at e
  rw [← e]
  congr 2
  funext c
  omega
theorem zero (h : Alt n D) (A : Mt) {i : Nat} (hi : i < n) (z : ∀ c, c < n → A i c = 0) : D A = 0 := by
  have e := h.scale A hi (A i) 0
  rw [Int.zero_mul] at e
  rw [← e]
  refine h.cong _ _ fun r c hr hc => ?_
  unfold up
  split
  · next q =>
      show A r c = 0 * A i c
      rw [q, z c hc]
      rfl
  · rfl
theorem neg (h : Alt n D) (A : Mt) {i j : Nat} (hi : i < n) (hj : j < n) (ne : i ≠ j) (v w : Nat → Int) : D (up (up A i v) j w) = - D (up (up A i w) j v) := by
  have z0 : ∀ u : Nat → Int, D (up (up A i u) j u) = 0 := fun u => h.eq_rows _ hi hj ne fun c hc => by rw [up_at, up_ne ne, up_at]
  have z1 := z0 fun c => v c + w c
  have a1 := h.plus (up A i fun c => v c + w c) v w hj
  have a2 : ∀ u : Nat → Int, D (up (up A i fun c => v c + w c) j u) = D (up (up A i v) j u) + D (up (up A i w) j u) := fun u => by
    rw [up_comm ne, h.plus _ v w hi, up_comm (i := j) (v := u) (w := v) (Ne.symm ne), up_comm (i := j) (v := u) (w := w) (Ne.symm ne)]
  rw [a1, a2 v, a2 w, z0 v, z0 w] at z1
  omega
/-- a row that is a sum -/
theorem sum (h : Alt n D) (A : Mt) {i : Nat} (hi : i < n) (f : Nat → Nat → Int) (a : Nat → Int) : ∀ m, D (up A i fun c => S m fun j => a j * f j c) = S m fun j => a j * D (up A i (f j))
  | 0 => h.zero _ hi fun c _ => by rw [up_at]; rfl
  | m + 1 => by
    have e := h.lin A i (fun c => S m fun j => a j * f j c) (f m) 1 (a m) hi
    simp only [Int.one_mul] at e
    show D (up A i fun c => (S m fun j => a j * f j c) + a m * f m c) = (S m fun j => a j * D (up A i (f j))) + a m * D (up A i (f m))
    rw [e, sum h A hi f a m]
end Alt
/-- the unit table -/
def one : Mt := fun r c => if r = c then 1 else 0
/-- row 0 is unit row j, behind it the rows of B with 0 at place j -/
def bor (j : Nat) (B : Mt) : Mt := fun r c => if r = 0 then one j c else if c = j then 0 else B (r - 1) (if c < j then c else c - 1)
theorem bor_up (j : Nat) (B : Mt) (i : Nat) (v : Nat → Int) : bor j (up B i v) = up (bor j B) (i + 1) fun c => if c = j then 0 else v (if c < j then c else c - 1) := by
  funext r c
  simp only [bor, up]
  by_cases h : r = 0
  · rw [if_pos h, if_neg (by omega), if_pos h]
  · rw [if_neg h]
    by_cases e : r = i + 1
    · rw [if_pos e, if_pos (show r - 1 = i by omega)]
    · rw [if_neg e, if_neg (show ¬ r - 1 = i by omega), if_neg h]
theorem alt_bor {n : Nat} {D : Mt → Int} (h : Alt (n + 1) D) (j : Nat) (hj : j < n + 1) : Alt n fun B => D (bor j B) := by
  refine ⟨fun A B e => h.cong _ _ fun r c hr hc => ?_, fun A i v w a b hi => ?_, fun A i hi e => ?_⟩
  · unfold bor
    split
    · rfl
    · split
      · rfl
      · exact e _ _ (by omega) (by split <;> omega)
  · show D (bor j (up A i _)) = _ * D (bor j (up A i v)) + _ * D (bor j (up A i w))
    rw [bor_up, bor_up, bor_up, ← h.lin _ _ _ _ a b (by omega)]
    congr 2
    funext c
    split
    · omega
    · rfl
  · refine h.adj _ (i + 1) (by omega) fun c hc => ?_
    simp only [bor]
    rw [if_neg (show ¬ i + 1 = 0 by omega), if_neg (show ¬ i + 1 + 1 = 0 by omega)]
    by_cases b : c = j
    · rw [if_pos b, if_pos b]
    · rw [if_neg b, if_neg b]
      exact e _ (by split <;> omega)
/-- unit row j at place k, the other unit rows in their sequence -/
def idx (j k r : Nat) : Nat := if r < k then r else if r = k then j else if r ≤ j then r - 1 else r
def mov (j k : Nat) : Mt := fun r c => one (idx j k r) c
theorem mov_step {n : Nat} {D : Mt → Int} (h : Alt n D) {j k : Nat} (hk : k < j) (hj : j < n) : D (mov j k) = - D (mov j (k + 1)) := by
  have e := h.neg (mov j k) (i := k) (j := k + 1) (by omega) (by omega) (by omega) (one j) (one k)
  have e1 : up (up (mov j k) k (one j)) (k + 1) (one k) = mov j k := by
    funext r c
    simp only [up, mov]
    by_cases a : r = k + 1
    · rw [if_pos a]
      congr 1
      simp only [idx]
      rw [if_neg (by omega), if_neg (by omega), if_pos (by omega)]
      omega
    · rw [if_neg a]
      by_cases b : r = k
      · rw [if_pos b]
        congr 1
        simp only [idx]
        rw [if_neg (by omega), if_pos b]
      · rw [if_neg b]
  have e2 : up (up (mov j k) k (one k)) (k + 1) (one j) = mov j (k + 1) := by
    funext r c
    simp only [up, mov]
    by_cases a : r = k + 1
    · rw [if_pos a]
      congr 1
      simp only [idx]
      rw [if_neg (by omega), if_pos a]
    · rw [if_neg a]
      by_cases b : r = k
      · rw [if_pos b]
        congr 1
        simp only [idx]
        rw [if_pos (by omega)]
        exact b.symm
      · rw [if_neg b]
        congr 1
        simp only [idx]
        by_cases l : r < k
        · rw [if_pos l, if_pos (by omega)]
        · rw [if_neg l, if_neg b, if_neg (show ¬ r < k + 1 by omega), if_neg a]
  rw [e1, e2] at e
  exact e
theorem mov_all {n : Nat} {D : Mt → Int} (h : Alt n D) {j : Nat} (hj : j < n) : ∀ d k, k + d = j → D (mov j k) = sg d * D one
  | 0, k, e => by
    have : mov j k = one := by
      funext r c
      simp only [mov]
      congr 1
      simp only [idx]
      split
      · rfl
      · split
        · omega
        · rw [if_neg (by omega)]
    rw [this, sg_zero]
    omega
  | d + 1, k, e => by
    rw [mov_step h (by omega) hj, mov_all h hj d (k + 1) (by omega), sg_succ]
    grind
theorem bor_one {n : Nat} {D : Mt → Int} (h : Alt (n + 1) D) {j : Nat} (hj : j < n + 1) : D (bor j one) = sg j * D one := by
  rw [← mov_all h hj j 0 (by omega)]
  refine h.cong _ _ fun r c hr hc => ?_
  show bor j one r c = one (idx j 0 r) c
  by_cases a : r = 0
  · have e1 : idx j 0 r = j := by simp [idx, a]
    rw [e1]
    simp [bor, a]
  · have e1 : idx j 0 r = if r ≤ j then r - 1 else r := by simp [idx, a]
    rw [e1]
    simp only [bor]
    rw [if_neg a]
    by_cases b : c = j
    · rw [if_pos b]
      simp only [one]
      split
      · rw [if_neg (by omega)]
      · rw [if_neg (by omega)]
    · rw [if_neg b]
      simp only [one]
      split <;> split <;> split <;> first | rfl | omega
/-- the first row a unit row: what is left counts alone -/
theorem bor_mn {n : Nat} {D : Mt → Int} (h : Alt (n + 1) D) {j : Nat} (hj : j < n + 1) (A : Mt) : D (up A 0 (one j)) = D (bor j (mn 0 j A)) := by
  have cl : ∀ m, m ≤ n → D (fun r c => if 1 ≤ r ∧ r ≤ m ∧ c = j then 0 else up A 0 (one j) r c) = D (up A 0 (one j)) := fun m => by
    induction m with
    | zero =>
      intro _
      refine h.cong _ _ fun r c hr hc => ?_
      rw [if_neg (by omega)]
    | succ m ih =>
      intro hm
      rw [← ih (by omega)]
      generalize hX : (fun r c => if 1 ≤ r ∧ r ≤ m ∧ c = j then 0 else up A 0 (one j) r c) = X
      rw [← h.add X (i := m + 1) (j := 0) (by omega) (by omega) (by omega) (- A (m + 1) j)]
      refine h.cong _ _ fun r c hr hc => ?_
      have x0 : X 0 c = one j c := by
        rw [← hX]
        show (if 1 ≤ 0 ∧ 0 ≤ m ∧ c = j then 0 else up A 0 (one j) 0 c) = one j c
        rw [if_neg (by omega), up_at]
      have xr : ∀ r, X r c = if 1 ≤ r ∧ r ≤ m ∧ c = j then 0 else up A 0 (one j) r c := fun r => by rw [← hX]
      by_cases e : r = m + 1
      · rw [e, up_at]
        have xm : X (m + 1) c = A (m + 1) c := by rw [xr (m + 1), if_neg (by omega), up_ne (by omega)]
        show (if 1 ≤ m + 1 ∧ m + 1 ≤ m + 1 ∧ c = j then 0 else up A 0 (one j) (m + 1) c) = X (m + 1) c + - A (m + 1) j * X 0 c
        rw [x0, xm, up_ne (show m + 1 ≠ 0 by omega)]
        by_cases b : c = j
        · rw [if_pos ⟨by omega, by omega, b⟩, b]
          have o : one j j = 1 := by simp [one]
          rw [o]
          omega
        · rw [if_neg (fun z => b z.2.2)]
          simp only [one]
          rw [if_neg (Ne.symm b)]
          omega
      · rw [up_ne e, xr r]
        by_cases b : c = j
        · by_cases l : 1 ≤ r ∧ r ≤ m
          · rw [if_pos ⟨l.1, by omega, b⟩, if_pos ⟨l.1, l.2, b⟩]
          · rw [if_neg (by omega), if_neg (by omega)]
        · rw [if_neg (by omega), if_neg (by omega)]
  rw [← cl n (Nat.le_refl _)]
  refine h.cong _ _ fun r c hr hc => ?_
  simp only [bor, mn]
  by_cases a : r = 0
  · rw [if_neg (by omega), if_pos a, a, up_at]
  · rw [if_neg a, up_ne a]
    by_cases b : c = j
    · rw [if_pos ⟨by omega, by omega, b⟩, if_pos b]
    · rw [if_neg (by omega), if_neg b, sk_zero]
      congr 1
      · omega
      · unfold sk
        by_cases l : c < j
        · rw [if_pos l, if_pos l]
        · rw [if_neg l, if_neg (by omega)]
          omega
/-- there is but one -/
theorem uniq : ∀ (n : Nat) (D : Mt → Int), Alt n D → ∀ A, D A = D one * det n A
  | 0, D, h, A => by
    rw [h.cong A one fun r c hr _ => by omega]
    show _ = _ * 1
    omega
  | n + 1, D, h, A => by
    have e0 : D A = D (up A 0 fun c => S (n + 1) fun j => A 0 j * one j c) := h.cong _ _ fun r c hr hc => by
      by_cases a : r = 0
      · rw [a, up_at]
        rw [S_one (i := c) (n + 1) hc fun j hj ne => by simp [one, ne]]
        simp [one]
      · rw [up_ne a]
    rw [e0, h.sum A (by omega) one (A 0)]
    show _ = D one * S (n + 1) fun j => sg j * A 0 j * det n (mn 0 j A)
    rw [← S_mul]
    refine S_congr _ fun j hj => ?_
    have u := uniq n (fun B => D (bor j B)) (alt_bor h j hj) (mn 0 j A)
    rw [bor_mn h hj, u, bor_one h hj]
    grind
/-- of a product -/
def mul (n : Nat) (A B : Mt) : Mt := fun r c => S n fun j => A r j * B j c
theorem mul_up (n : Nat) (A B : Mt) (i : Nat) (v : Nat → Int) : mul n (up A i v) B = up (mul n A B) i fun c => S n fun j => v j * B j c := by
  funext r c
  simp only [mul, up]
  split <;> rfl
theorem alt_mul (n : Nat) (B : Mt) : Alt n fun A => det n (mul n A B) := by
  have h := alt_det n
  refine ⟨fun A A' e => det_congr n fun r c hr hc => S_congr _ fun j hj => by rw [e r j hr hj], fun A i v w a b hi => ?_, fun A i hi e => ?_⟩
  · show det n (mul n (up A i _) B) = _ * det n (mul n (up A i v) B) + _ * det n (mul n (up A i w) B)
    rw [mul_up, mul_up, mul_up, ← h.lin _ _ _ _ a b hi]
    congr 2
    funext c
    rw [← S_mul, ← S_mul, ← S_add]
    exact S_congr _ fun j hj => by grind
  · exact h.adj _ i hi fun c hc => S_congr _ fun j hj => by rw [e j hj]
theorem mul_one (n : Nat) (B : Mt) {r c : Nat} (hr : r < n) : mul n one B r c = B r c := by
  show S n (fun j => one r j * B j c) = B r c
  rw [S_one (i := r) n hr fun j hj ne => by simp [one, Ne.symm ne]]
  simp [one]
theorem det_mul (n : Nat) (A B : Mt) : det n (mul n A B) = det n A * det n B := by
  have u := uniq n _ (alt_mul n B) A
  have e : det n (mul n one B) = det n B := det_congr n fun r c hr hc => mul_one n B hr
  rw [u, e, Int.mul_comm]
theorem det_one : ∀ n, det n one = 1
  | 0 => rfl
  | n + 1 => by
    show S (n + 1) (fun j => sg j * one 0 j * det n (mn 0 j one)) = 1
    rw [S_one (i := 0) (n + 1) (by omega) fun j hj ne => by simp [one, Ne.symm ne]]
    have e : det n (mn 0 0 one) = 1 := by
      rw [← det_one n]
      refine det_congr n fun r c _ _ => ?_
      show one (sk 0 r) (sk 0 c) = one r c
      simp [sk_zero, one]
    rw [e]
    simp [one, sg_zero]
/-- turned round in rows and columns -/
def rev (n : Nat) (A : Mt) : Mt := fun r c => A (n - 1 - r) (n - 1 - c)
theorem rev_up {n : Nat} (A : Mt) {i : Nat} (hi : i < n) (v : Nat → Int) : ∀ r c, r < n → rev n (up A i v) r c = up (rev n A) (n - 1 - i) (fun c => v (n - 1 - c)) r c := fun r c hr => by
  simp only [rev, up]
  by_cases a : r = n - 1 - i
  · rw [if_pos a, if_pos (by omega)]
  · rw [if_neg a, if_neg (by omega)]
theorem det_rev (n : Nat) (A : Mt) : det n (rev n A) = det n A := by
  have h := alt_det n
  have al : Alt n fun A => det n (rev n A) := by
    refine ⟨fun A A' e => det_congr n fun r c hr hc => e _ _ (by omega) (by omega), fun A i v w a b hi => ?_, fun A i hi e => ?_⟩
    · show det n (rev n (up A i _)) = _ * det n (rev n (up A i v)) + _ * det n (rev n (up A i w))
      rw [det_congr n fun r c hr _ => rev_up A hi _ r c hr, det_congr n (A := rev n (up A i v)) fun r c hr _ => rev_up A hi _ r c hr, det_congr n (A := rev n (up A i w)) fun r c hr _ => rev_up A hi _ r c hr]
      exact h.lin _ _ _ _ a b (by omega)
    · refine h.eq_rows _ (i := n - 1 - i) (j := n - 1 - (i + 1)) (by omega) (by omega) (by omega) fun c hc => ?_
      show A (n - 1 - (n - 1 - i)) _ = A (n - 1 - (n - 1 - (i + 1))) _
      rw [show n - 1 - (n - 1 - i) = i by omega, show n - 1 - (n - 1 - (i + 1)) = i + 1 by omega]
      exact e _ (by omega)
  have u := uniq n _ al A
  have e : det n (rev n one) = 1 := by
    rw [← det_one n]
    refine det_congr n fun r c hr hc => ?_
    simp only [rev, one]
    by_cases a : r = c
    · rw [if_pos a, if_pos (by omega)]
    · rw [if_neg a, if_neg (by omega)]
  rw [u, e, Int.one_mul]
end Vd
namespace Vd
theorem S_sub1 {n : Nat} {f : Nat → Int} (h : ∀ j, j < n → f j = 0) : S n f = 0 := by
  rw [S_congr (g := fun _ => 0) n h, S_zero]
theorem Alt.addS {n : Nat} {D : Mt → Int} (h : Alt n D) (A : Mt) {i : Nat} (hi : i < n) (v : Nat → Int) (m : Nat) (f : Nat → Nat) (tt : Nat → Int) (hf : ∀ a, a < m → f a < n ∧ f a ≠ i) : D (up A i fun c => v c + S m fun a => tt a * A (f a) c) = D (up A i v) := by
  rw [h.plus A v (fun c => S m fun a => tt a * A (f a) c) hi, h.sum A hi (fun a => A (f a)) tt m, S_sub1 fun a ha => ?_]
  · omega
  · rw [h.eq_rows (up A i (A (f a))) hi (hf a ha).1 (Ne.symm (hf a ha).2) fun c hc => by rw [up_at, up_ne (hf a ha).2]]
    omega
def cns (x : Nat) (f : Nat → Nat) : Nat → Nat := fun r => if r = 0 then x else f (r - 1)
theorem cns_zero (x : Nat) (f : Nat → Nat) : cns x f 0 = x := rfl
theorem cns_succ (x : Nat) (f : Nat → Nat) (r : Nat) : cns x f (r + 1) = f r := rfl
/-- the part of rows P and columns G -/
def dl (A : Mt) (P G : Nat → Nat) (t : Nat) : Int := det t fun r s => A (P r) (G s)
/-- an entry after t steps -/
def ent (A : Mt) (P G : Nat → Nat) (t i c : Nat) : Int := dl A (cns i P) (cns c G) (t + 1)
section
variable {A : Mt} {P G : Nat → Nat} {t : Nat}
theorem ent_rows (i : Nat) : ∃ L : Nat → Int, ∀ c, ent A P G t i c = dl A P G t * A i c + S t fun a => L a * A (P a) c := by
  refine ⟨fun a => sg (a + 1) * detC t (fun r s => A (cns i P (sk (a + 1) r)) (G s)), fun c => ?_⟩
  show det (t + 1) (fun r s => A (cns i P r) (cns c G s)) = _
  rw [det_detC]
  show S (t + 1) (fun r => sg r * A (cns i P r) c * detC t (mn r 0 fun r s => A (cns i P r) (cns c G s))) = _
  rw [S_head]
  congr 1
  · show sg 0 * A i c * detC t (fun r s => A (cns i P (sk 0 r)) (cns c G (sk 0 s))) = _
    simp only [sk_zero, cns_succ, sg_zero]
    rw [← det_detC]
    show 1 * A i c * dl A P G t = _
    grind
  · refine S_congr _ fun a ha => ?_
    show sg (a + 1) * A (P a) c * detC t (fun r s => A (cns i P (sk (a + 1) r)) (cns c G (sk 0 s))) = _
    simp only [sk_zero, cns_succ]
    grind
theorem ent_cols (c : Nat) : ∃ R : Nat → Int, ∀ i, ent A P G t i c = dl A P G t * A i c + S t fun b => R b * A i (G b) := by
  refine ⟨fun b => sg (b + 1) * det t (fun r s => A (P r) (cns c G (sk (b + 1) s))), fun i => ?_⟩
  show S (t + 1) (fun s => sg s * A i (cns c G s) * det t (mn 0 s fun r s => A (cns i P r) (cns c G s))) = _
  rw [S_head]
  congr 1
  · show sg 0 * A i c * det t (fun r s => A (cns i P (sk 0 r)) (cns c G (sk 0 s))) = _
    simp only [sk_zero, cns_succ, sg_zero]
    show 1 * A i c * dl A P G t = _
    grind
  · refine S_congr _ fun b hb => ?_
    show sg (b + 1) * A i (G b) * det t (fun r s => A (cns i P (sk 0 r)) (cns c G (sk (b + 1) s))) = _
    simp only [sk_zero, cns_succ]
    grind
theorem ent_col0 {b : Nat} (hb : b < t) (i : Nat) : ent A P G t i (G b) = 0 := by
  show det (t + 1) (fun r s => A (cns i P r) (cns (G b) G s)) = 0
  rw [← det_tr]
  exact (alt_det (t + 1)).eq_rows _ (i := 0) (j := b + 1) (by omega) (by omega) (by omega) fun c _ => rfl
theorem ent_row0 {a : Nat} (ha : a < t) (c : Nat) : ent A P G t (P a) c = 0 := by
  show det (t + 1) (fun r s => A (cns (P a) P r) (cns c G s)) = 0
  exact (alt_det (t + 1)).eq_rows _ (i := 0) (j := a + 1) (by omega) (by omega) (by omega) fun c _ => rfl
/-- one step divides without a rest -/
theorem step_eq (hd : dl A P G t ≠ 0) (i c p g : Nat) : dl A P G t * ent A (cns p P) (cns g G) (t + 1) i c = ent A P G t p g * ent A P G t i c - ent A P G t i g * ent A P G t p c := by
  have h := alt_det (t + 2)
  obtain ⟨M, hM⟩ : ∃ M : Mt, M = fun r s => A (cns i (cns p P) r) (cns c (cns g G) s) := ⟨_, rfl⟩
  obtain ⟨col, hcol⟩ : ∃ col, col = cns c (cns g G) := ⟨_, rfl⟩
  obtain ⟨L1, h1⟩ := ent_rows (A := A) (P := P) (G := G) (t := t) i
  obtain ⟨L2, h2⟩ := ent_rows (A := A) (P := P) (G := G) (t := t) p
  have m0 : ∀ s, M 0 s = A i (col s) := fun s => by rw [hM, hcol]; rfl
  have m1 : ∀ s, M 1 s = A p (col s) := fun s => by rw [hM, hcol]; rfl
  have m2 : ∀ a s, M (a + 2) s = A (P a) (col s) := fun a s => by rw [hM, hcol]; rfl
  have eM : ent A (cns p P) (cns g G) (t + 1) i c = det (t + 2) M := by rw [hM]; rfl
  obtain ⟨d, ed⟩ : ∃ d, d = dl A P G t := ⟨_, rfl⟩
  rw [← ed] at hd h1 h2 ⊢
  have x1 : det (t + 2) (up M 0 fun s => ent A P G t i (col s)) = d * det (t + 2) M := by
    have e : (fun s => ent A P G t i (col s)) = fun s => d * M 0 s + S t fun a => L1 a * M (a + 2) s := by
      funext s
      rw [h1, m0]
      congr 1
      exact S_congr _ fun a _ => by rw [m2]
    rw [e, h.addS M (by omega) (fun s => d * M 0 s) t (fun a => a + 2) L1 fun a ha => ⟨by omega, by omega⟩, h.scale M (by omega) (M 0) d, up_same]
  obtain ⟨X, hX⟩ : ∃ X, X = up M 0 fun s => ent A P G t i (col s) := ⟨_, rfl⟩
  have xr : ∀ r, X (r + 1) = M (r + 1) := fun r => by rw [hX, up_ne (by omega)]
  have x2 : det (t + 2) (up X 1 fun s => ent A P G t p (col s)) = d * (d * det (t + 2) M) := by
    have e : (fun s => ent A P G t p (col s)) = fun s => d * X 1 s + S t fun a => L2 a * X (a + 2) s := by
      funext s
      rw [h2, xr 0, m1]
      congr 1
      exact S_congr _ fun a _ => by rw [xr (a + 1), m2]
    rw [e, h.addS X (by omega) (fun s => d * X 1 s) t (fun a => a + 2) L2 fun a ha => ⟨by omega, by omega⟩, h.scale X (by omega) (X 1) d, up_same, hX, x1]
  obtain ⟨Y, hY⟩ : ∃ Y, Y = up X 1 fun s => ent A P G t p (col s) := ⟨_, rfl⟩
  have y0 : ∀ s, Y 0 s = ent A P G t i (col s) := fun s => by rw [hY, up_ne (by omega), hX, up_at]
  have y1 : ∀ s, Y 1 s = ent A P G t p (col s) := fun s => by rw [hY, up_at]
  have y2 : ∀ a s, Y (a + 2) s = A (P a) (col s) := fun a s => by rw [hY, up_ne (by omega), xr (a + 1), m2]
  have c0 : col 0 = c := by rw [hcol]; rfl
  have c1 : col 1 = g := by rw [hcol]; rfl
  have c2 : ∀ b, col (b + 2) = G b := fun b => by rw [hcol]; rfl
  have k0 : det (t + 1) (mn 0 0 Y) = ent A P G t p g * d := by
    show S (t + 1) (fun j => sg j * Y (sk 0 0) (sk 0 j) * det t (mn 0 j (mn 0 0 Y))) = _
    rw [S_one (i := 0) (t + 1) (by omega) fun j hj ne => ?_]
    · rw [sk_zero, y1, c1, sg_zero]
      have e : det t (mn 0 0 (mn 0 0 Y)) = d := by
        rw [ed]
        refine det_congr t fun r s _ _ => ?_
        show Y (sk 0 (sk 0 r)) (sk 0 (sk 0 s)) = _
        simp only [sk_zero]
        rw [y2, c2]
      rw [e]
      grind
    · obtain ⟨b, rfl⟩ : ∃ b, j = b + 1 := ⟨j - 1, by omega⟩
      rw [sk_zero, sk_zero, y1, c2, ent_col0 (by omega)]
      grind
  have k1 : det (t + 1) (mn 0 1 Y) = ent A P G t p c * d := by
    show S (t + 1) (fun j => sg j * Y (sk 0 0) (sk 1 j) * det t (mn 0 j (mn 0 1 Y))) = _
    rw [S_one (i := 0) (t + 1) (by omega) fun j hj ne => ?_]
    · rw [sk_zero, sk_succ0, y1, c0, sg_zero]
      have e : det t (mn 0 0 (mn 0 1 Y)) = d := by
        rw [ed]
        refine det_congr t fun r s _ _ => ?_
        show Y (sk 0 (sk 0 r)) (sk 1 (sk 0 s)) = _
        simp only [sk_zero, sk_succ]
        rw [y2, c2]
      rw [e]
      grind
    · obtain ⟨b, rfl⟩ : ∃ b, j = b + 1 := ⟨j - 1, by omega⟩
      rw [sk_zero, sk_succ, sk_zero, y1, c2, ent_col0 (by omega)]
      grind
  have x3 : det (t + 2) Y = (ent A P G t p g * ent A P G t i c - ent A P G t i g * ent A P G t p c) * d := by
    show S (t + 2) (fun j => sg j * Y 0 j * det (t + 1) (mn 0 j Y)) = _
    rw [S_two (i := 0) (t + 2) (by omega) fun j hj n0 n1 => ?_]
    · rw [k0, k1, y0, y0, c0, c1, sg_succ, sg_zero]
      grind
    · obtain ⟨b, rfl⟩ : ∃ b, j = b + 2 := ⟨j - 2, by omega⟩
      rw [y0, c2, ent_col0 (by omega)]
      grind
  rw [← hY, x3] at x2
  rw [eM]
  apply Int.eq_of_mul_eq_mul_left hd
  rw [← x2]
  exact Int.mul_comm _ _
/-- a column in which nothing is left -/
theorem none_left {n : Nat} (hd : dl A P G t ≠ 0) {c : Nat} (hc : c < n) (hG : ∀ b, b < t → G b < n ∧ G b ≠ c) (h0 : ∀ i, i < n → ent A P G t i c = 0) : det n A = 0 := by
  have h := alt_det n
  obtain ⟨R, hR⟩ := ent_cols (A := A) (P := P) (G := G) (t := t) c
  have e : dl A P G t * det n A = 0 := by
    rw [← det_tr, ← up_same (fun r c => A c r) c, ← h.scale (fun r c => A c r) hc (fun r => A r c) (dl A P G t)]
    have e2 : det n (up (fun r c => A c r) c fun r => dl A P G t * A r c) = det n (up (fun r c => A c r) c fun r => S t fun b => (- R b) * A r (G b)) := by
      refine det_congr n fun r s hr hs => ?_
      simp only [up]
      split
      · have q := hR s
        rw [h0 s hs] at q
        have m : (S t fun b => (- R b) * A s (G b)) = - S t fun b => R b * A s (G b) := by
          have := S_mul (-1) (fun b => R b * A s (G b)) t
          rw [S_congr (g := fun b => (- R b) * A s (G b)) t fun b _ => by grind] at this
          omega
        rw [m]
        omega
      · rfl
    rw [e2, h.sum (fun r c => A c r) hc (fun b r => A r (G b)) (fun b => - R b) t, S_sub1 fun b hb => ?_]
    rw [h.eq_rows (up (fun r c => A c r) c fun r => A r (G b)) hc (hG b hb).1 (Ne.symm (hG b hb).2) fun s _ => by rw [up_at, up_ne (hG b hb).2]]
    omega
  rcases Int.mul_eq_zero.mp e with z | z
  · exact absurd z hd
  · exact z
end
/-- the row at place q + k moved to place q -/
def mvd (f : Nat → Nat) (q k : Nat) : Nat → Nat := fun r => if r < q then f r else if r = q then f (q + k) else if r ≤ q + k then f (r - 1) else f r
theorem det_mvd {n : Nat} (A : Mt) (q : Nat) : ∀ (k : Nat) (f : Nat → Nat), q + k < n → det n (fun r c => A (mvd f q k r) c) = sg k * det n fun r c => A (f r) c
  | 0, f, h => by
    rw [sg_zero, Int.one_mul]
    refine det_congr n fun r c _ _ => ?_
    have : mvd f q 0 r = f r := by
      unfold mvd
      split
      · rfl
      · split
        · next e => rw [e]; rfl
        · rw [if_neg (by omega)]
    rw [this]
  | k + 1, f, h => by
    have g := det_mvd (n := n) A q k (fun r => if r = q + k then f (q + k + 1) else if r = q + k + 1 then f (q + k) else f r) (by omega)
    have e1 : det n (fun r c => A (mvd (fun r => if r = q + k then f (q + k + 1) else if r = q + k + 1 then f (q + k) else f r) q k r) c) = det n (fun r c => A (mvd f q (k + 1) r) c) := by
      refine det_congr n fun r c _ _ => ?_
      congr 1
      unfold mvd
      dsimp only
      by_cases a : r < q
      · rw [if_pos a, if_pos a, if_neg (by omega), if_neg (by omega)]
      · rw [if_neg a, if_neg a]
        by_cases b : r = q
        · rw [if_pos b, if_pos b, if_pos rfl]
          rfl
        · rw [if_neg b, if_neg b]
          by_cases l : r ≤ q + k
          · rw [if_pos l, if_neg (show ¬ r - 1 = q + k by omega), if_neg (show ¬ r - 1 = q + k + 1 by omega), if_pos (show r ≤ q + (k + 1) by omega)]
          · rw [if_neg l, if_neg (show ¬ r = q + k by omega)]
            by_cases m : r = q + k + 1
            · rw [if_pos m, if_pos (show r ≤ q + (k + 1) by omega), m]
              rfl
            · rw [if_neg m, if_neg (show ¬ r ≤ q + (k + 1) by omega)]
    have e2 : det n (fun r c => A (if r = q + k then f (q + k + 1) else if r = q + k + 1 then f (q + k) else f r) c) = - det n fun r c => A (f r) c := by
      have z := (alt_det n).flip (fun r c => A (f r) c) (i := q + k) (by omega)
      rw [← z]
      refine det_congr n fun r c _ _ => ?_
      simp only [up]
      by_cases a : r = q + k
      · rw [if_pos a, if_neg (by omega), if_pos a]
      · rw [if_neg a]
        by_cases b : r = q + k + 1
        · rw [if_pos b, if_pos b]
        · rw [if_neg b, if_neg b, if_neg a]
    rw [← e1, g, e2, sg_succ]
    grind
end Vd
namespace Vd
theorem S_abs {f : Nat → Int} {M : Nat} : ∀ n, (∀ j, j < n → (f j).natAbs ≤ M) → (S n f).natAbs ≤ n * M
  | 0, _ => by show (0 : Int).natAbs ≤ _; simp
  | n + 1, h => by
    have a := S_abs n fun j hj => h j (by omega)
    have b := h n (by omega)
    show (S n f + f n).natAbs ≤ _
    rw [Nat.succ_mul]
    omega
theorem sg_abs (j : Nat) : (sg j).natAbs = 1 := by
  unfold sg
  split <;> rfl
theorem det_abs {k : Nat} : ∀ (n : Nat) (A : Mt), n ≤ 16 → (∀ r c, (A r c).natAbs ≤ 2 ^ k) → (det n A).natAbs ≤ 2 ^ (n * (k + 4))
  | 0, A, _, _ => by
    show (1 : Int).natAbs ≤ _
    simp
  | n + 1, A, hn, h => by
    have s := S_abs (f := fun j => sg j * A 0 j * det n (mn 0 j A)) (M := 2 ^ k * 2 ^ (n * (k + 4))) (n + 1) fun j hj => by
      show (sg j * A 0 j * det n (mn 0 j A)).natAbs ≤ _
      rw [Int.natAbs_mul, Int.natAbs_mul, sg_abs, Nat.one_mul]
      exact Nat.mul_le_mul (h 0 j) (det_abs n _ (by omega) fun r c => h _ _)
    refine Nat.le_trans s ?_
    have e : 2 ^ ((n + 1) * (k + 4)) = 2 ^ 4 * (2 ^ k * 2 ^ (n * (k + 4))) := by
      rw [← Nat.pow_add, ← Nat.pow_add, Nat.succ_mul]
      congr 1
      omega
    rw [e]
    exact Nat.mul_le_mul_right _ (by omega)
/-- which row stands where -/
def arr (os : List Nat) (P : Nat → Nat) (t : Nat) : Nat → Nat := fun r => if r < t then P (t - 1 - r) else os.getD (r - t) 0
/-- what is so ahead of column j -/
structure Sw (n : Nat) (A : Mt) (j t : Nat) (os : List Nat) (P G : Nat → Nat) (sgn : Int) : Prop where
  len : os.length + t = n
  lt : ∀ i, i ∈ os → i < n
  plt : ∀ a, a < t → P a < n
  all : ∀ i, i < n → i ∈ os ∨ ∃ a, a < t ∧ P a = i
  glt : ∀ b, b < t → G b < j
  d0 : dl A P G t ≠ 0
  tj : t ≤ j
  s : sgn = 1 ∨ sgn = -1
  out : (t = j ∧ (∀ b, b < t → G b = j - 1 - b) ∧ det n A = sgn * det n fun r c => A (arr os P t r) c) ∨ (t < j ∧ det n A = 0)
theorem Sw.start (n : Nat) (A : Mt) : Sw n A 0 0 (List.range n) (fun _ => 0) (fun _ => 0) 1 := by
  refine ⟨by simp, fun i hi => List.mem_range.mp hi, fun a ha => by omega, fun i hi => .inl (List.mem_range.mpr hi), fun b hb => by omega, by show (1 : Int) ≠ 0; decide, Nat.le_refl _, .inl rfl, .inl ⟨rfl, fun b hb => by omega, ?_⟩⟩
  rw [Int.one_mul]
  refine det_congr n fun r c hr _ => ?_
  have : arr (List.range n) (fun _ => 0) 0 r = r := by
    unfold arr
    rw [if_neg (by omega), List.getD_eq_getElem?_getD, Nat.sub_zero, List.getElem?_range hr]
    rfl
  rw [this]
theorem Sw.skip {n : Nat} {A : Mt} {j t : Nat} {os : List Nat} {P G : Nat → Nat} {sgn : Int} (h : Sw n A j t os P G sgn) (hj : j < n) (z : ∀ i, i ∈ os → ent A P G t i j = 0) : Sw n A (j + 1) t os P G sgn := by
  refine ⟨h.len, h.lt, h.plt, h.all, fun b hb => Nat.lt_succ_of_lt (h.glt b hb), h.d0, Nat.le_succ_of_le h.tj, h.s, .inr ⟨Nat.lt_succ_of_le h.tj, ?_⟩⟩
  refine none_left h.d0 hj (fun b hb => ?_) fun i hi => ?_
  · have := h.glt b hb
    exact ⟨by omega, by omega⟩
  · rcases h.all i hi with m | ⟨a, ha, rfl⟩
    · exact z i m
    · exact ent_row0 ha j
theorem Sw.take {n : Nat} {A : Mt} {j t : Nat} {os : List Nat} {P G : Nat → Nat} {sgn : Int} (h : Sw n A j t os P G sgn) {k p : Nat} (hk : os[k]? = some p) (nz : ent A P G t p j ≠ 0) : Sw n A (j + 1) (t + 1) (os.eraseIdx k) (cns p P) (cns j G) (sg k * sgn) := by
  have kl : k < os.length := (List.getElem?_eq_some_iff.mp hk).1
  have pm := List.mem_of_getElem? hk
  have hl := h.len
  refine ⟨by rw [List.length_eraseIdx_of_lt kl]; omega, fun i hi => h.lt i (List.mem_of_mem_eraseIdx hi), fun a ha => ?_, fun i hi => ?_, fun b hb => ?_, nz, Nat.succ_le_succ h.tj, ?_, ?_⟩
  · cases a with
    | zero => exact h.lt p pm
    | succ a => exact h.plt a (by omega)
  · rcases h.all i hi with m | ⟨a, ha, e⟩
    · by_cases e : i = p
      · exact .inr ⟨0, by omega, e.symm⟩
      · refine .inl ?_
        obtain ⟨x, hx⟩ := List.getElem?_of_mem m
        have ne : x ≠ k := by
          rintro rfl
          exact e (Option.some.inj (hx.symm.trans hk))
        rcases Nat.lt_or_gt_of_ne ne with l | l
        · exact List.mem_of_getElem? (i := x) (by rw [List.getElem?_eraseIdx_of_lt l]; exact hx)
        · exact List.mem_of_getElem? (i := x - 1) (by rw [List.getElem?_eraseIdx_of_ge (by omega), show x - 1 + 1 = x by omega]; exact hx)
    · exact .inr ⟨a + 1, by omega, e⟩
  · cases b with
    | zero => exact Nat.lt_succ_self j
    | succ b => exact Nat.lt_succ_of_lt (h.glt b (by omega))
  · have := h.s
    unfold sg
    split <;> omega
  · rcases h.out with ⟨e, hG, hd⟩ | ⟨l, hd⟩
    · refine .inl ⟨by omega, fun b hb => ?_, ?_⟩
      · cases b with
        | zero => show j = _; omega
        | succ b =>
          show G b = _
          rw [hG b (by omega)]
          omega
      · have m := det_mvd (n := n) A t k (arr os P t) (by omega)
        have e2 : det n (fun r c => A (arr (os.eraseIdx k) (cns p P) (t + 1) r) c) = det n fun r c => A (mvd (arr os P t) t k r) c := by
          refine det_congr n fun r c hr _ => ?_
          congr 1
          unfold arr mvd
          dsimp only
          by_cases a : r < t
          · rw [if_pos (by omega), if_pos a, if_pos a]
            have : t + 1 - 1 - r = (t - 1 - r) + 1 := by omega
            rw [this]
            rfl
          · rw [if_neg a]
            by_cases b : r = t
            · rw [if_pos (by omega), if_pos b, if_neg (by omega), b]
              have : t + 1 - 1 - t = 0 := by omega
              rw [this, cns_zero, List.getD_eq_getElem?_getD, show t + k - t = k by omega, hk]
              rfl
            · rw [if_neg (show ¬ r < t + 1 by omega), if_neg b]
              by_cases l : r ≤ t + k
              · rw [if_pos l, if_neg (by omega), List.getD_eq_getElem?_getD, List.getD_eq_getElem?_getD, List.getElem?_eraseIdx_of_lt (by omega), show r - (t + 1) = r - 1 - t by omega]
              · rw [if_neg l, if_neg a, List.getD_eq_getElem?_getD, List.getD_eq_getElem?_getD, List.getElem?_eraseIdx_of_ge (by omega), show r - (t + 1) + 1 = r - t by omega]
        rw [e2, m, hd]
        have q := sg_sq k
        generalize det n (fun r c => A (arr os P t r) c) = D
        generalize sg k = g at q ⊢
        grind
    · exact .inr ⟨by omega, hd⟩
theorem Sw.done {n : Nat} {A : Mt} {t : Nat} {os : List Nat} {P G : Nat → Nat} {sgn : Int} (h : Sw n A n t os P G sgn) : det n A = if t = n then sgn * dl A P G t else 0 := by
  by_cases e : t = n
  · rw [if_pos e]
    subst e
    rcases h.out with ⟨_, hG, hd⟩ | ⟨l, _⟩
    · rw [hd]
      congr 1
      rw [← det_rev]
      refine det_congr _ fun r c hr hc => ?_
      show A (arr os P t (t - 1 - r)) (t - 1 - c) = A (P r) (G c)
      rw [hG c hc]
      congr 1
      unfold arr
      rw [if_pos (by omega), show t - 1 - (t - 1 - r) = r by omega]
    · omega
  · rw [if_neg e]
    rcases h.out with ⟨a, _⟩ | ⟨_, z⟩
    · exact absurd a e
    · exact z
theorem Sw.fdiv {n : Nat} {A : Mt} {j t : Nat} {os : List Nat} {P G : Nat → Nat} {sgn : Int} (h : Sw n A j t os P G sgn) (i c p g : Nat) : (ent A P G t p g * ent A P G t i c - ent A P G t i g * ent A P G t p c).fdiv (dl A P G t) = ent A (cns p P) (cns g G) (t + 1) i c := by
  rw [← step_eq h.d0, Int.mul_fdiv_cancel_left _ h.d0]
end Vd
namespace K16
open PySem PySem.Spec PyProof.Rows L2 Vk
abbrev s_cleared : Stmt := topS 10
theorem sc_cleared : FnScope ["row", "lead", "column", "last", "here", "factor", "a", "b"] ["row", "lead", "column", "last"] (defScope s_cleared) := ⟨rfl, rfl, rfl, by decide +kernel, rfl, by decide +kernel, by decide +kernel⟩
abbrev s_swept : Stmt := topS 11
theorem sc_swept : FnScope ["rows", "open_rows", "width", "column", "rank_so_far", "last", "sign", "places", "row", "lead", "i"] ["rows"] (defScope s_swept) := ⟨rfl, rfl, rfl, by decide +kernel, rfl, by decide +kernel, by decide +kernel⟩
def clr (xs ys : List Int) (c : Nat) (d : Int) : List Int := List.zipWith (fun a b => (ys.getD c 0 * a - xs.getD c 0 * b).fdiv d) xs ys
def spCleared : Sp := fun vs H Q _ => ∃ (r l : Addr) (xs ys : List Int) (c : Nat) (d : Int), vs = [.ref r, .ref l, .int c, .int d] ∧ H r = some (.lst (xs.map V.int)) ∧ H l = some (.lst (ys.map V.int)) ∧ xs.length = ys.length ∧ c < xs.length ∧ xs.length ≤ 100 ∧ d ≠ 0 ∧ SmZ 5000 d ∧ (∀ x ∈ xs, SmZ 5000 x) ∧ (∀ y ∈ ys, SmZ 5000 y) ∧
  ∀ p H', Same H H' → H p = none → H' p = some (.lst ((clr xs ys c d).map V.int)) → Q (.ref p) H'
theorem call_list_ofK {X : Cx} {K : PySem.W.Frag} (h : X.K = K) : CallR X (.type "list") (fun xs H Q => ∃ p ys, xs = [.ref p] ∧ (SqL K H p ys ∨ SqT K H p ys) ∧ ∀ l, H l = none → Q (.ref l) (upd H l (.lst ys))) := by
  subst h
  exact call_list_of
section
variable {P : Program} {w : World} {K : PySem.W.Frag} {mg : Str → Option Value} {base : Heap}
theorem ok_cleared {f : Addr} {fd : FuncData} (F : Fun K "_cleared" "_cleared" s_cleared f fd) (m_zip : mg "zip" = none) : FnOk P w K mg base CX0 1 f fd ["row", "lead", "column", "last"] spCleared := by
  have sc := sc_cleared
  refine F.ok sc (fun vs H Q E h => ?_) (fun cdv A outer s H vs Q E hr h => ?_)
  · obtain ⟨r, l, xs, ys, c, d, rfl, _⟩ := h
    rfl
  · obtain ⟨r, l, xs, ys, c, d, rfl, hx, hy, hl, hc, l100, d0, zd, zx, zy, q⟩ := h
    refine ⟨_, (pss_cons (ps_asg (pe_tup (pa_cons (pe_ix ix_list (pv 1) (pv 2) (fun _ _ => rfl)) (pa_cons (pe_ix ix_list (pv 0) (pv 2) (fun _ _ => rfl)) pa_nil))) (pg_tup (n := 2) (by rfl) (pgs_cons (pg_name (i := 4) sc.nd rfl (Or.inr rfl)) (pgs_cons (pg_name (i := 5) sc.nd rfl (Or.inr rfl)) pgs_nil))))
    (pss_one (ps_ret (pe_lc (own := [("a", 6), ("b", 7)]) (g := gTup K 2 (gCons (gName 6) (gCons (gName 7) gNil))) (by rfl) sc.nd (pi_zipK (by rfl) m_zip (pa_cons (pv 0) (pa_cons (pv 1) pa_nil))) (blkOk_by (own := [("a", 6), ("b", 7)]) (N := ["row", "lead", "column", "last", "here", "factor", "a", "b"]) (sc := defScope s_cleared) (by decide +kernel)) (fun _ _ _ _ _ => pg_tup (n := 2) (by rfl) (pgs_cons (pg_name (i := 6) sc.nd rfl (Or.inl rfl)) (pgs_cons (pg_name (i := 7) sc.nd rfl (Or.inl rfl)) pgs_nil))) (fun _ _ _ _ _ => pts_nil) (fun _ _ _ _ _ => (pe_op op_fdivX (pe_op op_sub (pe_op op_mulW (pv 4) (pv 6)) (pe_op op_mulW (pv 5) (pv 7))) (pv 3))))))), ?_⟩
    have gx := Vk.getD_at (xs := xs) (i := c) hc
    have gy := Vk.getD_at (xs := ys) (i := c) (by omega)
    have zxc := zx _ (List.mem_of_getElem? gx)
    have zyc := zy _ (List.mem_of_getElem? gy)
    refine ⟨.ref l, rfl, .int c, rfl, l, _, c, .int (ys.getD c 0), rfl, rfl, SqL.of hy, atI_nat (get_map gy), .ref r, rfl, .int c, rfl, r, _, c, .int (xs.getD c 0), rfl, rfl, SqL.of hx, atI_nat (get_map gx), ?_⟩
    refine ⟨by show 2 ≤ sizeLine; decide, fun T nT => ?_⟩
    have s1 : Same H (upd H T (.tup [.int (ys.getD c 0), .int (xs.getD c 0)])) := same_new nT
    have g1 : Tp (upd H T (.tup [.int (ys.getD c 0), .int (xs.getD c 0)])) T [.int (ys.getD c 0), .int (xs.getD c 0)] := upd_same
    generalize upd H T (.tup [.int (ys.getD c 0), .int (xs.getD c 0)]) = H1 at s1 g1 ⊢
    refine ⟨T, _, rfl, g1.t, rfl, .int (ys.getD c 0), [.int (xs.getD c 0)], rfl, .int (xs.getD c 0), [], rfl, rfl, ?_⟩
    refine ⟨.ref r, rfl, .ref l, rfl, true, true, r, l, _, _, rfl, SqL.of (s1 _ _ hx), SqL.of (s1 _ _ hy), fun D nD => ?_⟩
    have lc : (clr xs ys c d).length = xs.length := by
      unfold clr
      rw [List.length_zipWith, hl, Nat.min_self]
    refine lc_to (walk_zipK (n := xs.length) (zip_len _ _ _ (List.length_map ..) (by rw [List.length_map, hl]))) ((clr xs ys c d).map V.int) (by rw [List.length_map, lc]) (small l100) nD (fun H2 s2 => ⟨SqL.of (s2 _ _ (s1 _ _ hx)), SqL.of (s2 _ _ (s1 _ _ hy))⟩) ?_ ?_
    · rintro j x y H2 H3 Qy hv hj s2 ⟨T2, u2, v2, rfl, nT2, rfl, hu2, hv2⟩ hq
      obtain ⟨z, hz, rfl⟩ := map_get hv
      unfold clr at hz
      obtain ⟨a1, b1, ha1, hb1, rfl⟩ := zipW_get hz
      obtain ⟨a2, ha2, rfl⟩ := map_get hu2
      obtain ⟨b2, hb2, rfl⟩ := map_get hv2
      obtain rfl := Option.some.inj (ha1.symm.trans ha2)
      obtain rfl := Option.some.inj (hb1.symm.trans hb2)
      have za := zx _ (List.mem_of_getElem? ha1)
      have zb := zy _ (List.mem_of_getElem? hb1)
      refine ⟨T2, [.int a1, .int b1], rfl, SqT.of upd_same, rfl, .int a1, [.int b1], rfl, .int b1, [], rfl, rfl, rfl, .int (ys.getD c 0), rfl, .int a1, rfl, _, a1, rfl, rfl, mulB (by decide) (by decide) zyc za (by decide), .int (xs.getD c 0), rfl, .int b1, rfl, _, b1, rfl, rfl, mulB (by decide) (by decide) zxc zb (by decide), _, _, rfl, rfl, .int d, rfl, _, d, rfl, rfl, ⟨d0, ?_⟩, hq _ (same_new nT2)⟩
      exact Nat.lt_trans (smz_log (by decide) zd) (by decide)
    · intro H2 s2 d2
      exact q D H2 (s1.trans s2) (s1.free nD) d2
end
end K16
namespace K16
open PySem PySem.Spec PyProof.Rows L2 Vk Vd
/-- a table as a function -/
def mL (B : List (List Int)) : Mt := fun i j => (B.getD i []).getD j 0
/-- row i after t steps -/
def rowE (A : Mt) (P G : Nat → Nat) (t n i : Nat) : List Int := (List.range n).map fun c => ent A P G t i c
theorem rowE_len (A : Mt) (P G : Nat → Nat) (t n i : Nat) : (rowE A P G t n i).length = n := by
  unfold rowE
  rw [List.length_map, List.length_range]
theorem rowE_get (A : Mt) (P G : Nat → Nat) (t n i : Nat) {c : Nat} (h : c < n) : (rowE A P G t n i)[c]? = some (ent A P G t i c) := by
  unfold rowE
  rw [List.getElem?_map, List.getElem?_range h]
  rfl
theorem rowE_getD (A : Mt) (P G : Nat → Nat) (t n i : Nat) {c : Nat} (h : c < n) : (rowE A P G t n i).getD c 0 = ent A P G t i c := by
  rw [List.getD_eq_getElem?_getD, rowE_get A P G t n i h]
  rfl
theorem rowE_zero {B : List (List Int)} {P G : Nat → Nat} {i : Nat} (h : (B.getD i []).length = B.length) : rowE (mL B) P G 0 B.length i = B.getD i [] := by
  apply List.ext_getElem?
  intro c
  by_cases hc : c < B.length
  · rw [rowE_get _ _ _ _ _ _ hc, Vk.getD_at (xs := B.getD i []) (i := c) (by omega)]
    congr 1
    show 0 + Vd.sg 0 * mL B i c * 1 = (B.getD i []).getD c 0
    rw [sg_zero, Int.zero_add, Int.one_mul, Int.mul_one]
    rfl
  · rw [List.getElem?_eq_none (by rw [rowE_len]; omega), List.getElem?_eq_none (by omega)]
theorem clr_row {n j t : Nat} {A : Mt} {os : List Nat} {P G : Nat → Nat} {sgn : Int} (h : Sw n A j t os P G sgn) (hj : j < n) (p i : Nat) : clr (rowE A P G t n i) (rowE A P G t n p) j (dl A P G t) = rowE A (cns p P) (cns j G) (t + 1) n i := by
  apply List.ext_getElem?
  intro c
  unfold clr
  rw [List.getElem?_zipWith]
  by_cases hc : c < n
  · rw [rowE_get _ _ _ _ _ _ hc, rowE_get _ _ _ _ _ _ hc, rowE_get _ _ _ _ _ _ hc, rowE_getD _ _ _ _ _ _ hj, rowE_getD _ _ _ _ _ _ hj]
    show some _ = some _
    rw [h.fdiv]
  · rw [List.getElem?_eq_none (l := rowE A P G t n i) (by rw [rowE_len]; omega), List.getElem?_eq_none (l := rowE A (cns p P) (cns j G) (t + 1) n i) (by rw [rowE_len]; omega)]
theorem ent_sm {A : Mt} (hA : ∀ r c, (A r c).natAbs ≤ 2 ^ 300) (P G : Nat → Nat) {t : Nat} (ht : t ≤ 9) (i c : Nat) : SmZ 5000 (ent A P G t i c) := by
  have h := det_abs (k := 300) (t + 1) (fun r s => A (cns i P r) (cns c G s)) (by omega) fun r s => hA _ _
  refine Nat.lt_of_le_of_lt h (Nat.pow_lt_pow_right (by decide) ?_)
  have : (t + 1) * (300 + 4) ≤ 10 * 304 := Nat.mul_le_mul (by omega) (by omega)
  omega
theorem dl_sm {A : Mt} (hA : ∀ r c, (A r c).natAbs ≤ 2 ^ 300) (P G : Nat → Nat) {t : Nat} (ht : t ≤ 9) : SmZ 5000 (dl A P G t) := by
  have h := det_abs (k := 300) t (fun r s => A (P r) (G s)) (by omega) fun r s => hA _ _
  refine Nat.lt_of_le_of_lt h (Nat.pow_lt_pow_right (by decide) ?_)
  have : t * (300 + 4) ≤ 10 * 304 := Nat.mul_le_mul (by omega) (by omega)
  omega
theorem mL_sm {B : List (List Int)} (h : ∀ r ∈ B, ∀ x ∈ r, SmZ 300 x) (r c : Nat) : (mL B r c).natAbs ≤ 2 ^ 300 := by
  unfold mL
  by_cases hr : r < B.length
  · have e1 : B[r]? = some (B.getD r []) := by
      rw [List.getD_eq_getElem?_getD, List.getElem?_eq_getElem hr]
      rfl
    by_cases hc : c < (B.getD r []).length
    · exact Nat.le_of_lt (h _ (List.mem_of_getElem? e1) _ (List.mem_of_getElem? (Vk.getD_at hc)))
    · rw [List.getD_eq_getElem?_getD, List.getElem?_eq_none (by omega)]
      exact Nat.zero_le _
  · have : B.getD r [] = [] := by
      rw [List.getD_eq_getElem?_getD, List.getElem?_eq_none (by omega)]
      rfl
    rw [this]
    exact Nat.zero_le _
/-- a list of lists -/
def LL (H : Hp) (L : Addr) (qs : List Addr) (E : List (List Int)) : Prop := H L = some (.lst (qs.map V.ref)) ∧ qs.length = E.length ∧ ∀ (i : Nat) (q : Addr) (r : List Int), qs[i]? = some q → E[i]? = some r → q ≠ L ∧ H q = some (.lst (r.map V.int))
theorem refs_ne {ps : List Addr} {row : List Int} (h : 0 < ps.length) : ps.map V.ref ≠ row.map V.int := by
  cases ps with
  | nil => cases h
  | cons p ps =>
    cases row with
    | nil => intro z; cases z
    | cons x row =>
      intro z
      rw [List.map_cons, List.map_cons] at z
      have := (List.cons.inj z).1
      cases this
theorem erase_map {α β : Type} (f : α → β) : ∀ (l : List α) (k : Nat), (l.map f).eraseIdx k = (l.eraseIdx k).map f
  | [], _ => rfl
  | _ :: _, 0 => rfl
  | x :: l, k + 1 => by
    show f x :: (l.map f).eraseIdx k = f x :: (l.eraseIdx k).map f
    rw [erase_map f l k]
def spSwept : Sp := fun vs H Q _ => ∃ (a : Addr) (ps : List Addr) (B : List (List Int)), vs = [.ref a] ∧ Tp H a (ps.map V.ref) ∧ Rws H ps B B.length ∧ B.length ≤ 9 ∧
  ∀ r t v H', Same H H' → Tp H' r [.int ((t : Nat) : Int), .int v] → det B.length (mL B) = (if t = B.length then v else 0) → Q (.ref r) H'
section
variable {P : Program} {w : World} {K : PySem.W.Frag} {mg : Str → Option Value} {base : Heap}
theorem ok_swept {f : Addr} {fd : FuncData} (F : Fun K "swept" "swept" s_swept f fd) (C__cleared : Cal P w K mg base 1 "_cleared" ["row", "lead", "column", "last"] spCleared) (m_list : mg "list" = none) (m_len : mg "len" = none) (m_range : mg "range" = none) (m_enumerate : mg "enumerate" = none) : FnOk P w K mg base CX0 2 f fd ["rows"] spSwept := by
  have sc := sc_swept
  refine F.ok sc (fun vs H Q E h => ?_) (fun cdv A outer s H vs Q E hr h => ?_)
  · obtain ⟨a, ps, B, rfl, _⟩ := h
    rfl
  · obtain ⟨a, ps, B, rfl, ha, hR, h9, q⟩ := h
    refine ⟨_, (pss_cons (ps_setLc (i := 1) (own := [("row", 8)]) (g := gName 8) (by rfl) sc.nd rfl rfl (sw_true rfl rfl rfl (by decide +kernel)) (pi_tup (pv 0)) (blkOk_by (own := [("row", 8)]) (N := ["rows", "open_rows", "width", "column", "rank_so_far", "last", "sign", "places", "row", "lead", "i"]) (sc := defScope s_swept) (by decide +kernel)) (fun _ _ _ _ _ => pg_name (i := 8) sc.nd rfl (Or.inl rfl)) (fun _ _ _ _ _ => pts_nil) (fun _ _ _ _ _ => (pe_callTy (call_list_ofK (K := K) rfl) (by rfl) m_list (by decide +kernel) (pa_cons (pv 8) pa_nil))))
    (pss_cons (ps_set (i := 2) sc.nd rfl (Or.inl rfl) (pe_ifExp (pt_truth (pv 0) (by intro _; rfl)) (pe_callB call_len_seq (by rfl) m_len (by decide +kernel) (pa_cons (pe_ix ix_tup (pv 0) pe_int (fun _ _ => rfl)) pa_nil)) pe_int))
    (pss_cons (ps_asg (pe_tup (pa_cons pe_int (pa_cons pe_int (pa_cons pe_int pa_nil)))) (pg_tup (n := 3) (by rfl) (pgs_cons (pg_name (i := 4) sc.nd rfl (Or.inl rfl)) (pgs_cons (pg_name (i := 5) sc.nd rfl (Or.inr rfl)) (pgs_cons (pg_name (i := 6) sc.nd rfl (Or.inl rfl)) pgs_nil)))))
    (pss_cons (ps_for PassesOwn.never rfl (pi_range1 rfl m_range (pa_cons (pv 2) pa_nil)) (pg_name (i := 3) sc.nd rfl (Or.inr rfl))
      (pss_cons (ps_setLc (i := 7) (own := [("i", 10), ("row", 8)]) (g := gTup K 2 (gCons (gName 10) (gCons (gName 8) gNil))) (by rfl) sc.nd rfl rfl (sw_true rfl rfl rfl (by decide +kernel)) (pi_enumK (by rfl) m_enumerate (pa_cons (pv 1) pa_nil)) (blkOk_by (own := [("i", 10), ("row", 8)]) (N := ["rows", "open_rows", "width", "column", "rank_so_far", "last", "sign", "places", "row", "lead", "i"]) (sc := defScope s_swept) (by decide +kernel)) (fun _ _ _ _ _ => pg_tup (n := 2) (by rfl) (pgs_cons (pg_name (i := 10) sc.nd rfl (Or.inl rfl)) (pgs_cons (pg_name (i := 8) sc.nd rfl (Or.inl rfl)) pgs_nil))) (fun _ _ _ _ _ => (pts_one (pt_cmpR op_ne (pe_ix (ix_listK (K := K) rfl) (pv 8) (pv 3) (fun _ _ => rfl)) pe_int (nomark _)))) (fun _ _ _ _ _ => (pv 10)))
    (pss_one (ps_if (pt_truth (pv 7) (by intro _; rfl))
      (pss_cons (ps_set (i := 9) sc.nd rfl (Or.inr rfl) (pe_bm PySem.F.plainAttrs_list PySem.F.slot_list_pop PySem.F.type_list_pop mt_popAt (pv 1) (pa_cons (pe_ix ix_list (pv 7) pe_int (fun _ _ => rfl)) pa_nil)))
    (pss_cons (ps_if (pt_cmpR op_eq (pe_op op_modN (pe_ix ix_list (pv 7) pe_int (fun _ _ => rfl)) pe_int) pe_int (nomark _))
      (pss_one (ps_set (i := 6) sc.nd rfl (Or.inl rfl) (pe_un un_neg (pv 6))))
      pss_nil)
    (pss_cons (ps_setLc (i := 1) (own := [("row", 8)]) (g := gName 8) (by rfl) sc.nd rfl rfl (sw_true rfl rfl rfl (by decide +kernel)) (pi_list (pv 1)) (blkOk_by (own := [("row", 8)]) (N := ["rows", "open_rows", "width", "column", "rank_so_far", "last", "sign", "places", "row", "lead", "i"]) (sc := defScope s_swept) (by decide +kernel)) (fun _ _ _ _ _ => pg_name (i := 8) sc.nd rfl (Or.inl rfl)) (fun _ _ _ _ _ => pts_nil) (fun _ _ _ _ _ => (call_ C__cleared (hr.mono (by decide)) (by rfl) (pa_cons (pv 8) (pa_cons (pv 9) (pa_cons (pv 3) (pa_cons (pv 5) pa_nil)))))))
    (pss_cons (ps_set (i := 5) sc.nd rfl (Or.inr rfl) (pe_ix ix_list (pv 9) (pv 3) (fun _ _ => rfl)))
    (pss_one (ps_aug (i := 4) sc.nd rfl (Or.inl rfl) pe_int ip_add))))))
      pss_nil))))
    (pss_one (ps_ret (pe_tup (pa_cons (pv 4) (pa_cons (pe_op op_mulW (pv 6) (pv 5)) pa_nil))))))))), ?_⟩
    have lp : (ps.map V.ref).length = B.length := by rw [List.length_map, hR.1]
    have rowOf : ∀ i, i < B.length → ∃ p, ps[i]? = some p ∧ Row H p (B.getD i []) ∧ (B.getD i []).length = B.length := fun i hi => by
      have hp : ps[i]? = some (ps[i]'(by rw [hR.1]; exact hi)) := List.getElem?_eq_getElem _
      have hb : B[i]? = some (B.getD i []) := by
        rw [List.getD_eq_getElem?_getD, List.getElem?_eq_getElem hi]
        rfl
      obtain ⟨r1, r2⟩ := hR.2 i _ _ hp hb
      exact ⟨_, hp, r1, r2⟩
    have hA : ∀ r c, (mL B r c).natAbs ≤ 2 ^ 300 := mL_sm fun r hr => by
      obtain ⟨i, hi⟩ := List.getElem?_of_mem hr
      have il : i < ps.length := by
        rw [hR.1]
        exact (List.getElem?_eq_some_iff.mp hi).1
      exact (hR.2 i ps[i] r (List.getElem?_eq_getElem il) hi).1.2.2
    refine ⟨.ref a, rfl, a, rfl, ⟨_, ha.t⟩, fun D nD => ?_⟩
    refine lc_objs (walk_tup (K := K) (a := a) (xs := ps.map V.ref)) (fun i => .lst ((B.getD i []).map V.int)) (by rw [lp]; exact small (by omega)) nD (fun H' s => (ha.same s).t) ?_ ?_
    · rintro i x H1 H1' Qy hi s1 ⟨rfl, hx⟩ hq
      obtain ⟨p, hp, rfl⟩ := map_get hx
      rw [lp] at hi
      obtain ⟨p', hp', Rp, lr⟩ := rowOf i hi
      obtain rfl := Option.some.inj (hp.symm.trans hp')
      exact ⟨rfl, .ref p, rfl, p, _, rfl, .inr (Rp.1.same s1).t, fun l nl => hq l _ (same_new nl) nl upd_same⟩
    intro H1 qs s1 d1 lq nd fr ob
    have E0 : LL H1 D qs ((List.range B.length).map (rowE (mL B) (fun _ => 0) (fun _ => 0) 0 B.length)) := by
      refine ⟨d1, by rw [List.length_map, List.length_range, lq, lp], fun i p r e1 e2 => ⟨?_, ?_⟩⟩
      · rintro rfl
        have g1 := ob i p e1
        rw [d1] at g1
        exact absurd (HO.lst.inj (Option.some.inj g1)) (refs_ne (by have := (List.getElem?_eq_some_iff.mp e1).1; omega))
      · have hi : i < B.length := by
          have := (List.getElem?_eq_some_iff.mp e1).1
          omega
        rw [List.getElem?_map, List.getElem?_range hi] at e2
        obtain rfl := Option.some.inj e2
        obtain ⟨_, _, _, lr⟩ := rowOf i hi
        rw [rowE_zero lr]
        exact ob i p e1
    refine ⟨.ref a, rfl, !(ps.map V.ref).isEmpty, .inr (.inl ⟨_, (ha.same s1).t, rfl⟩), ?_⟩
    refine tif_both (fun v => v = .int B.length) (fun v hv => ?_) (fun e hq => ?_) (fun e hq => ?_)
    rotate_left
    · have l0 : 0 < B.length := by
        rw [← lp]
        cases hps : ps.map V.ref with
        | nil =>
          rw [hps] at e
          cases e
        | cons x y => exact Nat.succ_pos _
      obtain ⟨p, hp, Rp, lr⟩ := rowOf 0 l0
      refine ⟨.ref a, rfl, a, _, 0, .ref p, rfl, rfl, (ha.same s1).t, atI_nat (j := 0) (get_map hp), p, _, rfl, .inr (Rp.1.same s1).t, ?_⟩
      rw [List.length_map, lr]
      exact hq _ rfl
    · have l0 : B.length = 0 := by
        rw [← lp]
        cases hps : ps.map V.ref with
        | nil => rfl
        | cons x y =>
          rw [hps] at e
          cases e
      refine hq _ ?_
      rw [l0]
      rfl
    subst hv
    refine ⟨by show 3 ≤ sizeLine; decide, fun T nT => ?_⟩
    have s2 : Same H1 (upd H1 T (.tup [.int 0, .int 1, .int 1])) := same_new nT
    have g2 : Tp (upd H1 T (.tup [.int 0, .int 1, .int 1])) T [.int 0, .int 1, .int 1] := upd_same
    generalize upd H1 T (.tup [.int 0, .int 1, .int 1]) = H2 at s2 g2 ⊢
    refine ⟨T, _, rfl, g2.t, rfl, .int 0, [.int 1, .int 1], rfl, .int 1, [.int 1], rfl, .int 1, [], rfl, rfl, ?_⟩
    refine ⟨.int B.length, rfl, (B.length : Int), rfl, by omega, by omega, ?_⟩
    rw [Int.toNat_natCast]
    have LLs : ∀ {H H' : Hp} {L : Addr} {qs : List Addr} {E : List (List Int)}, LL H L qs E → Same H H' → LL H' L qs E := fun h s => ⟨s _ _ h.1, h.2.1, fun i q r a b => ⟨(h.2.2 i q r a b).1, s _ _ (h.2.2 i q r a b).2⟩⟩
    refine for_range (lo := 0) (n := B.length) (fun j σ H' => ∃ t os P G sgn L qs, (∃ y3 y7 y8 y9 y10, σ = [some (.ref a), some (.ref L), some (.int B.length), y3, some (.int ((t : Nat) : Int)), some (.int (Vd.dl (mL B) P G t)), some (.int sgn), y7, y8, y9, y10]) ∧ Sw B.length (mL B) j t os P G sgn ∧ LL H' L qs (os.map (rowE (mL B) P G t B.length)) ∧ Same H H' ∧ H L = none)
      ⟨0, List.range B.length, fun _ => 0, fun _ => 0, 1, D, qs, ⟨none, none, none, none, none, rfl⟩, Sw.start _ _, LLs E0 s2, s1.trans s2, nD⟩ ?_ ?_
    · rintro j σ H3 hj ⟨t, os, P, G, sgn, L, qs, ⟨y3, y7, y8, y9, y10, rfl⟩, W, hL, s3, nL⟩
      have t9 : t + 1 ≤ 9 := by
        have := W.tj
        omega
      have lqs : qs.length = os.length := by rw [hL.2.1, List.length_map]
      have lE : (qs.map V.ref).length = os.length := by rw [List.length_map, lqs]
      have hl := W.len
      have rowA : ∀ i, i < os.length → ∃ p o, qs[i]? = some p ∧ os[i]? = some o ∧ p ≠ L ∧ H3 p = some (.lst ((rowE (mL B) P G t B.length o).map V.int)) := fun i hi => by
        have h1 : qs[i]? = some (qs[i]'(by omega)) := List.getElem?_eq_getElem _
        have h2 : os[i]? = some os[i] := List.getElem?_eq_getElem hi
        obtain ⟨a1, a2⟩ := hL.2.2 i _ (rowE (mL B) P G t B.length os[i]) h1 (by rw [List.getElem?_map, h2]; rfl)
        exact ⟨_, _, h1, h2, a1, a2⟩
      refine ⟨.ref L, rfl, true, L, qs.map V.ref, rfl, SqL.of hL.1, fun D1 nD1 => ?_⟩
      refine lc_fl (walk_enumK (K := K) (b := true) (a := L) (xs := qs.map V.ref)) (fun i => decide (ent (mL B) P G t (os.getD i 0) j ≠ 0)) (fun i => .int (i : Nat)) (by rw [lE]; exact small (by omega)) nD1 (fun H' s => SqL.of (s _ _ hL.1)) ?_ ?_
      · rintro i x H4 H4' Qy Nx hi s4 ⟨T1, u, w, rfl, nT1, rfl, hu, hw⟩ hk hnk
        obtain rfl := Option.some.inj hu
        obtain ⟨p, hp, rfl⟩ := map_get hw
        rw [lE] at hi
        obtain ⟨p', o, hp', ho, _, hrow⟩ := rowA i hi
        obtain rfl := Option.some.inj (hp.symm.trans hp')
        have eo : os.getD i 0 = o := by
          rw [List.getD_eq_getElem?_getD, ho]
          rfl
        rw [eo] at hk hnk
        have sT : Same H4 (upd H4 T1 (.tup [.int (i : Nat), .ref p])) := same_new nT1
        refine ⟨T1, [.int (i : Nat), .ref p], rfl, SqT.of upd_same, rfl, .int (i : Nat), [.ref p], rfl, .ref p, [], rfl, rfl, rfl, .ref p, rfl, .int (0 + j), rfl, p, _, 0 + j, .int (ent (mL B) P G t o j), rfl, rfl, SqL.of (sT _ _ (s4 _ _ hrow)), atI_at (by omega) (get_map (rowE_get _ _ _ _ _ _ hj)), rfl, _, rfl, ite2 (fun h => ?_) (fun h => ?_)⟩
        · refine ⟨.int (i : Nat), rfl, hk (decide_eq_true (fun z => ?_)) _ sT⟩
          rw [z] at h
          exact absurd h (by decide)
        · refine hnk (decide_eq_false (fun z => h ?_)) _ sT
          rw [decide_eq_false (fun e => z (V.int.inj e))]
          rfl
      intro H4 s4 d4
      have kz : ((List.range (qs.map V.ref).length).filter fun i => decide (ent (mL B) P G t (os.getD i 0) j ≠ 0)) = [] → ∀ i, i ∈ os → ent (mL B) P G t i j = 0 := fun e i hi => by
        obtain ⟨x, hx⟩ := List.getElem?_of_mem hi
        have xl := (List.getElem?_eq_some_iff.mp hx).1
        have eo : os.getD x 0 = i := by
          rw [List.getD_eq_getElem?_getD, hx]
          rfl
        by_cases z : ent (mL B) P G t i j = 0
        · exact z
        · have m : x ∈ ((List.range (qs.map V.ref).length).filter fun i => decide (ent (mL B) P G t (os.getD i 0) j ≠ 0)) := List.mem_filter.mpr ⟨List.mem_range.mpr (by rw [lE]; exact xl), decide_eq_true (by rw [eo]; exact z)⟩
          rw [e] at m
          cases m
      have kk : ∀ k0 l, ((List.range (qs.map V.ref).length).filter fun i => decide (ent (mL B) P G t (os.getD i 0) j ≠ 0)) = k0 :: l → k0 < os.length ∧ ent (mL B) P G t (os.getD k0 0) j ≠ 0 := fun k0 l e => by
        have m : k0 ∈ ((List.range (qs.map V.ref).length).filter fun i => decide (ent (mL B) P G t (os.getD i 0) j ≠ 0)) := by
          rw [e]
          exact List.mem_cons_self
        obtain ⟨m1, m2⟩ := List.mem_filter.mp m
        have m1 := List.mem_range.mp m1
        rw [lE] at m1
        exact ⟨m1, of_decide_eq_true m2⟩
      generalize ((List.range (qs.map V.ref).length).filter fun i => decide (ent (mL B) P G t (os.getD i 0) j ≠ 0)) = ks at d4 kz kk
      have gL4 := s4 _ _ hL.1
      have D1L : D1 ≠ L := Ne.symm (ne_of_none hL.1 nD1)
      refine ⟨.ref D1, rfl, !(ks.map fun i => V.int (i : Nat)).isEmpty, .inl ⟨_, SqL.of d4, rfl⟩, ?_⟩
      cases ks with
      | nil => exact iteF ⟨t, os, P, G, sgn, L, qs, ⟨_, _, _, _, _, rfl⟩, W.skip hj (kz rfl), LLs hL s4, s3.trans s4, nL⟩
      | cons k0 kl =>
        obtain ⟨k0l, nz⟩ := kk k0 kl rfl
        obtain ⟨p, o, hp, ho, pL, hrow⟩ := rowA k0 k0l
        have eo : os.getD k0 0 = o := by
          rw [List.getD_eq_getElem?_getD, ho]
          rfl
        rw [eo] at nz
        have W' := W.take ho nz
        refine iteT ⟨.ref L, rfl, .inl ⟨rfl, _, SqL.of gL4⟩, .ref D1, rfl, D1, _, 0, .int (k0 : Nat), rfl, rfl, SqL.of d4, atI_nat (j := 0) rfl, L, _, (k0 : Int), k0, .ref p, rfl, rfl, gL4, by omega, by omega, ?_, get_map hp, ?_⟩
        · rw [lE]
          have := seqIndex_of (k := (k0 : Int)) (n := os.length) (by omega) (by omega)
          rw [this, Int.toNat_natCast]
        have eE : (qs.map V.ref).eraseIdx k0 = (qs.eraseIdx k0).map V.ref := erase_map _ _ _
        rw [eE]
        have rowB : ∀ i, i < (os.eraseIdx k0).length → ∃ p o, (qs.eraseIdx k0)[i]? = some p ∧ (os.eraseIdx k0)[i]? = some o ∧ p ≠ L ∧ H3 p = some (.lst ((rowE (mL B) P G t B.length o).map V.int)) := fun i hi => by
          rw [List.length_eraseIdx_of_lt k0l] at hi
          rcases Nat.lt_or_ge i k0 with l | l
          · obtain ⟨p, o, a1, a2, a3⟩ := rowA i (by omega)
            exact ⟨p, o, by rw [List.getElem?_eraseIdx_of_lt l]; exact a1, by rw [List.getElem?_eraseIdx_of_lt l]; exact a2, a3⟩
          · obtain ⟨p, o, a1, a2, a3⟩ := rowA (i + 1) (by omega)
            exact ⟨p, o, by rw [List.getElem?_eraseIdx_of_ge l]; exact a1, by rw [List.getElem?_eraseIdx_of_ge l]; exact a2, a3⟩
        have s35 : Same H (upd H4 L (.lst ((qs.eraseIdx k0).map V.ref))) := same_put (s3.trans s4) nL
        have g5 : upd H4 L (.lst ((qs.eraseIdx k0).map V.ref)) L = some (.lst ((qs.eraseIdx k0).map V.ref)) := upd_same
        have d5 : upd H4 L (.lst ((qs.eraseIdx k0).map V.ref)) D1 = some (.lst ((k0 :: kl).map fun i => V.int (i : Nat))) := by
          rw [upd_ne D1L]
          exact d4
        have r5 : ∀ {p : Addr} {x : HO}, p ≠ L → H3 p = some x → upd H4 L (.lst ((qs.eraseIdx k0).map V.ref)) p = some x := fun a b => by
          rw [upd_ne a]
          exact s4 _ _ b
        generalize upd H4 L (.lst ((qs.eraseIdx k0).map V.ref)) = H5 at s35 g5 d5 r5 ⊢
        refine gname_ ?_
        dsimp only
        refine seq_ ?_
        refine tifs_rest (fun σ' H' => ∃ y8 y10, σ' = [some (.ref a), some (.ref L), some (.int B.length), some (.int (0 + j)), some (.int ((t : Nat) : Int)), some (.int (Vd.dl (mL B) P G t)), some (.int (Vd.sg k0 * sgn)), some (.ref D1), y8, some (.ref p), y10] ∧ H' = H5) ?_ ?_
        · rintro σ' H' ⟨y8, y10, rfl, rfl⟩
          refine ⟨.ref L, rfl, L, rfl, ⟨_, SqL.of g5⟩, fun D2 nD2 => ?_⟩
          have le : ((qs.eraseIdx k0).map V.ref).length = (os.eraseIdx k0).length := by
            rw [List.length_map, List.length_eraseIdx_of_lt (by omega), List.length_eraseIdx_of_lt k0l]
            omega
          have lo9 : (os.eraseIdx k0).length ≤ 9 := by
            rw [List.length_eraseIdx_of_lt k0l]
            omega
          refine lc_objs (walk_list (K := K) (a := L) (xs := (qs.eraseIdx k0).map V.ref)) (fun i => .lst ((rowE (mL B) (cns o P) (cns j G) (t + 1) B.length ((os.eraseIdx k0).getD i 0)).map V.int)) (by rw [le]; exact small (by omega)) nD2 (fun H' s => SqL.of (s _ _ g5)) ?_ ?_
          · rintro i x H6 H6' Qy hi s6 ⟨rfl, hx⟩ hq
            obtain ⟨pi, hpi, rfl⟩ := map_get hx
            rw [le] at hi
            obtain ⟨p', o', hp', ho', pL', hrow'⟩ := rowB i hi
            obtain rfl := Option.some.inj (hpi.symm.trans hp')
            have eo' : (os.eraseIdx k0).getD i 0 = o' := by
              rw [List.getD_eq_getElem?_getD, ho']
              rfl
            rw [eo'] at hq
            refine ⟨rfl, .ref pi, rfl, .ref p, rfl, .int (0 + j), rfl, .int (Vd.dl (mL B) P G t), rfl, pi, p, _, _, j, Vd.dl (mL B) P G t, by rw [Int.zero_add], s6 _ _ (r5 pL' hrow'), s6 _ _ (r5 pL hrow), by rw [rowE_len, rowE_len], by rw [rowE_len]; exact hj, by rw [rowE_len]; omega, W.d0, dl_sm hA P G (by omega), fun x hx => ?_, fun x hx => ?_, fun r H7 s7 n7 g7 => ?_⟩
            · obtain ⟨c, _, rfl⟩ := List.mem_map.mp hx
              exact ent_sm hA P G (by omega) _ _
            · obtain ⟨c, _, rfl⟩ := List.mem_map.mp hx
              exact ent_sm hA P G (by omega) _ _
            · rw [clr_row W hj] at g7
              exact hq r H7 s7 n7 g7
          intro H6 us s6 d6 lu ndu fru obu
          have l6 := s6 _ _ (r5 pL hrow)
          refine ⟨.ref p, rfl, .int (0 + j), rfl, p, _, 0 + j, .int (ent (mL B) P G t o j), rfl, rfl, SqL.of l6, atI_at (by omega) (get_map (rowE_get _ _ _ _ _ _ hj)), ?_⟩
          refine ⟨.int ((t : Nat) : Int), rfl, _, _, rfl, rfl, ?_⟩
          have s6' := s35.trans s6
          refine ⟨t + 1, os.eraseIdx k0, cns o P, cns j G, Vd.sg k0 * sgn, D2, us, ⟨_, _, _, _, _, rfl⟩, W', ⟨d6, by rw [List.length_map, lu, le], fun i p' r e1 e2 => ?_⟩, s6', s35.free nD2⟩
          have hi : i < (os.eraseIdx k0).length := by
            have := (List.getElem?_eq_some_iff.mp e1).1
            omega
          have eo' : (os.eraseIdx k0)[i]? = some ((os.eraseIdx k0).getD i 0) := by
            rw [List.getD_eq_getElem?_getD, List.getElem?_eq_getElem hi]
            rfl
          rw [List.getElem?_map, eo'] at e2
          obtain rfl := Option.some.inj e2
          have g1 := obu i p' e1
          refine ⟨?_, g1⟩
          rintro rfl
          rw [d6] at g1
          exact absurd (HO.lst.inj (Option.some.inj g1)) (refs_ne (by omega))
        · intro rest
          refine ⟨.ref D1, rfl, D1, _, 0, .int (k0 : Nat), rfl, rfl, SqL.of d5, atI_nat (j := 0) rfl, _, _, rfl, rfl, (show (2 : Int) ≠ 0 by decide), rfl, _, rfl, ite2 (fun h => ?_) (fun h => ?_)⟩
          · have h := V.int.inj (of_decide_eq_true h)
            refine ⟨.int sgn, rfl, sgn, rfl, rest _ _ ⟨y8, y10, ?_, rfl⟩⟩
            have e : Vd.sg k0 * sgn = - sgn := by
              have : Vd.sg k0 = -1 := by
                unfold Vd.sg
                rw [Int.fmod_eq_emod_of_nonneg _ (by decide)] at h
                rw [if_neg (by omega)]
              rw [this]
              omega
            rw [e]
            rfl
          · refine rest _ _ ⟨y8, y10, ?_, rfl⟩
            have e : Vd.sg k0 * sgn = sgn := by
              have : Vd.sg k0 = 1 := by
                unfold Vd.sg
                refine if_pos ?_
                by_cases z : k0 % 2 = 0
                · exact z
                · refine absurd (decide_eq_true ?_) h
                  show V.int ((k0 : Int).fmod 2) = V.int 1
                  rw [Int.fmod_eq_emod_of_nonneg _ (by decide)]
                  congr 1
                  omega
              rw [this]
              omega
            rw [e]
            rfl
    · rintro σ H3 ⟨t, os, P, G, sgn, L, qs, ⟨y3, y7, y8, y9, y10, rfl⟩, W, hL, s3, nL⟩
      have t9 : t ≤ 9 := by
        have := W.tj
        omega
      have zs : SmZ 2 sgn := by
        rcases W.s with e | e
        · rw [e]; decide
        · rw [e]; decide
      refine ⟨.int ((t : Nat) : Int), rfl, .int sgn, rfl, .int (Vd.dl (mL B) P G t), rfl, _, _, rfl, rfl, mulB (by decide) (by decide) zs (dl_sm hA P G t9) (by decide), ?_⟩
      refine ⟨by show 2 ≤ sizeLine; decide, fun R nR => ?_⟩
      exact q R t (sgn * Vd.dl (mL B) P G t) _ (s3.trans (same_new nR)) upd_same W.done
end
end K16
namespace K16
open PySem PySem.Spec PyProof.Rows L2 Vk Vd
abbrev s_det : Stmt := topS 12
theorem sc_det : FnScope ["table", "size", "part"] ["table"] (defScope s_det) := ⟨rfl, rfl, rfl, by decide +kernel, rfl, by decide +kernel, by decide +kernel⟩
abbrev s_trow : Stmt := topS 14
theorem sc_trow : FnScope ["row", "table"] ["row", "table"] (defScope s_trow) := ⟨rfl, rfl, rfl, by decide +kernel, rfl, by decide +kernel, by decide +kernel⟩
abbrev s_tcol : Stmt := topS 15
theorem sc_tcol : FnScope ["table", "column", "row"] ["table", "column"] (defScope s_tcol) := ⟨rfl, rfl, rfl, by decide +kernel, rfl, by decide +kernel, by decide +kernel⟩
abbrev s_turned : Stmt := topS 13
theorem sc_turned : FnScope ["rows", "width", "j", "row"] ["rows", "width"] (defScope s_turned) := ⟨rfl, rfl, rfl, by decide +kernel, rfl, by decide +kernel, by decide +kernel⟩
/-- the columns of a table -/
def colsI (rows : List (List Int)) (n : Nat) : List (List Int) := (List.range n).map fun j => rows.map fun r => r.getD j 0
theorem colsI_get {rows : List (List Int)} {n j : Nat} {z : List Int} (h : (colsI rows n)[j]? = some z) : z = rows.map fun r => r.getD j 0 := by
  unfold colsI at h
  rw [List.getElem?_map] at h
  cases e : (List.range n)[j]? with
  | none => rw [e] at h; cases h
  | some k =>
    rw [e] at h
    have hk : k = j := by
      have := List.getElem?_eq_some_iff.mp e
      obtain ⟨hj, hk⟩ := this
      rw [List.getElem_range] at hk
      exact hk.symm
    subst hk
    exact (Option.some.inj h).symm
/-- rows of n numbers -/
def TabR (H : Hp) (a : Addr) (B : List (List Int)) (n : Nat) : Prop := ∃ ps, Tp H a (ps.map V.ref) ∧ Rws H ps B n
theorem TabR.same {H H' : Hp} {a : Addr} {B : List (List Int)} {n : Nat} (h : TabR H a B n) (s : Same H H') : TabR H' a B n := by
  obtain ⟨ps, h1, h2⟩ := h
  exact ⟨ps, h1.same s, h2.same s⟩
theorem TabR.but {m a : Addr} {H H' : Hp} {B : List (List Int)} {n : Nat} {kvs : List (Key × V)} (h : TabR H a B n) (hm : H m = some (.dK kvs)) (s : SameBut m H H') : TabR H' a B n := by
  obtain ⟨ps, h1, h2⟩ := h
  exact ⟨ps, h1.but hm s, h2.but hm s⟩
theorem TabR.w {H : Hp} {a : Addr} {B : List (List Int)} {n : Nat} (h : TabR H a B n) : ∀ r ∈ B, r.length = n ∧ ∀ x ∈ r, SmZ 300 x := fun r hr => by
  obtain ⟨ps, h1, h2⟩ := h
  obtain ⟨i, hi⟩ := List.getElem?_of_mem hr
  have il : i < ps.length := by
    rw [h2.1]
    exact (List.getElem?_eq_some_iff.mp hi).1
  obtain ⟨R, l⟩ := h2.2 i ps[i] r (List.getElem?_eq_getElem il) hi
  exact ⟨l, R.2.2⟩
def spDet : Sp := fun vs H Q _ => ∃ (a : Addr) (B : List (List Int)), vs = [.ref a] ∧ TabR H a B B.length ∧ B.length ≤ 9 ∧ ∀ H', Same H H' → Q (.int (det B.length (mL B))) H'
def spTcol : Sp := fun vs H Q _ => ∃ (a c : Addr) (B : List (List Int)) (n : Nat) (xs : List Int), vs = [.ref a, .ref c] ∧ TabR H a B n ∧ Row H c xs ∧ xs.length = n ∧ B.length ≤ 90 ∧ ∀ r H', Same H H' → Tp H' r ((B.map fun b => dot b xs).map V.int) → Q (.ref r) H'
def spTrow : Sp := fun vs H Q _ => ∃ (c a : Addr) (B : List (List Int)) (xs : List Int), vs = [.ref c, .ref a] ∧ TabR H a B B.length ∧ Row H c xs ∧ xs.length = B.length ∧ B.length ≤ 9 ∧ ∀ r H', Same H H' → Tp H' r (((colsI B B.length).map fun b => dot b xs).map V.int) → Q (.ref r) H'
def mulI (X B : List (List Int)) : List (List Int) := X.map fun x => (colsI B B.length).map fun b => dot b x
theorem colsI_len (B : List (List Int)) (n : Nat) : (colsI B n).length = n := by
  unfold colsI
  rw [List.length_map, List.length_range]
def spTurnedT : Sp := fun vs H Q _ => ∃ (a : Addr) (n : Nat) (ps : List Addr) (rows : List (List Int)), vs = [.ref a, .int n] ∧ Tp H a (ps.map V.ref) ∧ Rws H ps rows n ∧ rows.length ≤ 100 ∧ n ≤ 100 ∧ ∀ r qs H', Same H H' → Tp H' r (qs.map V.ref) → Rws H' qs (colsI rows n) rows.length → Q (.ref r) H'
section
variable {P : Program} {w : World} {K : PySem.W.Frag} {mg : Str → Option Value} {base : Heap}
theorem ok_det {f : Addr} {fd : FuncData} (F : Fun K "determinant" "determinant" s_det f fd) (C_swept : Cal P w K mg base 2 "swept" ["rows"] spSwept) (m_len : mg "len" = none) : FnOk P w K mg base CX0 3 f fd ["table"] spDet := by
  have sc := sc_det
  refine F.ok sc (fun vs H Q E h => ?_) (fun cdv A outer s H vs Q E hr h => ?_)
  · obtain ⟨a, B, rfl, _⟩ := h
    rfl
  · obtain ⟨a, B, rfl, ⟨ps, ha, hR⟩, h9, q⟩ := h
    refine ⟨_, (pss_cons (ps_asg (call_ C_swept (hr.mono (by decide)) (by rfl) (pa_cons (pv 0) pa_nil)) (pg_tup (n := 2) (by rfl) (pgs_cons (pg_name (i := 1) sc.nd rfl (Or.inl rfl)) (pgs_cons (pg_name (i := 2) sc.nd rfl (Or.inl rfl)) pgs_nil))))
    (pss_one (ps_ret (pe_ifExp (pt_cmpR op_eq (pv 1) (pe_callB call_len_seq (by rfl) m_len (by decide +kernel) (pa_cons (pv 0) pa_nil)) (nomark _)) (pv 2) pe_int)))), ?_⟩
    refine ⟨.ref a, rfl, a, ps, B, rfl, ha, hR, h9, fun r t v H1 s1 g1 e1 => ?_⟩
    refine ⟨r, _, rfl, g1.t, rfl, .int ((t : Nat) : Int), [.int v], rfl, .int v, [], rfl, rfl, ?_⟩
    refine ⟨.int ((t : Nat) : Int), rfl, .ref a, rfl, a, _, rfl, .inr (ha.same s1).t, rfl, _, rfl, ?_⟩
    rw [List.length_map, hR.1]
    by_cases e : t = B.length
    · rw [if_pos e] at e1
      rw [e, decide_eq_true rfl]
      have q := q H1 s1
      rw [e1] at q
      exact iteT ⟨.int v, rfl, q⟩
    · rw [if_neg e] at e1
      rw [decide_eq_false fun z => e (by have := V.int.inj z; omega)]
      have q := q H1 s1
      rw [e1] at q
      exact iteF q
theorem ok_turnedT {f : Addr} {fd : FuncData} (F : Fun K "turned" "turned" s_turned f fd) (m_tuple : mg "tuple" = none) (m_range : mg "range" = none) : FnOk P w K mg base CX0 1 f fd ["rows", "width"] spTurnedT := by
  have sc := sc_turned
  refine F.ok sc (fun vs H Q E h => ?_) (fun cdv A outer s H vs Q E hr h => ?_)
  · obtain ⟨a, n, ps, rows, rfl, _⟩ := h
    rfl
  · obtain ⟨a, n, ps, rows, rfl, ha, hR, hl, hn, q⟩ := h
    refine ⟨_, (pss_one (ps_ret (pe_callTy call_tuple_of (by rfl) m_tuple (by decide +kernel) (pa_cons (pe_lc (own := [("j", 2)]) (g := gName 2) (by rfl) sc.nd (pi_range1 rfl m_range (pa_cons (pv 1) pa_nil)) (blkOk_by (own := [("j", 2)]) (N := ["rows", "width", "j", "row"]) (sc := defScope s_turned) (by decide +kernel)) (fun _ _ _ _ _ => pg_name (i := 2) sc.nd rfl (Or.inr rfl)) (fun _ _ _ _ _ => pts_nil) (fun _ _ _ _ _ => (pe_callTy (call_tuple_ofK (K := K) rfl) (by rfl) m_tuple (by decide +kernel) (pa_cons (pe_lc (own := [("row", 3)]) (g := gName 3) (by rfl) sc.nd (pi_tupK (K := K) rfl (pv 0)) (blkOk_by (own := [("row", 3)]) (N := ["rows", "width", "j", "row"]) (sc := { kind := .function, names := [(".0", .local), ("j", .cell), ("tuple", .globalImplicit), ("rows", .cell)], isGenerator := false, isCoroutine := false }) (by decide +kernel)) (fun _ _ _ _ _ => pg_name (i := 3) sc.nd rfl (Or.inl rfl)) (fun _ _ _ _ _ => pts_nil) (fun _ _ _ _ _ => (pe_ix (ix_tupK (K := K) rfl) (pv 3) (pv 2) (fun _ _ => rfl)))) pa_nil)))) pa_nil)))), ?_⟩
    have lp : ps.length = rows.length := hR.1
    refine ⟨.int n, rfl, (n : Int), rfl, by omega, by omega, fun D nD => ?_⟩
    rw [Int.toNat_natCast]
    refine lc_objs (walk_range (lo := 0) (n := n)) (fun j => .tup ((rows.map fun r => r.getD j 0).map V.int)) (small hn) nD (fun H' s => True.intro) ?_ ?_
    · rintro j x H0 H0' Qy hj s0 ⟨rfl, rfl⟩ hq
      refine ⟨rfl, .ref a, rfl, a, rfl, ⟨_, (ha.same s0).t⟩, fun D2 nD2 => ?_⟩
      refine lc_to (walk_tup (K := K) (a := a) (xs := ps.map V.ref)) ((rows.map fun r => r.getD j 0).map V.int) (by rw [List.length_map, List.length_map, List.length_map, lp]) (by rw [List.length_map]; exact small (by omega)) nD2 (fun H' s => ((ha.same s0).same s).t) ?_ ?_
      · rintro i x z H1 H1' Qy hz hi s1 ⟨rfl, hx⟩ hq
        obtain ⟨p, hp, rfl⟩ := map_get hx
        obtain ⟨v, hv, rfl⟩ := map_get hz
        obtain ⟨r, hr', rfl⟩ := map_get hv
        obtain ⟨Rp, lr⟩ := hR.2 i p r hp hr'
        exact ⟨rfl, .ref p, rfl, .int (0 + j), rfl, p, _, 0 + j, .int (r.getD j 0), rfl, rfl, ((Rp.same s0).same s1).1.t, atI_at (i := j) (by omega) (get_map (getD_at (by omega))), hq _ (Same.refl _)⟩
      · intro H2 s2 d2
        exact ⟨D2, _, rfl, .inl ⟨SqL.of d2, fun T nT => hq T _ (s2.trans (same_new nT)) (s2.free nT) upd_same⟩⟩
    · intro H' qs s1 d l nd fr ob
      refine ⟨D, _, rfl, .inl ⟨SqL.of d, fun T nT => ?_⟩⟩
      have s2 := same_new (o := .tup (qs.map V.ref)) nT
      refine q T qs _ (s1.trans s2) upd_same ⟨by unfold colsI; rw [l, List.length_map, List.length_range], fun j p z hp hz => ?_⟩
      have ho := ob j p hp
      have hj : j < n := by
        have := (List.getElem?_eq_some_iff.mp hp).1
        omega
      obtain rfl := colsI_get hz
      refine ⟨⟨s2 _ _ ho, by rw [List.length_map]; exact hl, fun x hx => ?_⟩, by rw [List.length_map]⟩
      obtain ⟨r, hr', rfl⟩ := List.mem_map.mp hx
      obtain ⟨i, hi⟩ := List.getElem?_of_mem hr'
      have il : i < ps.length := by
        rw [lp]
        exact (List.getElem?_eq_some_iff.mp hi).1
      obtain ⟨Rp, lr⟩ := hR.2 i ps[i] r (List.getElem?_eq_getElem il) hi
      exact Rp.2.2 _ (List.mem_of_getElem? (getD_at (xs := r) (i := j) (by omega)))
theorem ok_tcol {f : Addr} {fd : FuncData} (F : Fun K "times_column" "times_column" s_tcol f fd) (C_product_sum : Cal P w K mg base 1 "product_sum" ["one", "other"] spPsum) (m_tuple : mg "tuple" = none) : FnOk P w K mg base CX0 2 f fd ["table", "column"] spTcol := by
  have sc := sc_tcol
  refine F.ok sc (fun vs H Q E h => ?_) (fun cdv A outer s H vs Q E hr h => ?_)
  · obtain ⟨a, c, B, n, xs, rfl, _⟩ := h
    rfl
  · obtain ⟨a, c, B, n, xs, rfl, ⟨ps, ha, hR⟩, hc, lx, h9, q⟩ := h
    refine ⟨_, (pss_one (ps_ret (pe_callTy call_tuple_of (by rfl) m_tuple (by decide +kernel) (pa_cons (pe_lc (own := [("row", 2)]) (g := gName 2) (by rfl) sc.nd (pi_tup (pv 0)) (blkOk_by (own := [("row", 2)]) (N := ["table", "column", "row"]) (sc := defScope s_tcol) (by decide +kernel)) (fun _ _ _ _ _ => pg_name (i := 2) sc.nd rfl (Or.inl rfl)) (fun _ _ _ _ _ => pts_nil) (fun _ _ _ _ _ => (call_ C_product_sum (hr.mono (by decide)) (by rfl) (pa_cons (pv 2) (pa_cons (pv 1) pa_nil))))) pa_nil)))), ?_⟩
    refine ⟨.ref a, rfl, a, rfl, ⟨_, ha.t⟩, fun D nD => ?_⟩
    refine lc_to (walk_tup (K := K) (a := a) (xs := ps.map V.ref)) ((B.map fun b => dot b xs).map V.int) (by rw [List.length_map, List.length_map, List.length_map, hR.1]) (by rw [List.length_map, hR.1]; exact small (by omega)) nD (fun H' s => (ha.same s).t) ?_ ?_
    · rintro i x z H1 H1' Qy hz hi s1 ⟨rfl, hx⟩ hq
      obtain ⟨p, hp, rfl⟩ := map_get hx
      obtain ⟨v, hv, rfl⟩ := map_get hz
      obtain ⟨b, hb, rfl⟩ := map_get hv
      obtain ⟨Rp, lr⟩ := hR.2 i p b hp hb
      exact ⟨rfl, .ref p, rfl, .ref c, rfl, p, c, b, xs, rfl, Rp.same s1, hc.same s1, by omega, fun H2 s2 => hq H2 s2⟩
    · intro H2 s2 d2
      exact ⟨D, _, rfl, .inl ⟨SqL.of d2, fun T nT => q T _ (s2.trans (same_new nT)) upd_same⟩⟩
theorem ok_trow {f : Addr} {fd : FuncData} (F : Fun K "times_row" "times_row" s_trow f fd) (C_times_column : Cal P w K mg base 2 "times_column" ["table", "column"] spTcol) (C_turned : Cal P w K mg base 1 "turned" ["rows", "width"] spTurnedT) (m_len : mg "len" = none) : FnOk P w K mg base CX0 3 f fd ["row", "table"] spTrow := by
  have sc := sc_trow
  refine F.ok sc (fun vs H Q E h => ?_) (fun cdv A outer s H vs Q E hr h => ?_)
  · obtain ⟨c, a, B, xs, rfl, _⟩ := h
    rfl
  · obtain ⟨c, a, B, xs, rfl, ⟨ps, ha, hR⟩, hc, lx, h9, q⟩ := h
    refine ⟨_, (pss_one (ps_ret (call_ C_times_column (hr.mono (by decide)) (by rfl) (pa_cons (call_ C_turned (hr.mono (by decide)) (by rfl) (pa_cons (pv 1) (pa_cons (pe_callB call_len_seq (by rfl) m_len (by decide +kernel) (pa_cons (pv 0) pa_nil)) pa_nil))) (pa_cons (pv 0) pa_nil))))), ?_⟩
    refine ⟨.ref a, rfl, .ref c, rfl, c, _, rfl, .inr hc.1.t, ?_⟩
    rw [List.length_map, lx]
    refine ⟨a, B.length, ps, B, rfl, ha, hR, by omega, by omega, fun r qs H1 s1 g1 R1 => ?_⟩
    exact ⟨.ref c, rfl, r, c, _, B.length, xs, rfl, ⟨qs, g1, R1⟩, hc.same s1, lx, by rw [colsI_len]; omega, fun r2 H2 s2 g2 => q r2 H2 (s1.trans s2) g2⟩
end
end K16
namespace K16
open PySem PySem.Spec PyProof.Rows L2 Vk Vd
abbrev s_ldet : Stmt := topS 27
theorem sc_ldet : FnScope ["table", "j", "total", "sign", "inner", "row"] ["table"] (defScope s_ldet) := ⟨rfl, rfl, rfl, by decide +kernel, rfl, by decide +kernel, by decide +kernel⟩
def spLd (m : Nat) : Sp := fun vs H Q _ => ∃ (a : Addr) (B : List (List Int)), vs = [.ref a] ∧ TabR H a B B.length ∧ B.length < m ∧ ∀ H', Same H H' → Q (.int (det B.length (mL B))) H'
theorem mL_at {B : List (List Int)} {r c : Nat} {b : List Int} (h : B[r]? = some b) : mL B r c = b.getD c 0 := by
  unfold mL
  rw [List.getD_eq_getElem?_getD (l := B), h]
  rfl
theorem mL_mn {B : List (List Int)} {j : Nat} : ∀ r c, mL (B.tail.map fun b => b.take j ++ b.drop (j + 1)) r c = mn 0 j (mL B) r c := fun r c => by
  show _ = mL B (sk 0 r) (sk j c)
  rw [sk_zero]
  unfold mL
  by_cases h : r + 1 < B.length
  · have e1 : (B.tail.map fun b => b.take j ++ b.drop (j + 1)).getD r [] = (B.getD (r + 1) []).take j ++ (B.getD (r + 1) []).drop (j + 1) := by
      rw [List.getD_eq_getElem?_getD, List.getElem?_map, List.getElem?_tail, List.getD_eq_getElem?_getD, List.getElem?_eq_getElem h]
      rfl
    rw [e1, ← List.eraseIdx_eq_take_drop_succ, List.getD_eq_getElem?_getD, List.getD_eq_getElem?_getD (i := sk j c)]
    congr 1
    unfold sk
    split
    · next l => rw [List.getElem?_eraseIdx_of_lt l]
    · next l => rw [List.getElem?_eraseIdx_of_ge (by omega)]
  · have e1 : (B.tail.map fun b => b.take j ++ b.drop (j + 1)).getD r [] = [] := by
      rw [List.getD_eq_getElem?_getD, List.getElem?_eq_none (by rw [List.length_map, List.length_tail]; omega)]
      rfl
    have e2 : B.getD (r + 1) [] = [] := by
      rw [List.getD_eq_getElem?_getD, List.getElem?_eq_none (by omega)]
      rfl
    rw [e1, e2]
    rfl
theorem dp_rows {K : PySem.W.Frag} {H : Hp} {a : Addr} {B : List (List Int)} {n : Nat} (h : TabR H a B n) : Dp K H (.ref a) (.tuple (B.map dRow)) := by
  obtain ⟨ps, h1, h2⟩ := h
  refine .tup h1.t (dp_all ps _ (by rw [List.length_map, h2.1]) fun i q d e1 e2 => ?_)
  obtain ⟨z, hz, rfl⟩ := map_get e2
  exact dp_row (h2.2 i q z e1 hz).1.1
section
variable {P : Program} {w : World} {K : PySem.W.Frag} {mg : Str → Option Value} {base : Heap}
theorem ok_ldet {f : Addr} {fd : FuncData} {k m : Nat} (hm : m ≤ 6) (F : Fun K "_law_det" "_law_det" s_ldet f fd) (C__law_det : Cal P w K mg base k "_law_det" ["table"] (spLd m)) (m_len : mg "len" = none) (m_range : mg "range" = none) (m_tuple : mg "tuple" = none) : FnOk P w K mg base CX0 (k + 1) f fd ["table"] (spLd (m + 1)) := by
  have sc := sc_ldet
  refine F.ok sc (fun vs H Q E h => ?_) (fun cdv A outer s H vs Q E hr h => ?_)
  · obtain ⟨a, B, rfl, _⟩ := h
    rfl
  · obtain ⟨a, B, rfl, hT, hlm, q⟩ := h
    refine ⟨_, (pss_cons (ps_if (pt_cmpR (op_eqD hr.units) (pv 0) (pe_tup pa_nil) (nomark _))
      (pss_one (ps_ret pe_int))
      pss_nil)
    (pss_cons (ps_asg (pe_tup (pa_cons pe_int (pa_cons pe_int pa_nil))) (pg_tup (n := 2) (by rfl) (pgs_cons (pg_name (i := 2) sc.nd rfl (Or.inl rfl)) (pgs_cons (pg_name (i := 3) sc.nd rfl (Or.inl rfl)) pgs_nil))))
    (pss_cons (ps_for PassesOwn.never rfl (pi_range1 rfl m_range (pa_cons (pe_callB call_len_seq (by rfl) m_len (by decide +kernel) (pa_cons (pv 0) pa_nil)) pa_nil)) (pg_name (i := 1) sc.nd rfl (Or.inr rfl))
      (pss_cons (ps_if (pt_cmpR op_ne (pe_ix ix_tup (pe_ix ix_tup (pv 0) pe_int (fun _ _ => rfl)) (pv 1) (fun _ _ => rfl)) pe_int (nomark _))
      (pss_cons (ps_set (i := 4) sc.nd rfl (Or.inl rfl) (pe_callTy call_tuple_of (by rfl) m_tuple (by decide +kernel) (pa_cons (pe_lc (own := [("row", 5)]) (g := gName 5) (by rfl) sc.nd (pi_tup (pe_slice sl_tupA (pv 0) (po_some pe_int) po_none)) (blkOk_by (own := [("row", 5)]) (N := ["table", "j", "total", "sign", "inner", "row"]) (sc := defScope s_ldet) (by decide +kernel)) (fun _ _ _ _ _ => pg_name (i := 5) sc.nd rfl (Or.inl rfl)) (fun _ _ _ _ _ => pts_nil) (fun _ _ _ _ _ => (pe_op (op_catAK (K := K) rfl) (pe_slice (sl_tupAK (K := K) rfl) (pv 5) po_none (po_some (pv 1))) (pe_slice (sl_tupAK (K := K) rfl) (pv 5) (po_some (pe_op op_add (pv 1) pe_int)) po_none)))) pa_nil)))
    (pss_one (ps_set (i := 2) sc.nd rfl (Or.inl rfl) (pe_op op_add (pv 2) (pe_op op_mulW (pe_op op_mulW (pv 3) (pe_ix ix_tup (pe_ix ix_tup (pv 0) pe_int (fun _ _ => rfl)) (pv 1) (fun _ _ => rfl))) (call_ C__law_det (hr.mono (Nat.le_refl _)) (by rfl) (pa_cons (pv 4) pa_nil)))))))
      pss_nil)
    (pss_one (ps_set (i := 3) sc.nd rfl (Or.inl rfl) (pe_un un_neg (pv 3))))))
    (pss_one (ps_ret (pv 2)))))), ?_⟩
    have hT0 := hT
    obtain ⟨ps, ha, hR⟩ := hT
    have wid := hT0.w
    have hA : ∀ r c, (mL B r c).natAbs ≤ 2 ^ 300 := mL_sm fun r hr => (wid r hr).2
    refine ⟨.ref a, rfl, by show 0 ≤ sizeLine; decide, fun e ne => ?_⟩
    have s1 : Same H (upd H e (.tup [])) := same_new ne
    have g1 : Tp (upd H e (.tup [])) e [] := upd_same
    generalize upd H e (.tup []) = H1 at s1 g1 ⊢
    refine ⟨.tuple (B.map dRow), .tuple [], dp_rows (hT0.same s1), .tup g1.t .nil, (shaped_rows B).2, by decide, _, rfl, ?_⟩
    have eqe : PyData.eqv (.tuple (B.map dRow)) (.tuple []) = B.isEmpty := by
      cases B with
      | nil => rfl
      | cons a l => rfl
    rw [eqe]
    obtain ⟨n, hn⟩ : ∃ n, n = B.length := ⟨_, rfl⟩
    cases n with
    | zero =>
      have : B = [] := List.eq_nil_of_length_eq_zero hn.symm
      subst this
      exact iteT' rfl (q H1 s1)
    | succ n =>
      refine iteF' (by cases B with | nil => cases hn | cons a l => rfl) ?_
      have hp0 : ps[0]? = some (ps[0]'(by rw [hR.1]; omega)) := List.getElem?_eq_getElem _
      generalize ps[0]'(by rw [hR.1]; omega) = p0 at hp0
      have hb0 : B[0]? = some (B[0]'(by omega)) := List.getElem?_eq_getElem _
      generalize B[0]'(by omega) = b0 at hb0
      obtain ⟨R0, lb0⟩ := hR.2 0 p0 b0 hp0 hb0
      refine ⟨by show 2 ≤ sizeLine; decide, fun T nT => ?_⟩
      have s2 : Same H1 (upd H1 T (.tup [.int 0, .int 1])) := same_new nT
      have g2 : Tp (upd H1 T (.tup [.int 0, .int 1])) T [.int 0, .int 1] := upd_same
      generalize upd H1 T (.tup [.int 0, .int 1]) = H2 at s2 g2 ⊢
      have s12 := s1.trans s2
      refine ⟨T, _, rfl, g2.t, rfl, .int 0, [.int 1], rfl, .int 1, [], rfl, rfl, ?_⟩
      refine ⟨.ref a, rfl, a, _, rfl, .inr (ha.same s12).t, ((ps.map V.ref).length : Int), rfl, by omega, by rw [List.length_map, hR.1]; omega, ?_⟩
      have e0 : ((ps.map V.ref).length : Int).toNat = B.length := by
        rw [List.length_map, hR.1]
        omega
      rw [e0]
      obtain ⟨fj, hfj⟩ : ∃ fj : Nat → Int, fj = fun j => Vd.sg j * mL B 0 j * det n (mn 0 j (mL B)) := ⟨_, rfl⟩
      have eD : det B.length (mL B) = S B.length fj := by
        rw [← hn, hfj]
        rfl
      have fsm : ∀ j, (fj j).natAbs ≤ 2 ^ 2000 := fun j => by
        have h := det_abs (k := 300) n (mn 0 j (mL B)) (by omega) fun r c => hA _ _
        rw [hfj]
        show (Vd.sg j * mL B 0 j * det n (mn 0 j (mL B))).natAbs ≤ _
        rw [Int.natAbs_mul, Int.natAbs_mul, sg_abs, Nat.one_mul]
        refine Nat.le_trans (Nat.mul_le_mul (hA 0 j) h) ?_
        rw [← Nat.pow_add]
        refine Nat.pow_le_pow_right (by decide) ?_
        have : n * (300 + 4) ≤ 5 * 304 := Nat.mul_le_mul (by omega) (by omega)
        omega
      refine for_range (lo := 0) (n := B.length) (fun j σ H' => (∃ y1 y4 y5, σ = [some (.ref a), y1, some (.int (S j fj)), some (.int (Vd.sg j)), y4, y5]) ∧ Same H H') ⟨⟨none, none, none, rfl⟩, s12⟩ ?_ ?_
      · rintro j σ H3 hj ⟨⟨y1, y4, y5, rfl⟩, s3⟩
        have ej : (0 + (j : Int)) = ((j : Nat) : Int) := by omega
        refine seq_ ?_
        refine tifs_rest (fun σ' H' => (∃ y4 y5, σ' = [some (.ref a), some (.int (0 + j)), some (.int (S (j + 1) fj)), some (.int (Vd.sg j)), y4, y5]) ∧ Same H H') ?_ ?_
        · rintro σ' H' ⟨⟨y4, y5, rfl⟩, s4⟩
          refine ⟨.int (Vd.sg j), rfl, Vd.sg j, rfl, ⟨some (.int (0 + j)), y4, y5, ?_⟩, s4⟩
          rw [sg_succ]
          rfl
        · intro rest
          have gj := Vk.getD_at (xs := b0) (i := j) (by omega)
          have em := mL_at (c := j) hb0
          rw [← em] at gj
          refine ⟨.ref a, rfl, a, _, 0, .ref p0, rfl, rfl, (ha.same s3).t, atI_nat (j := 0) (get_map hp0), .int (0 + j), rfl, p0, _, 0 + j, .int (mL B 0 j), rfl, rfl, (R0.same s3).1.t, atI_at ej (get_map gj), rfl, _, rfl, ite2 (fun h => ?_) (fun h => ?_)⟩
          · refine ⟨.ref a, rfl, 1, rfl, ?_⟩
            unfold tNoPart
            refine slice_tp (ha.same s3) fun r1 H4 s4 g4 => ?_
            rw [show (some (1 : Int)) = some ((1 : Nat) : Int) from rfl, cut_from, ← List.map_drop] at g4
            have s34 := s3.trans s4
            have lR : (B.tail.map fun b => b.take j ++ b.drop (j + 1)).length = n := by
              rw [List.length_map, List.length_tail]
              omega
            have ld : ((ps.drop 1).map V.ref).length = n := by
              rw [List.length_map, List.length_drop, hR.1]
              omega
            refine ⟨r1, rfl, ⟨_, g4.t⟩, fun D nD => ?_⟩
            refine lc_tps (walk_tup (K := K) (a := r1) (xs := (ps.drop 1).map V.ref)) (B.tail.map fun b => b.take j ++ b.drop (j + 1)) (by rw [lR, ld]) (by rw [ld]; exact small (by omega)) nD (fun H' s => (g4.same s).t) ?_ ?_
            · rintro i x y H5 H5' Qy hy hi s5 ⟨rfl, hx⟩ hq
              obtain ⟨p, hp, rfl⟩ := map_get hx
              obtain ⟨b, hb, rfl⟩ := map_get hy
              rw [List.getElem?_drop] at hp
              rw [List.getElem?_tail] at hb
              obtain ⟨Rp, lb⟩ := hR.2 (i + 1) p b (by rw [Nat.add_comm]; exact hp) hb
              have R5 := Rp.same (s34.trans s5)
              refine ⟨rfl, .ref p, rfl, .int (0 + j), rfl, 0 + j, rfl, ?_⟩
              refine slice_tp R5.1 fun r5 H6 s6 g6 => ?_
              rw [ej, cut_to, ← List.map_take] at g6
              refine ⟨.ref p, rfl, .int (0 + j), rfl, 0 + j, 1, rfl, rfl, 0 + j + 1, rfl, ?_⟩
              refine slice_tp (R5.same s6).1 fun r7 H7 s7 g7 => ?_
              rw [show (0 + (j : Int) + 1) = ((j + 1 : Nat) : Int) by omega, cut_from, ← List.map_drop] at g7
              refine cat_tp (g6.same s7) g7 (by rw [List.length_map, List.length_map, List.length_take, List.length_drop]; exact Nat.le_of_lt (small (by omega))) fun r8 H8 s8 g8 => ?_
              rw [← List.map_append] at g8
              exact hq r8 H8 ((s6.trans s7).trans s8) g8
            intro H5 us s5 d5 W5
            refine ⟨D, _, rfl, .inl ⟨SqL.of d5, fun T2 nT2 => ?_⟩⟩
            have s6 : Same H5 (upd H5 T2 (.tup (us.map V.ref))) := same_new nT2
            have g6 : Tp (upd H5 T2 (.tup (us.map V.ref))) T2 (us.map V.ref) := upd_same
            generalize upd H5 T2 (.tup (us.map V.ref)) = H6 at s6 g6 ⊢
            have s36 := s34.trans (s5.trans s6)
            have W6 := W5.same s6
            have TR : TabR H6 T2 (B.tail.map fun b => b.take j ++ b.drop (j + 1)) (B.tail.map fun b => b.take j ++ b.drop (j + 1)).length := by
              refine ⟨us, g6, W6.1, fun i q r e1 e2 => ?_⟩
              have hT := W6.2 i q r e1 e2
              obtain ⟨b, hb, rfl⟩ := map_get e2
              rw [List.getElem?_tail] at hb
              obtain ⟨w1, w2⟩ := wid b (List.mem_of_getElem? hb)
              refine ⟨⟨hT, ?_, fun x hx => ?_⟩, ?_⟩
              · rw [List.length_append, List.length_take, List.length_drop]
                omega
              · rcases List.mem_append.mp hx with h | h
                · exact w2 x (List.mem_of_mem_take h)
                · exact w2 x (List.mem_of_mem_drop h)
              · rw [lR, List.length_append, List.length_take, List.length_drop]
                omega
            have em2 : det (B.tail.map fun b => b.take j ++ b.drop (j + 1)).length (mL (B.tail.map fun b => b.take j ++ b.drop (j + 1))) = det n (mn 0 j (mL B)) := by
              rw [lR]
              exact det_congr n fun r c _ _ => mL_mn r c
            generalize (B.tail.map fun b => b.take j ++ b.drop (j + 1)) = R at TR em2 lR
            have z1 : SmZ 301 (mL B 0 j) := Nat.lt_of_le_of_lt (hA 0 j) (Nat.pow_lt_pow_right (by decide) (by decide))
            have zs : SmZ 2 (Vd.sg j) := by
              unfold SmZ
              rw [sg_abs]
              decide
            have zd : SmZ 2000 (det n (mn 0 j (mL B))) := by
              have h := det_abs (k := 300) n (mn 0 j (mL B)) (by omega) fun r c => hA _ _
              refine Nat.lt_of_le_of_lt h (Nat.pow_lt_pow_right (by decide) ?_)
              have : n * (300 + 4) ≤ 5 * 304 := Nat.mul_le_mul (by omega) (by omega)
              omega
            refine ⟨.int (S j fj), rfl, .int (Vd.sg j), rfl, .ref a, rfl, a, _, 0, .ref p0, rfl, rfl, (ha.same s36).t, atI_nat (j := 0) (get_map hp0), .int (0 + j), rfl, p0, _, 0 + j, .int (mL B 0 j), rfl, rfl, (R0.same s36).1.t, atI_at ej (get_map gj), _, _, rfl, rfl, mulB (by decide) (by decide) zs z1 (by decide), .ref T2, rfl, T2, R, rfl, TR, by omega, fun H7 s7 => ?_⟩
            rw [em2]
            refine ⟨_, _, rfl, rfl, mulB (by decide) (by decide) (smz_mul zs z1) zd (by decide), _, _, rfl, rfl, rest _ _ ⟨⟨some (.ref T2), y5, ?_⟩, s36.trans s7⟩⟩
            have e : S (j + 1) fj = S j fj + Vd.sg j * mL B 0 j * det n (mn 0 j (mL B)) := by
              show S j fj + fj j = _
              rw [hfj]
            rw [e]
            rfl
          · have z : mL B 0 j = 0 := by
              by_cases z : mL B 0 j = 0
              · exact z
              · refine absurd ?_ h
                rw [decide_eq_false (fun e => z (V.int.inj e))]
                rfl
            refine rest _ _ ⟨⟨y4, y5, ?_⟩, s3⟩
            have e : S (j + 1) fj = S j fj := by
              show S j fj + fj j = S j fj
              rw [hfj]
              show _ + Vd.sg j * mL B 0 j * det n (mn 0 j (mL B)) = _
              rw [z, Int.mul_zero, Int.zero_mul, Int.add_zero]
            rw [e]
            rfl
      · rintro σ H3 ⟨⟨y1, y4, y5, rfl⟩, s3⟩
        refine ⟨.int (S B.length fj), rfl, ?_⟩
        rw [← eD]
        exact q H3 s3
end
end K16
namespace Vd
theorem sg_add (i j : Nat) : sg (i + j) = sg i * sg j := by
  unfold sg
  split <;> split <;> split <;> omega
theorem mvd_id (i r : Nat) : mvd (fun x => x) 0 i (r + 1) = sk i r := by
  unfold mvd sk
  rw [if_neg (by omega), if_neg (by omega)]
  by_cases h : r < i
  · rw [if_pos (by omega), if_pos h]
    rfl
  · rw [if_neg (by omega), if_neg h]
/-- along row i -/
theorem exp_row {n : Nat} (A : Mt) {i : Nat} (hi : i < n + 1) : det (n + 1) A = S (n + 1) fun j => sg (i + j) * A i j * det n (mn i j A) := by
  have e := det_mvd (n := n + 1) A 0 i (fun x => x) (by omega)
  have l : det (n + 1) (fun r c => A (mvd (fun x => x) 0 i r) c) = S (n + 1) fun j => sg j * A i j * det n (mn i j A) := by
    refine S_congr _ fun j hj => ?_
    show sg j * A (mvd (fun x => x) 0 i 0) j * det n (mn 0 j fun r c => A (mvd (fun x => x) 0 i r) c) = _
    have e0 : mvd (fun x => x) 0 i 0 = i := by
      unfold mvd
      rw [if_neg (by omega), if_pos rfl, Nat.zero_add]
    have e1 : (mn 0 j fun r c => A (mvd (fun x => x) 0 i r) c) = mn i j A := by
      funext r c
      show A (mvd (fun x => x) 0 i (sk 0 r)) (sk j c) = A (sk i r) (sk j c)
      rw [sk_zero, mvd_id]
    rw [e0, e1]
  rw [l] at e
  have q := sg_sq i
  have m : sg i * (S (n + 1) fun j => sg j * A i j * det n (mn i j A)) = det (n + 1) A := by
    rw [e, ← Int.mul_assoc, q, Int.one_mul]
  rw [← m, ← S_mul]
  exact S_congr _ fun j _ => by rw [sg_add]; grind
theorem mn_upr (A : Mt) (k j : Nat) (v : Nat → Int) : mn k j (up A k v) = mn k j A := by
  funext r c
  show up A k v (sk k r) (sk j c) = A (sk k r) (sk j c)
  rw [up_ne (sk_ne k r)]
/-- along another row -/
theorem exp_off {n : Nat} (A : Mt) {i k : Nat} (hi : i < n + 1) (hk : k < n + 1) (ne : i ≠ k) : (S (n + 1) fun j => sg (k + j) * A i j * det n (mn k j A)) = 0 := by
  have z := (alt_det (n + 1)).eq_rows (up A k (A i)) hi hk ne fun c _ => by rw [up_at, up_ne ne]
  rw [exp_row _ hk] at z
  rw [← z]
  exact S_congr _ fun j _ => by rw [up_at, mn_upr]
/-- the cofactor of place i, j -/
def cof (n : Nat) (A : Mt) (i j : Nat) : Int := sg (i + j) * det n (mn i j A)
theorem cof_row {n : Nat} (A : Mt) {i k : Nat} (hi : i < n + 1) (hk : k < n + 1) : (S (n + 1) fun j => A i j * cof n A k j) = if i = k then det (n + 1) A else 0 := by
  by_cases e : i = k
  · rw [if_pos e, exp_row A hi, ← e]
    exact S_congr _ fun j _ => by unfold cof; grind
  · rw [if_neg e, ← exp_off A hi hk e]
    exact S_congr _ fun j _ => by unfold cof; grind
theorem cof_tr (n : Nat) (A : Mt) (i j : Nat) : cof n (fun r c => A c r) i j = cof n A j i := by
  unfold cof
  rw [Nat.add_comm i j]
  congr 1
  exact det_tr n (mn j i A)
theorem cof_col {n : Nat} (A : Mt) {i k : Nat} (hi : i < n + 1) (hk : k < n + 1) : (S (n + 1) fun j => cof n A j i * A j k) = if i = k then det (n + 1) A else 0 := by
  have e := cof_row (fun r c => A c r) hk hi
  rw [det_tr] at e
  rw [show (if i = k then det (n + 1) A else 0) = if k = i then det (n + 1) A else 0 by
    by_cases h : i = k
    · rw [if_pos h, if_pos h.symm]
    · rw [if_neg h, if_neg (Ne.symm h)], ← e]
  exact S_congr _ fun j _ => by rw [cof_tr]; grind
end Vd
/-! Raising and hearing an error without attributes. -/
namespace Vk
open PySem PySem.Spec PyProof.Rows L2
/-- X(), X an own exception class without own __init__ -/
theorem pmk_own0 {X : Cx} {C : Addr} {bmB : List Value} {B newId initId : String} {x : Str} {p pos : Pos} (F : ExcBaseFacts B newId initId bmB) (q : PySem.W.excIn X.K C bmB newId = true) (gC : X.mg x = some (.ref C))
    (kC : PySem.W.keepIn X.K (.ref C) = true) (r : Raises X (.ref C)) (hg : Gl X x) (hdb : (x == ("__debug__" : Str)) = false := by decide) :
    PMk X (.Call (.Name x p) [] [] pos) (fun _ H Q => Q (.ref C) none H) := by
  intro pins s σ H Q I h
  obtain ⟨bm, N, nm, qn, bs, hd, sn, sub, ab, col, dd, k0, k1, k2, k3, k5, mN, hC, hN, hni, T⟩ := exc_obj I.kIn q
  refine wpAny_Call_Name_kw (ld_glob I hg gC (PySem.W.callWith_K0 I.kIn kC ?_) hdb)
  exact wpAny_call_exc_subT F T hC hN hni (fun h' e hm => mk_of I hm r h (I.hok.gone hm.new)) (Nat.zero_le _)
/-- what is known of an own exception class -/
structure ExcT (K : PySem.W.Frag) (mg : Str → Option Value) (x : Str) (C : Addr) : Prop where
  g : mg x = some (.ref C)
  ex : PySem.W.excIn K C [.type "ValueError", .type "Exception", .type "BaseException", .type "object"] "ValueError.__new__" = true
  k : PySem.W.keepIn K (.ref C) = true
  b : PySem.W.subIn K (.ref C) (.type "BaseException") = some true
  t : PySem.W.typeIn K (.ref C) = some (.type "type")
/-- the def that may refuse, by its name -/
def CalX (P : Program) (w : World) (K : PySem.W.Frag) (mg : Str → Option Value) (base : Heap) (k : Nat) (x : Str) (ps : List Str) (sp : Sp) : Prop :=
  ∃ f fd, FnOk P w K mg base (L2.CX P w) k f fd ps sp ∧ mg x = some (.ref f) ∧ PySem.W.keepIn K (.ref f) = true ∧ Binds K fd ps []
/-- the body of a def keeps its promise -/
def Bdy (P : Program) (w : World) (K : PySem.W.Frag) (mg : Str → Option Value) (base : Heap) (k : Nat) (f : Addr) (qual : Str) (st : Stmt) (N : List Str) (sp : Sp) : Prop :=
  ∀ (cdv : Value) (A : Around) (outer : List Env) (s : Shared) (H : Hp) (vs : List V) (Q : VK) (E : XK), Room k (A.deeper (envOfC qual (defScope st) s.heap.objs.size f cdv)) → sp vs H Q E →
    ∃ t, PSs (cxOf CX0 P w K mg base N qual (defScope st) f cdv A outer s H E).nox (defBody st) t ∧ t { nx := fun _ H' => Q .non H', rt := Q } (start N vs) H
section
variable {P : Program} {w : World} {K : PySem.W.Frag} {mg : Str → Option Value} {base : Heap}
theorem ok_bdy {x qual : Str} {st : Stmt} {f : Addr} {fd : FuncData} {N ps : List Str} {k : Nat} {sp : Sp} (F : Fun K x qual st f fd) (S : FnScope N ps (defScope st)) (len : ∀ vs H Q E, sp vs H Q E → vs.length = ps.length) (hbody : Bdy P w K mg base k f qual st N sp) : FnOk P w K mg base CX0 (k + 1) f fd ps sp := F.ok S len hbody
theorem okX_bdy {x qual : Str} {st : Stmt} {f : Addr} {fd : FuncData} {N ps : List Str} {k : Nat} {sp : Sp} (F : Fun K x qual st f fd) (S : FnScope N ps (defScope st)) (len : ∀ vs H Q E, sp vs H Q E → vs.length = ps.length) (hbody : Bdy P w K mg base k f qual st N sp) : FnOk P w K mg base (L2.CX P w) (k + 1) f fd ps sp := by
  refine F.okX S len fun cdv A outer s H vs Q E hr hsp => ?_
  obtain ⟨t, h, q⟩ := hbody cdv A outer s H vs Q E hr hsp
  exact ⟨t, PSs.nox (X := cxOf (L2.CX P w) P w K mg base N qual (defScope st) f cdv A outer s H E) h, q⟩
theorem fn_or {CX : CXT} {k : Nat} {f : Addr} {fd : FuncData} {ps : List Str} {sp1 sp2 : Sp} (a : FnOk P w K mg base CX k f fd ps sp1) (b : FnOk P w K mg base CX k f fd ps sp2) : FnOk P w K mg base CX k f fd ps (fun vs H Q E => sp1 vs H Q E ∨ sp2 vs H Q E) :=
  ⟨fun vs H Q E h => h.elim (a.len vs H Q E) (b.len vs H Q E), fun A outer s H args us vs Q E hr he hb hv hs => hs.elim (a.run A outer s H args us vs Q E hr he hb hv) (b.run A outer s H args us vs Q E hr he hb hv)⟩
end
end Vk
namespace K16
open PySem PySem.Spec PyProof.Rows L2 Vk Vd
abbrev s_parts : Stmt := topS 16
theorem sc_parts : FnScope ["rays", "w", "whole", "numbers", "i", "number"] ["rays", "w"] (defScope s_parts) := ⟨rfl, rfl, rfl, by decide +kernel, rfl, by decide +kernel, by decide +kernel⟩
abbrev s_letter : Stmt := topS 8
theorem sc_letter : FnScope ["i", "n", "j"] ["i", "n"] (defScope s_letter) := ⟨rfl, rfl, rfl, by decide +kernel, rfl, by decide +kernel, by decide +kernel⟩
abbrev s_index : Stmt := topS 18
theorem sc_index : FnScope ["rays", "size"] ["rays"] (defScope s_index) := ⟨rfl, rfl, rfl, by decide +kernel, rfl, by decide +kernel, by decide +kernel⟩
abbrev s_rest : Stmt := topS 19
theorem sc_rest : FnScope ["number", "size", "rest"] ["number", "size"] (defScope s_rest) := ⟨rfl, rfl, rfl, by decide +kernel, rfl, by decide +kernel, by decide +kernel⟩
/-- the determinant with row i replaced -/
def repD (B : List (List Int)) (xs : List Int) (i : Nat) : Int := det B.length (mL (B.set i xs))
def sgnZ (d : Int) : Int := if d < 0 then -1 else 1
def numsI (B : List (List Int)) (xs : List Int) : List Int := (List.range B.length).map fun i => sgnZ (det B.length (mL B)) * repD B xs i
def spParts : Sp := fun vs H Q _ => ∃ (a c : Addr) (B : List (List Int)) (xs : List Int), vs = [.ref a, .ref c] ∧ TabR H a B B.length ∧ B.length ≤ 6 ∧ Row H c xs ∧ xs.length = B.length ∧ det B.length (mL B) ≠ 0 ∧
  ∀ r p H', Same H H' → Tp H' r [.ref p, .int ((det B.length (mL B)).natAbs : Int)] → Tp H' p ((numsI B xs).map V.int) → Q (.ref r) H'
/-- the unit row's letters, with the constant at the front -/
def ltrI (i n : Nat) : List Int := (List.range (n + 1)).map fun j => if j = i + 1 then 1 else 0
def spLetter : Sp := fun vs H Q _ => ∃ i n : Nat, vs = [.int i, .int n] ∧ n ≤ 9 ∧ ∀ r H', Same H H' → Tp H' r ((ltrI i n).map V.int) → Q (.ref r) H'
def spIndex : Sp := fun vs H Q _ => ∃ (a : Addr) (B : List (List Int)), vs = [.ref a] ∧ TabR H a B B.length ∧ B.length ≤ 6 ∧ det B.length (mL B) ≠ 0 ∧ ∀ H', Same H H' → Q (.int ((det B.length (mL B)).natAbs : Int)) H'
def spIndexX (C : Addr) : Sp := fun vs H Q E => ∃ (a : Addr) (B : List (List Int)), vs = [.ref a] ∧ TabR H a B B.length ∧ B.length ≤ 6 ∧ det B.length (mL B) = 0 ∧ ∀ H', Same H H' → E (.ref C) none H'
def restI (z d : Int) : Int := if 2 * (z.fmod d) > d then z.fmod d - d else z.fmod d
def spRest : Sp := fun vs H Q _ => ∃ z d : Int, vs = [.int z, .int d] ∧ 0 < d ∧ SmZ 5000 d ∧ Q (.int (restI z d)) H
section
variable {P : Program} {w : World} {K : PySem.W.Frag} {mg : Str → Option Value} {base : Heap}
theorem bd_parts {f : Addr} (C_determinant : Cal P w K mg base 3 "determinant" ["table"] spDet) (m_tuple : mg "tuple" = none) (m_range : mg "range" = none) (m_len : mg "len" = none) (m_abs : mg "abs" = none) : Bdy P w K mg base 3 f "parts_of" s_parts ["rays", "w", "whole", "numbers", "i", "number"] spParts := by
  have sc := sc_parts
  intro cdv A outer s H vs Q E hr h
  obtain ⟨a, c, B, xs, rfl, hT, h5, hc, lx, d0, q⟩ := h
  refine ⟨_, (pss_cons (ps_set (i := 2) sc.nd rfl (Or.inl rfl) (call_ C_determinant (hr.mono (by decide)) (by rfl) (pa_cons (pv 0) pa_nil)))
    (pss_cons (ps_if (pt_cmpR op_eq (pv 2) pe_int (nomark _))
      (pss_one ps_never)
      pss_nil)
    (pss_cons (ps_setLc (i := 3) (own := [("i", 4)]) (g := gName 4) (by rfl) sc.nd rfl rfl (sw_true rfl rfl rfl (by decide +kernel)) (pi_range1 rfl m_range (pa_cons (pe_callB call_len_seq (by rfl) m_len (by decide +kernel) (pa_cons (pv 0) pa_nil)) pa_nil)) (blkOk_by (own := [("i", 4)]) (N := ["rays", "w", "whole", "numbers", "i", "number"]) (sc := defScope s_parts) (by decide +kernel)) (fun _ _ _ _ _ => pg_name (i := 4) sc.nd rfl (Or.inl rfl)) (fun _ _ _ _ _ => pts_nil) (fun _ _ _ _ _ => (call_ C_determinant (hr.mono (by decide)) (by rfl) (pa_cons (pe_tup (pa_starK (K := K) rfl (pe_slice (sl_tupAK (K := K) rfl) (pv 0) po_none (po_some (pv 4))) (pa_cons (pv 1) (pa_starK (K := K) rfl (pe_slice (sl_tupAK (K := K) rfl) (pv 0) (po_some (pe_op op_add (pv 4) pe_int)) po_none) pa_nil)))) pa_nil))))
    (pss_cons (ps_if (pt_cmpR op_lt (pv 2) pe_int (nomark _))
      (pss_one (ps_setLc (i := 3) (own := [("number", 5)]) (g := gName 5) (by rfl) sc.nd rfl rfl (sw_true rfl rfl rfl (by decide +kernel)) (pi_list (pv 3)) (blkOk_by (own := [("number", 5)]) (N := ["rays", "w", "whole", "numbers", "i", "number"]) (sc := defScope s_parts) (by decide +kernel)) (fun _ _ _ _ _ => pg_name (i := 5) sc.nd rfl (Or.inl rfl)) (fun _ _ _ _ _ => pts_nil) (fun _ _ _ _ _ => (pe_un un_neg (pv 5)))))
      pss_nil)
    (pss_one (ps_ret (pe_tup (pa_cons (pe_callTy call_tuple_of (by rfl) m_tuple (by decide +kernel) (pa_cons (pv 3) pa_nil)) (pa_cons (pe_callB call_abs (by rfl) m_abs (by decide +kernel) (pa_cons (pv 2) pa_nil)) pa_nil))))))))), ?_⟩
  refine ⟨.ref a, rfl, a, B, rfl, hT, by omega, fun H1 s1 => ?_⟩
  have wid := hT.w
  have hT1 := hT.same s1
  obtain ⟨ps, ha, hR⟩ := id hT1
  have lp : ps.length = B.length := hR.1
  obtain ⟨d, hd⟩ : ∃ d, d = det B.length (mL B) := ⟨_, rfl⟩
  rw [← hd] at d0 q ⊢
  refine ⟨.int d, rfl, rfl, _, rfl, ite2 (fun h => absurd (V.int.inj (of_decide_eq_true h)) d0) (fun _ => ?_)⟩
  refine ⟨.ref a, rfl, a, _, rfl, .inr ha.t, ((ps.map V.ref).length : Int), rfl, by omega, by rw [List.length_map]; omega, fun D nD => ?_⟩
  have e0 : ((ps.map V.ref).length : Int).toNat = B.length := by
    rw [List.length_map]
    omega
  rw [e0]
  refine lc_to (walk_range (lo := 0) (n := B.length)) (((List.range B.length).map fun i => repD B xs i).map V.int) (by rw [List.length_map, List.length_map, List.length_range]) (small (by omega)) nD (fun H' s => True.intro) ?_ ?_
  · rintro i x z H2 H2' Qy hz hi s2 ⟨rfl, rfl⟩ hq
    obtain ⟨v, hv, rfl⟩ := map_get hz
    rw [List.getElem?_map, List.getElem?_range hi] at hv
    obtain rfl := Option.some.inj hv
    have ei : (0 + (i : Int)) = ((i : Nat) : Int) := by omega
    refine ⟨rfl, .ref a, rfl, .int (0 + i), rfl, 0 + i, rfl, ?_⟩
    refine slice_tp (ha.same s2) fun r3 H3 s3 g3 => ?_
    rw [ei, cut_to, ← List.map_take] at g3
    refine ⟨r3, _, rfl, .inl g3.t, .ref c, rfl, ?_⟩
    refine ⟨.ref a, rfl, .int (0 + i), rfl, 0 + i, 1, rfl, rfl, 0 + i + 1, rfl, ?_⟩
    unfold tNoPart
    dsimp only
    refine slice_tp ((ha.same s2).same s3) fun r4 H4 s4 g4 => ?_
    rw [show (0 + (i : Int) + 1) = ((i + 1 : Nat) : Int) by omega, cut_from, ← List.map_drop] at g4
    refine ⟨r4, _, rfl, .inl g4.t, ?_⟩
    have eset : (ps.take i).map V.ref ++ (V.ref c :: ((ps.drop (i + 1)).map V.ref ++ [])) = (ps.set i c).map V.ref := by
      rw [List.append_nil, ← List.map_cons, ← List.map_append, List.set_eq_take_append_cons_drop, if_pos (by omega)]
    unfold tNil
    dsimp only
    rw [eset]
    refine ⟨by rw [List.length_map, List.length_set, lp]; exact Nat.le_of_lt (small (by omega)), fun T nT => ?_⟩
    have s5 : Same H4 (upd H4 T (.tup ((ps.set i c).map V.ref))) := same_new nT
    have g5 : Tp (upd H4 T (.tup ((ps.set i c).map V.ref))) T ((ps.set i c).map V.ref) := upd_same
    generalize upd H4 T (.tup ((ps.set i c).map V.ref)) = H5 at s5 g5 ⊢
    have s25 := ((s2.trans s3).trans s4).trans s5
    have R5 : Rws H5 (ps.set i c) (B.set i xs) B.length := by
      refine ⟨by rw [List.length_set, List.length_set]; exact hR.1, fun y p r e1 e2 => ?_⟩
      by_cases e : i = y
      · subst e
        rw [List.getElem?_set_self (by omega)] at e1
        rw [List.getElem?_set_self hi] at e2
        obtain rfl := Option.some.inj e1
        obtain rfl := Option.some.inj e2
        exact ⟨(hc.same s1).same s25, lx⟩
      · rw [List.getElem?_set_ne e] at e1 e2
        have q := hR.2 y p r e1 e2
        exact ⟨q.1.same s25, q.2⟩
    refine ⟨T, B.set i xs, rfl, ⟨ps.set i c, g5, by rw [List.length_set]; exact R5⟩, by rw [List.length_set]; omega, fun H6 s6 => ?_⟩
    rw [List.length_set]
    exact hq H6 (((s3.trans s4).trans s5).trans s6)
  intro H2 s2 d2
  refine gname_ ?_
  dsimp only
  refine seq_ ?_
  have s12 := s1.trans s2
  refine tifs_rest (fun σ' H' => ∃ L y4 y5, σ' = [some (.ref a), some (.ref c), some (.int d), some (.ref L), y4, y5] ∧ Same H H' ∧ H' L = some (.lst ((numsI B xs).map V.int))) ?_ ?_
  · rintro σ' H3 ⟨L, y4, y5, rfl, s3, g3⟩
    refine ⟨.ref L, rfl, L, _, rfl, .inl ⟨SqL.of g3, fun T nT => ?_⟩⟩
    have s4 : Same H3 (upd H3 T (.tup ((numsI B xs).map V.int))) := same_new nT
    have g4 : Tp (upd H3 T (.tup ((numsI B xs).map V.int))) T ((numsI B xs).map V.int) := upd_same
    generalize upd H3 T (.tup ((numsI B xs).map V.int)) = H4 at s4 g4 ⊢
    refine ⟨.int d, rfl, d, rfl, ?_⟩
    rw [show (if d < 0 then -d else d) = (d.natAbs : Int) by split <;> omega]
    refine ⟨by show 2 ≤ sizeLine; decide, fun R nR => ?_⟩
    exact q R T _ ((s3.trans s4).trans (same_new nR)) upd_same (g4.same (same_new nR))
  · intro rest
    have eN : ∀ z : Int, sgnZ d = z → numsI B xs = (List.range B.length).map fun i => z * repD B xs i := fun z e => by
      unfold numsI
      rw [← hd, e]
    refine ⟨.int d, rfl, d, 0, rfl, rfl, _, rfl, ite2 (fun h => ?_) (fun h => ?_)⟩
    · have h := of_decide_eq_true h
      have e1 := eN (-1) (if_pos h)
      refine ⟨.ref D, rfl, D, rfl, ⟨_, SqL.of d2⟩, fun D2 nD2 => ?_⟩
      refine lc_to (walk_list (K := K) (a := D) (xs := ((List.range B.length).map fun i => repD B xs i).map V.int)) ((numsI B xs).map V.int) (by rw [e1, List.length_map, List.length_map, List.length_map, List.length_map]) (by rw [List.length_map, List.length_map, List.length_range]; exact small (by omega)) nD2 (fun H' s => SqL.of (s _ _ d2)) ?_ ?_
      · rintro i x z H3 H3' Qy hz hi s3 ⟨rfl, hx⟩ hq
        obtain ⟨v, hv, rfl⟩ := map_get hz
        obtain ⟨u, hu, rfl⟩ := map_get hx
        rw [List.length_map, List.length_map, List.length_range] at hi
        rw [e1, List.getElem?_map, List.getElem?_range hi] at hv
        rw [List.getElem?_map, List.getElem?_range hi] at hu
        obtain rfl := Option.some.inj hu
        obtain rfl := Option.some.inj hv
        refine ⟨rfl, .int (repD B xs i), rfl, repD B xs i, rfl, ?_⟩
        have hq : Qy (.int (-1 * repD B xs i)) H3' := hq _ (Same.refl _)
        rw [show -1 * repD B xs i = - repD B xs i by omega] at hq
        exact hq
      · intro H3 s3 d3
        exact rest _ _ ⟨D2, none, none, rfl, s12.trans s3, d3⟩
    · have h : ¬ d < 0 := fun z => h (decide_eq_true z)
      have e1 := eN 1 (if_neg h)
      refine rest _ _ ⟨D, none, none, rfl, s12, ?_⟩
      rw [d2, e1]
      congr 3
      exact List.map_congr_left fun i _ => (Int.one_mul _).symm
theorem ok_parts {f : Addr} {fd : FuncData} (F : Fun K "parts_of" "parts_of" s_parts f fd) (C_determinant : Cal P w K mg base 3 "determinant" ["table"] spDet) (m_tuple : mg "tuple" = none) (m_range : mg "range" = none) (m_len : mg "len" = none) (m_abs : mg "abs" = none) : FnOk P w K mg base CX0 4 f fd ["rays", "w"] spParts :=
  ok_bdy F sc_parts (fun vs H Q E h => by obtain ⟨a, c, B, xs, rfl, _⟩ := h; rfl) (bd_parts C_determinant m_tuple m_range m_len m_abs)
theorem ok_letter {f : Addr} {fd : FuncData} (F : Fun K "letter_form" "letter_form" s_letter f fd) (m_tuple : mg "tuple" = none) (m_range : mg "range" = none) (m_int : mg "int" = none) : FnOk P w K mg base CX0 1 f fd ["i", "n"] spLetter := by
  have sc := sc_letter
  refine F.ok sc (fun vs H Q E h => ?_) (fun cdv A outer s H vs Q E hr h => ?_)
  · obtain ⟨i, n, rfl, _⟩ := h
    rfl
  · obtain ⟨i, n, rfl, hn, q⟩ := h
    refine ⟨_, (pss_one (ps_ret (pe_callTy call_tuple_of (by rfl) m_tuple (by decide +kernel) (pa_cons (pe_lc (own := [("j", 2)]) (g := gName 2) (by rfl) sc.nd (pi_range1 rfl m_range (pa_cons (pe_op op_add (pv 1) pe_int) pa_nil)) (blkOk_by (own := [("j", 2)]) (N := ["i", "n", "j"]) (sc := defScope s_letter) (by decide +kernel)) (fun _ _ _ _ _ => pg_name (i := 2) sc.nd rfl (Or.inl rfl)) (fun _ _ _ _ _ => pts_nil) (fun _ _ _ _ _ => (pe_callTy call_int1 (by rfl) m_int (by decide +kernel) (pa_cons (pe_cmpR op_eq (pv 2) (pe_op op_add (pv 0) pe_int) (nomark _)) pa_nil)))) pa_nil)))), ?_⟩
    refine ⟨.int n, rfl, n, 1, rfl, rfl, (n : Int) + 1, rfl, by omega, by omega, fun D nD => ?_⟩
    have e0 : ((n : Int) + 1).toNat = n + 1 := by omega
    rw [e0]
    refine lc_to (walk_range (lo := 0) (n := n + 1)) ((ltrI i n).map V.int) (by unfold ltrI; rw [List.length_map, List.length_map, List.length_range]) (small (by omega)) nD (fun H' s => True.intro) ?_ ?_
    · rintro j x z H2 H2' Qy hz hi s2 ⟨rfl, rfl⟩ hq
      obtain ⟨v, hv, rfl⟩ := map_get hz
      unfold ltrI at hv
      rw [List.getElem?_map, List.getElem?_range hi] at hv
      obtain rfl := Option.some.inj hv
      refine ⟨rfl, .int (0 + j), rfl, .int i, rfl, i, 1, rfl, rfl, rfl, .inr ⟨_, rfl, ?_⟩⟩
      have e : decide (V.int (0 + (j : Int)) = V.int ((i : Int) + 1)) = decide (j = i + 1) := decide_eq_decide.mpr ⟨fun h => by have := V.int.inj h; omega, fun h => by rw [h]; congr 1; omega⟩
      show Qy (V.int (if decide (V.int (0 + (j : Int)) = V.int ((i : Int) + 1)) = true then 1 else 0)) H2'
      rw [e]
      have hq := hq _ (Same.refl _)
      by_cases c : j = i + 1
      · rw [decide_eq_true c, if_pos rfl]
        rw [show (fun j => if j = i + 1 then (1 : Int) else 0) j = 1 from if_pos c] at hq
        exact hq
      · rw [decide_eq_false c, if_neg (by decide)]
        rw [show (fun j => if j = i + 1 then (1 : Int) else 0) j = 0 from if_neg c] at hq
        exact hq
    intro H2 s2 d2
    refine ⟨D, _, rfl, .inl ⟨SqL.of d2, fun T nT => ?_⟩⟩
    exact q T _ (s2.trans (same_new nT)) upd_same
theorem ok_rest {f : Addr} {fd : FuncData} (F : Fun K "_nearest_rest" "_nearest_rest" s_rest f fd) : FnOk P w K mg base CX0 1 f fd ["number", "size"] spRest := by
  have sc := sc_rest
  refine F.ok sc (fun vs H Q E h => ?_) (fun cdv A outer s H vs Q E hr h => ?_)
  · obtain ⟨z, d, rfl, _⟩ := h
    rfl
  · obtain ⟨z, d, rfl, d0, dz, q⟩ := h
    refine ⟨_, (pss_cons (ps_set (i := 2) sc.nd rfl (Or.inl rfl) (pe_op op_modN (pv 0) (pv 1)))
    (pss_one (ps_ret (pe_ifExp (pt_cmpR op_gt (pe_op op_mulW pe_int (pv 2)) (pv 1) (nomark _)) (pe_op op_sub (pv 2) (pv 1)) (pv 2))))), ?_⟩
    refine ⟨.int z, rfl, .int d, rfl, z, d, rfl, rfl, by omega, ?_⟩
    have m0 := Int.fmod_nonneg_of_pos z d0
    have m1 := Int.fmod_lt_of_pos z d0
    have mz : SmZ 5000 (z.fmod d) := Nat.lt_of_le_of_lt (by omega) dz
    refine gname_ ?_
    refine ⟨.int (z.fmod d), rfl, 2, z.fmod d, rfl, rfl, mulB (k := 2) (j := 5000) (by decide) (by decide) (by show (2 : Int).natAbs < 4; decide) mz (by decide), .int d, rfl, _, _, rfl, rfl, _, rfl, ?_⟩
    unfold restI at q
    refine ite2 (fun h => ?_) (fun h => ?_)
    · have h := of_decide_eq_true h
      rw [if_pos h] at q
      exact ⟨.int (z.fmod d), rfl, .int d, rfl, _, _, rfl, rfl, q⟩
    · have h : ¬ d < 2 * z.fmod d := fun z => h (decide_eq_true z)
      rw [if_neg h] at q
      exact ⟨.int (z.fmod d), rfl, q⟩
theorem bd_index {f : Addr} (C_determinant : Cal P w K mg base 3 "determinant" ["table"] spDet) (m_abs : mg "abs" = none) : Bdy P w K mg base 3 f "index_of" s_index ["rays", "size"] spIndex := by
  have sc := sc_index
  intro cdv A outer s H vs Q E hr h
  obtain ⟨a, B, rfl, hT, h6, d0, q⟩ := h
  refine ⟨_, (pss_cons (ps_set (i := 1) sc.nd rfl (Or.inl rfl) (pe_callB call_abs (by rfl) m_abs (by decide +kernel) (pa_cons (call_ C_determinant (hr.mono (by decide)) (by rfl) (pa_cons (pv 0) pa_nil)) pa_nil)))
    (pss_cons (ps_if (pt_cmpR op_eq (pv 1) pe_int (nomark _))
      (pss_one ps_never)
      pss_nil)
    (pss_one (ps_ret (pv 1))))), ?_⟩
  refine ⟨.ref a, rfl, a, B, rfl, hT, by omega, fun H1 s1 => ?_⟩
  refine ⟨_, rfl, ?_⟩
  rw [show (if det B.length (mL B) < 0 then -det B.length (mL B) else det B.length (mL B)) = ((det B.length (mL B)).natAbs : Int) by split <;> omega]
  refine ⟨_, rfl, rfl, _, rfl, ite2 (fun h => absurd (V.int.inj (of_decide_eq_true h)) (by omega)) (fun _ => ?_)⟩
  exact ⟨_, rfl, q H1 s1⟩
theorem len_index : ∀ vs H Q E, spIndex vs H Q E → vs.length = 1 := fun vs H Q E h => by obtain ⟨a, B, rfl, _⟩ := h; rfl
theorem ok_index {f : Addr} {fd : FuncData} (F : Fun K "index_of" "index_of" s_index f fd) (C_determinant : Cal P w K mg base 3 "determinant" ["table"] spDet) (m_abs : mg "abs" = none) : FnOk P w K mg base CX0 4 f fd ["rays"] spIndex :=
  ok_bdy F sc_index len_index (bd_index C_determinant m_abs)
theorem ok_indexX {f C : Addr} {fd : FuncData} (F : Fun K "index_of" "index_of" s_index f fd) (C_determinant : Cal P w K mg base 3 "determinant" ["table"] spDet) (m_abs : mg "abs" = none) (T : ExcT K mg "Singular" C) : FnOk P w K mg base (L2.CX P w) 4 f fd ["rays"] (spIndexX C) := by
  have sc := sc_index
  refine F.okX sc (fun vs H Q E h => ?_) (fun cdv A outer s H vs Q E hr h => ?_)
  · obtain ⟨a, B, rfl, _⟩ := h
    rfl
  · obtain ⟨a, B, rfl, hT, h6, d0, q⟩ := h
    refine ⟨_, (pss_cons (ps_set (i := 1) sc.nd rfl (Or.inl rfl) (pe_callB call_abs (by rfl) m_abs (by decide +kernel) (pa_cons (call_ C_determinant (hr.mono (by decide)) (by rfl) (pa_cons (pv 0) pa_nil)) pa_nil)))
    (pss_cons (ps_if (pt_cmpR op_eq (pv 1) pe_int (nomark _))
      (pss_one (ps_raise rfl (takes_of rfl rfl rfl rfl) (pmk_own0 PySem.F.excBase_ValueError T.ex T.g T.k (raises_own T.b T.t) rfl)))
      pss_nil)
    (pss_one ps_never))), ?_⟩
    refine ⟨.ref a, rfl, a, B, rfl, hT, by omega, fun H1 s1 => ?_⟩
    rw [d0]
    exact ⟨0, rfl, .int 0, rfl, rfl, _, rfl, iteT' (decide_eq_true rfl) (q H1 s1)⟩
end
end K16
namespace Vk
open PySem PySem.Spec PyProof.Rows L2
/-! any(..) of a tuple of whole numbers -/
theorem ints_at : ∀ {us : List Value} {ns : List Int}, IntsAre us ns → ∀ {i : Nat} {v : Value}, us[i]? = some v → ∃ t, v = .int (ns.getD i 0) t ∧ i < ns.length
  | _, _, .nil, i, v, h => by cases h
  | _, _, .cons n t r, 0, v, h => by
    obtain rfl := Option.some.inj h
    exact ⟨t, rfl, Nat.succ_pos _⟩
  | _, _, .cons n t r, i + 1, v, h => by
    obtain ⟨t', e, l⟩ := ints_at r (i := i) h
    exact ⟨t', e, Nat.succ_lt_succ l⟩
theorem ints_len : ∀ {us : List Value} {ns : List Int}, IntsAre us ns → us.length = ns.length
  | _, _, .nil => rfl
  | _, _, .cons n t r => by rw [List.length_cons, List.length_cons, ints_len r]
theorem any_rangeI : ∀ ns : List Int, (List.range ns.length).any (fun i => ns.getD i 0 != 0) = ns.any (· != 0)
  | [] => rfl
  | b :: bs => by
    rw [List.length_cons, List.range_succ_eq_map, List.any_cons, List.any_map, List.any_cons, ← any_rangeI bs]
    all_goals rfl
theorem cr_anyT {X : Cx} {K : PySem.W.Frag} (hK : X.K = K) (hc : X.calm = true) : CallR X (.builtin "any") (fun vs H Q => ∃ (a : Addr) (ns : List Int), vs = [V.ref a] ∧ SqT K H a (ns.map V.int) ∧ Q (.bl (ns.any (· != 0))) H) := by
  subst hK
  intro pins s σ H vs us Q I r h
  obtain ⟨a, ns, rfl, hs, q⟩ := h
  obtain ⟨its, rv, hl, _⟩ := I.tuple hs
  rw [Vals.ref1 r]
  have hb := Vals.ints rv
  have hl : s.heap.IsTuple a its.toArray := hl
  have hlt : a < s.heap.objs.size := by obtain ⟨_, e, _⟩ := hl; exact Heap.lt_size e
  refine call_any_walk (wpAny_pyIter_tuple hl ?_)
  refine ⟨_, _, _, _, _, _, _, rfl, Walks.tuple (A := X.A.in1) (I.ok.hd hc) _ a (Nat.ne_of_lt hlt) its.toArray, ⟨⟨_, Heap.get?_push_size _ rfl, rfl, rfl⟩, hl.push _⟩, (fun i v s Q E hv hq => ?_ : TruthOf _ _ _ (fun i v => its.toArray[i]? = some v) (fun i => ns.getD i 0 != 0)), fun h' tk hk => ?_⟩
  · have hv' : its[i]? = some v := by simpa using hv
    obtain ⟨t, rfl, _⟩ := ints_at hb hv'
    exact truthy_int hq
  refine ⟨.bl _, H, I.kept fun b o eo => hk b o (fun hmem => ?_) (Heap.get?_push_of_some _ eo), ?_, q⟩
  · rcases List.mem_cons.mp hmem with e1 | hmem
    · exact absurd (e1 ▸ Heap.lt_size eo) (Nat.lt_irrefl _)
    · cases hmem
  · show Value.bool _ = Value.bool _
    rw [← any_rangeI, List.size_toArray, ints_len hb]
end Vk
namespace K16
open PySem PySem.Spec PyProof.Rows L2 Vk Vd
abbrev s_near : Stmt := topS 20
theorem sc_near : FnScope ["rays", "size", "i", "rests", "numbers", "_", "number", "entry"] ["rays"] (defScope s_near) := ⟨rfl, rfl, rfl, by decide +kernel, rfl, by decide +kernel, by decide +kernel⟩
def restsI (B : List (List Int)) (i : Nat) : List Int := (numsI B ((ltrI i B.length).drop 1)).map fun z => restI z ((det B.length (mL B)).natAbs : Int)
def toldI (B : List (List Int)) (i : Nat) : List Int := ((colsI B B.length).map fun b => dot b (restsI B i)).map fun x => x.fdiv ((det B.length (mL B)).natAbs : Int)
def spNear : Sp := fun vs H Q _ => ∃ (a : Addr) (B : List (List Int)), vs = [.ref a] ∧ TabR H a B B.length ∧ B.length ≤ 6 ∧ det B.length (mL B) ≠ 0 ∧ (∀ r ∈ B, ∀ x ∈ r, SmZ 40 x) ∧ ((∀ i, i < B.length → (restsI B i).any (· != 0) = false) → ∀ H', Same H H' → Q .non H') ∧
  ∀ i r H', i < B.length → (restsI B i).any (· != 0) = true → Same H H' → Tp H' r ((toldI B i).map V.int) → Q (.ref r) H'
theorem mL_smk {k : Nat} {B : List (List Int)} (h : ∀ r ∈ B, ∀ x ∈ r, SmZ k x) (r c : Nat) : (mL B r c).natAbs ≤ 2 ^ k := by
  unfold mL
  by_cases hr : r < B.length
  · have e1 : B[r]? = some (B.getD r []) := by
      rw [List.getD_eq_getElem?_getD, List.getElem?_eq_getElem hr]
      rfl
    by_cases hc : c < (B.getD r []).length
    · exact Nat.le_of_lt (h _ (List.mem_of_getElem? e1) _ (List.mem_of_getElem? (Vk.getD_at hc)))
    · rw [List.getD_eq_getElem?_getD, List.getElem?_eq_none (by omega)]
      exact Nat.zero_le _
  · have : B.getD r [] = [] := by
      rw [List.getD_eq_getElem?_getD, List.getElem?_eq_none (by omega)]
      rfl
    rw [this]
    exact Nat.zero_le _
theorem ltrI_len (i n : Nat) : (ltrI i n).length = n + 1 := by
  unfold ltrI
  rw [List.length_map, List.length_range]
theorem ltrI_sm {i n : Nat} : ∀ x ∈ ltrI i n, SmZ 300 x := fun x hx => by
  unfold ltrI at hx
  obtain ⟨j, _, rfl⟩ := List.mem_map.mp hx
  show (if j = i + 1 then (1 : Int) else 0).natAbs < 2 ^ 300
  split
  · exact Nat.one_lt_two_pow (by decide)
  · exact Nat.two_pow_pos _
theorem numsI_len (B : List (List Int)) (xs : List Int) : (numsI B xs).length = B.length := by
  unfold numsI
  rw [List.length_map, List.length_range]
theorem restI_le {z d : Int} (h : 0 < d) : (restI z d).natAbs ≤ d.natAbs := by
  have m0 := Int.fmod_nonneg_of_pos z h
  have m1 := Int.fmod_lt_of_pos z h
  unfold restI
  split <;> omega
theorem det_sm40 {B : List (List Int)} (h6 : B.length ≤ 6) (zB : ∀ r ∈ B, ∀ x ∈ r, SmZ 40 x) : (det B.length (mL B)).natAbs ≤ 2 ^ 264 := by
  have h := det_abs (k := 40) B.length (mL B) (by omega) (mL_smk zB)
  refine Nat.le_trans h (Nat.pow_le_pow_right (by decide) ?_)
  have : B.length * (40 + 4) ≤ 6 * 44 := Nat.mul_le_mul (by omega) (by omega)
  omega
theorem restsI_sm {B : List (List Int)} (h6 : B.length ≤ 6) (zB : ∀ r ∈ B, ∀ x ∈ r, SmZ 40 x) (d0 : det B.length (mL B) ≠ 0) {i : Nat} : ∀ x ∈ restsI B i, SmZ 300 x := fun x hx => by
  unfold restsI at hx
  obtain ⟨z, _, rfl⟩ := List.mem_map.mp hx
  have h1 := restI_le (z := z) (d := ((det B.length (mL B)).natAbs : Int)) (by omega)
  have h2 := det_sm40 h6 zB
  rw [Int.natAbs_natCast] at h1
  exact Nat.lt_of_le_of_lt (Nat.le_trans h1 h2) (Nat.pow_lt_pow_right (by decide) (by decide))
section
variable {P : Program} {w : World} {K : PySem.W.Frag} {mg : Str → Option Value} {base : Heap}
theorem bd_near {f : Addr} (C_index_of : Cal P w K mg base 4 "index_of" ["rays"] spIndex) (C_parts_of : Cal P w K mg base 4 "parts_of" ["rays", "w"] spParts) (C_letter_form : Cal P w K mg base 1 "letter_form" ["i", "n"] spLetter) (C__nearest_rest : Cal P w K mg base 1 "_nearest_rest" ["number", "size"] spRest) (C_times_row : Cal P w K mg base 3 "times_row" ["row", "table"] spTrow) (m_tuple : mg "tuple" = none) (m_range : mg "range" = none) (m_len : mg "len" = none) (m_any : mg "any" = none) : Bdy P w K mg base 4 f "near_row" s_near ["rays", "size", "i", "rests", "numbers", "_", "number", "entry"] spNear := by
  have sc := sc_near
  intro cdv A outer s H vs Q E hr h
  obtain ⟨a, B, rfl, hT, h6, d0, zB, q1, q2⟩ := h
  refine ⟨_, (pss_cons (ps_set (i := 1) sc.nd rfl (Or.inr rfl) (call_ C_index_of (hr.mono (by decide)) (by rfl) (pa_cons (pv 0) pa_nil)))
    (pss_cons (ps_for PassesOwn.never rfl (pi_range1 rfl m_range (pa_cons (pe_callB call_len_seq (by rfl) m_len (by decide +kernel) (pa_cons (pv 0) pa_nil)) pa_nil)) (pg_name (i := 2) sc.nd rfl (Or.inl rfl))
      (pss_cons (ps_asg (call_ C_parts_of (hr.mono (by decide)) (by rfl) (pa_cons (pv 0) (pa_cons (pe_slice sl_tupA (call_ C_letter_form (hr.mono (by decide)) (by rfl) (pa_cons (pv 2) (pa_cons (pe_callB call_len_seq (by rfl) m_len (by decide +kernel) (pa_cons (pv 0) pa_nil)) pa_nil))) (po_some pe_int) po_none) pa_nil))) (pg_tup (n := 2) (by rfl) (pgs_cons (pg_name (i := 4) sc.nd rfl (Or.inl rfl)) (pgs_cons (pg_name (i := 5) sc.nd rfl (Or.inl rfl)) pgs_nil))))
    (pss_cons (ps_set (i := 3) sc.nd rfl (Or.inl rfl) (pe_callTy call_tuple_of (by rfl) m_tuple (by decide +kernel) (pa_cons (pe_lc (own := [("number", 6)]) (g := gName 6) (by rfl) sc.nd (pi_tup (pv 4)) (blkOk_by (own := [("number", 6)]) (N := ["rays", "size", "i", "rests", "numbers", "_", "number", "entry"]) (sc := defScope s_near) (by decide +kernel)) (fun _ _ _ _ _ => pg_name (i := 6) sc.nd rfl (Or.inl rfl)) (fun _ _ _ _ _ => pts_nil) (fun _ _ _ _ _ => (call_ C__nearest_rest (hr.mono (by decide)) (by rfl) (pa_cons (pv 6) (pa_cons (pv 1) pa_nil))))) pa_nil)))
    (pss_one (ps_if (pt_val (pe_callB (cr_anyT (K := K) rfl rfl) (by rfl) m_any (by decide +kernel) (pa_cons (pv 3) pa_nil)))
      (pss_one (ps_ret (pe_callTy call_tuple_of (by rfl) m_tuple (by decide +kernel) (pa_cons (pe_lc (own := [("entry", 7)]) (g := gName 7) (by rfl) sc.nd (pi_tup (call_ C_times_row (hr.mono (by decide)) (by rfl) (pa_cons (pv 3) (pa_cons (pv 0) pa_nil)))) (blkOk_by (own := [("entry", 7)]) (N := ["rays", "size", "i", "rests", "numbers", "_", "number", "entry"]) (sc := defScope s_near) (by decide +kernel)) (fun _ _ _ _ _ => pg_name (i := 7) sc.nd rfl (Or.inl rfl)) (fun _ _ _ _ _ => pts_nil) (fun _ _ _ _ _ => (pe_op op_fdivX (pv 7) (pv 1)))) pa_nil))))
      pss_nil)))))
    (pss_one (ps_ret pe_non)))), ?_⟩
  refine ⟨.ref a, rfl, a, B, rfl, hT, h6, d0, fun H1 s1 => ?_⟩
  have hT1 := hT.same s1
  obtain ⟨ps, ha, hR⟩ := id hT1
  have lp : ps.length = B.length := hR.1
  have rsm := fun i => restsI_sm h6 zB d0 (i := i)
  have dsm := det_sm40 h6 zB
  obtain ⟨d, hd⟩ : ∃ d, d = ((det B.length (mL B)).natAbs : Int) := ⟨_, rfl⟩
  have dp : 0 < d := by omega
  have dz : SmZ 5000 d := by
    rw [hd]
    exact Nat.lt_of_le_of_lt dsm (Nat.pow_lt_pow_right (by decide) (by decide))
  have dx : ∀ u, CDivX u d := fun u => ⟨Int.ne_of_gt dp, (Nat.log2_lt (by omega)).mpr (Nat.lt_of_lt_of_le (show d.natAbs < 2 ^ 5000 from dz) (Nat.pow_le_pow_right (by decide) (by decide)))⟩
  rw [← hd]
  refine gname_ ?_
  refine ⟨.ref a, rfl, a, _, rfl, .inr ha.t, ((ps.map V.ref).length : Int), rfl, by omega, by rw [List.length_map]; omega, ?_⟩
  have e0 : ((ps.map V.ref).length : Int).toNat = B.length := by
    rw [List.length_map]
    omega
  rw [e0]
  refine for_range (lo := 0) (n := B.length) (fun j σ H' => (∃ y2 y3 y4 y5, σ = [some (.ref a), some (.int d), y2, y3, y4, y5, none, none]) ∧ Same H H' ∧ ∀ i, i < j → (restsI B i).any (· != 0) = false) ⟨⟨none, none, none, none, rfl⟩, s1, fun i h => absurd h (Nat.not_lt_zero _)⟩ ?_ ?_
  · rintro j σ H2 hj ⟨⟨y2, y3, y4, y5, rfl⟩, s2, fs⟩
    have hT2 := hT.same s2
    have ha2 := (ha.same (Same.refl _))
    refine seq_ ?_
    obtain ⟨ps2, ha2, hR2⟩ := id hT2
    have lp2 : ps2.length = B.length := hR2.1
    refine ⟨.ref a, rfl, .int (0 + j), rfl, .ref a, rfl, a, _, rfl, .inr ha2.t, j, B.length, by rw [Int.zero_add, List.length_map, lp2], by omega, fun r3 H3 s3 g3 => ?_⟩
    refine ⟨1, rfl, ?_⟩
    unfold tNoPart
    refine slice_tp g3 fun r4 H4 s4 g4 => ?_
    rw [show (some (1 : Int)) = some ((1 : Nat) : Int) from rfl, cut_from, ← List.map_drop] at g4
    have ll : ((ltrI j B.length).drop 1).length = B.length := by
      rw [List.length_drop, ltrI_len]
      omega
    have s24 := s3.trans s4
    refine ⟨a, r4, B, (ltrI j B.length).drop 1, rfl, hT2.same s24, h6, ⟨g4, by omega, fun x hx => ltrI_sm x (List.mem_of_mem_drop hx)⟩, ll, d0, fun r5 p5 H5 s5 g5 g5' => ?_⟩
    rw [← hd] at g5
    refine ⟨r5, _, rfl, g5.t, rfl, .ref p5, [.int d], rfl, .int d, [], rfl, rfl, ?_⟩
    refine seq_ ?_
    have s25 := s24.trans s5
    have lr : (restsI B j).length = B.length := by
      unfold restsI
      rw [List.length_map, numsI_len]
    refine ⟨.ref p5, rfl, p5, rfl, ⟨_, g5'.t⟩, fun D nD => ?_⟩
    refine lc_to (walk_tup (K := K) (a := p5) (xs := (numsI B ((ltrI j B.length).drop 1)).map V.int)) ((restsI B j).map V.int) (by rw [List.length_map, List.length_map, lr, numsI_len]) (by rw [List.length_map, numsI_len]; exact small (by omega)) nD (fun H' s => (g5'.same s).t) ?_ ?_
    · rintro i x z H6 H6' Qy hz hi s6 ⟨rfl, hx⟩ hq
      obtain ⟨v, hv, rfl⟩ := map_get hz
      obtain ⟨u, hu, rfl⟩ := map_get hx
      unfold restsI at hv
      rw [List.getElem?_map, hu] at hv
      obtain rfl := Option.some.inj hv
      rw [← hd] at hq
      exact ⟨rfl, .int u, rfl, .int d, rfl, u, d, rfl, dp, dz, hq _ (Same.refl _)⟩
    intro H6 s6 d6
    refine ⟨D, _, rfl, .inl ⟨SqL.of d6, fun T nT => ?_⟩⟩
    have s7 : Same H6 (upd H6 T (.tup ((restsI B j).map V.int))) := same_new nT
    have g7 : Tp (upd H6 T (.tup ((restsI B j).map V.int))) T ((restsI B j).map V.int) := upd_same
    generalize upd H6 T (.tup ((restsI B j).map V.int)) = H7 at s7 g7 ⊢
    have s27 := (s25.trans s6).trans s7
    refine gname_ ?_
    dsimp only
    refine ⟨.ref T, rfl, T, restsI B j, rfl, g7.t, _, rfl, ite2 (fun h => ?_) (fun h => ?_)⟩
    · refine ⟨.ref T, rfl, .ref a, rfl, T, a, B, restsI B j, rfl, hT2.same s27, ⟨g7, by omega, rsm j⟩, lr, by omega, fun r8 H8 s8 g8 => ?_⟩
      refine ⟨r8, rfl, ⟨_, g8.t⟩, fun D2 nD2 => ?_⟩
      have lc : ((colsI B B.length).map fun b => dot b (restsI B j)).length = B.length := by
        rw [List.length_map, colsI_len]
      refine lc_to (walk_tup (K := K) (a := r8) (xs := ((colsI B B.length).map fun b => dot b (restsI B j)).map V.int)) ((toldI B j).map V.int) (by unfold toldI; simp) (by rw [List.length_map, lc]; exact small (by omega)) nD2 (fun H' s => (g8.same s).t) ?_ ?_
      · rintro i x z H9 H9' Qy hz hi s9 ⟨rfl, hx⟩ hq
        obtain ⟨v, hv, rfl⟩ := map_get hz
        obtain ⟨u, hu, rfl⟩ := map_get hx
        unfold toldI at hv
        rw [List.getElem?_map, hu] at hv
        obtain rfl := Option.some.inj hv
        rw [← hd] at hq
        exact ⟨rfl, .int u, rfl, .int d, rfl, u, d, rfl, rfl, dx u, hq _ (Same.refl _)⟩
      intro H9 s9 d9
      refine ⟨D2, _, rfl, .inl ⟨SqL.of d9, fun T2 nT2 => ?_⟩⟩
      exact q2 j T2 _ hj h (((s2.trans s27).trans (s8.trans s9)).trans (same_new nT2)) upd_same
    · refine ⟨⟨_, _, _, _, rfl⟩, s2.trans s27, fun i hi => ?_⟩
      rcases Nat.lt_succ_iff_lt_or_eq.mp hi with c | c
      · exact fs i c
      · subst c
        exact Bool.eq_false_iff.mpr h
  · rintro σ H2 ⟨⟨y2, y3, y4, y5, rfl⟩, s2, fs⟩
    exact q1 fs H2 s2
theorem len_near : ∀ vs H Q E, spNear vs H Q E → vs.length = 1 := fun vs H Q E h => by obtain ⟨a, B, rfl, _⟩ := h; rfl
theorem ok_near {f : Addr} {fd : FuncData} (F : Fun K "near_row" "near_row" s_near f fd) (C_index_of : Cal P w K mg base 4 "index_of" ["rays"] spIndex) (C_parts_of : Cal P w K mg base 4 "parts_of" ["rays", "w"] spParts) (C_letter_form : Cal P w K mg base 1 "letter_form" ["i", "n"] spLetter) (C__nearest_rest : Cal P w K mg base 1 "_nearest_rest" ["number", "size"] spRest) (C_times_row : Cal P w K mg base 3 "times_row" ["row", "table"] spTrow) (m_tuple : mg "tuple" = none) (m_range : mg "range" = none) (m_len : mg "len" = none) (m_any : mg "any" = none) : FnOk P w K mg base CX0 5 f fd ["rays"] spNear :=
  ok_bdy F sc_near len_near (bd_near C_index_of C_parts_of C_letter_form C__nearest_rest C_times_row m_tuple m_range m_len m_any)
/-- of singular rays: hands on what index_of raises -/
theorem ok_nearX {f fI C : Addr} {fd fdI : FuncData} (F : Fun K "near_row" "near_row" s_near f fd) (G : FnOk P w K mg base (L2.CX P w) 4 fI fdI ["rays"] (spIndexX C)) (gI : mg "index_of" = some (.ref fI)) (kI : PySem.W.keepIn K (.ref fI) = true) (bI : Binds K fdI ["rays"] []) : FnOk P w K mg base (L2.CX P w) 5 f fd ["rays"] (spIndexX C) := by
  have sc := sc_near
  refine F.okX sc (fun vs H Q E h => ?_) (fun cdv A outer s H vs Q E hr h => ?_)
  · obtain ⟨a, B, rfl, _⟩ := h
    rfl
  · obtain ⟨a, B, rfl, hT, h6, d0, q⟩ := h
    refine ⟨_, (pss_cons (ps_set (i := 1) sc.nd rfl (Or.inr rfl) (pe_call G (hr.mono (by decide)) (by rfl) gI kI bI .nil (passes_call (takes_of rfl rfl rfl rfl) (fun _ _ _ _ z => z)) (pa_cons (pv 0) pa_nil)))
    (pss_cons ps_never (pss_one ps_never))), ?_⟩
    exact ⟨.ref a, rfl, a, B, rfl, hT, h6, d0, q⟩
end
end K16
namespace K16
open PySem PySem.Spec PyProof.Rows L2 Vk Vd
abbrev s_isnear : Stmt := topS 21
theorem sc_isnear : FnScope ["rays", "value", "size", "numbers", "_", "number"] ["rays", "value"] (defScope s_isnear) := ⟨rfl, rfl, rfl, by decide +kernel, rfl, by decide +kernel, by decide +kernel⟩
def nearB (B : List (List Int)) (ns : List Int) : Bool := ns.any (· != 0) && (numsI B ns).all fun z => decide (2 * (z.natAbs : Int) ≤ ((det B.length (mL B)).natAbs : Int))
def spIsNear : Sp := fun vs H Q _ => ∃ (a : Addr) (v : V) (B : List (List Int)), vs = [.ref a, v] ∧ TabR H a B B.length ∧ B.length ≤ 6 ∧ det B.length (mL B) ≠ 0 ∧
  ((∃ t, Oky H v t ∧ t ≠ "tuple" ∧ ∀ H', Same H H' → Q (.bl false) H') ∨
   (∃ c xs, v = .ref c ∧ Tp H c xs ∧ xs.length ≤ 100 ∧ (∀ e ∈ xs, ∃ t, Oky H e t) ∧ tupOk B.length xs = false ∧ ∀ H', Same H H' → Q (.bl false) H') ∨
   ∃ c ns, v = .ref c ∧ Row H c ns ∧ ns.length = B.length ∧ ∀ H', Same H H' → Q (.bl (nearB B ns)) H')
def spIsNearX (C : Addr) : Sp := fun vs H Q E => ∃ (a : Addr) (v : V) (B : List (List Int)), vs = [.ref a, v] ∧ TabR H a B B.length ∧ B.length ≤ 6 ∧ det B.length (mL B) = 0 ∧ ∀ H', Same H H' → E (.ref C) none H'
theorem sgnZ_abs (d : Int) : (sgnZ d).natAbs = 1 := by
  unfold sgnZ
  split <;> rfl
theorem repD_sm {B : List (List Int)} {ns : List Int} (h6 : B.length ≤ 6) (zB : ∀ r ∈ B, ∀ x ∈ r, SmZ 300 x) (zn : ∀ x ∈ ns, SmZ 300 x) (i : Nat) : SmZ 2000 (repD B ns i) := by
  have h := det_abs (k := 300) B.length (mL (B.set i ns)) (by omega) (mL_smk fun r hr x hx => by
    rcases List.mem_or_eq_of_mem_set hr with c | c
    · exact zB r c x hx
    · subst c
      exact zn x hx)
  refine Nat.lt_of_le_of_lt h (Nat.pow_lt_pow_right (by decide) ?_)
  have : B.length * (300 + 4) ≤ 6 * 304 := Nat.mul_le_mul (by omega) (by omega)
  omega
theorem numsI_sm {B : List (List Int)} {ns : List Int} (h6 : B.length ≤ 6) (zB : ∀ r ∈ B, ∀ x ∈ r, SmZ 300 x) (zn : ∀ x ∈ ns, SmZ 300 x) : ∀ z ∈ numsI B ns, SmZ 2000 z := fun z hz => by
  unfold numsI at hz
  obtain ⟨i, _, rfl⟩ := List.mem_map.mp hz
  have h := repD_sm h6 zB zn i
  show (sgnZ _ * repD B ns i).natAbs < 2 ^ 2000
  rw [Int.natAbs_mul, sgnZ_abs, Nat.one_mul]
  exact h
theorem tupOk_ints {n : Nat} {ns : List Int} (h : ns.length = n) : tupOk n (ns.map V.int) = true := by
  unfold tupOk
  rw [List.length_map, decide_eq_true h, Bool.true_and, List.all_eq_true]
  intro x hx
  obtain ⟨z, _, rfl⟩ := List.mem_map.mp hx
  rfl
section
variable {P : Program} {w : World} {K : PySem.W.Frag} {mg : Str → Option Value} {base : Heap}
theorem bd_isnear {f : Addr} (C_index_of : Cal P w K mg base 4 "index_of" ["rays"] spIndex) (C_are_numbers : Cal P w K mg base 2 "are_numbers" ["value", "count"] spAren) (C_parts_of : Cal P w K mg base 4 "parts_of" ["rays", "w"] spParts) (m_len : mg "len" = none) (m_any : mg "any" = none) (m_all : mg "all" = none) (m_abs : mg "abs" = none) : Bdy P w K mg base 4 f "is_near_row" s_isnear ["rays", "value", "size", "numbers", "_", "number"] spIsNear := by
  have sc := sc_isnear
  intro cdv A outer s H vs Q E hr h
  obtain ⟨a, v, B, rfl, hT, h6, d0, hv⟩ := h
  refine ⟨_, (pss_cons (ps_set (i := 2) sc.nd rfl (Or.inr rfl) (call_ C_index_of (hr.mono (by decide)) (by rfl) (pa_cons (pv 0) pa_nil)))
    (pss_cons (ps_if (PW.pt (pw_or (pt_not (pt_val (call_ C_are_numbers (hr.mono (by decide)) (by rfl) (pa_cons (pv 1) (pa_cons (pe_callB call_len_seq (by rfl) m_len (by decide +kernel) (pa_cons (pv 0) pa_nil)) pa_nil))))) (pw_or1 (pt_not (pt_val (pe_callB (cr_anyT (K := K) rfl rfl) (by rfl) m_any (by decide +kernel) (pa_cons (pv 1) pa_nil)))))))
      (pss_one (ps_ret pe_bl))
      pss_nil)
    (pss_cons (ps_asg (call_ C_parts_of (hr.mono (by decide)) (by rfl) (pa_cons (pv 0) (pa_cons (pv 1) pa_nil))) (pg_tup (n := 2) (by rfl) (pgs_cons (pg_name (i := 3) sc.nd rfl (Or.inl rfl)) (pgs_cons (pg_name (i := 4) sc.nd rfl (Or.inl rfl)) pgs_nil))))
    (pss_one (ps_ret (pe_callB (cr_all rfl) (by rfl) m_all (by decide +kernel) (pa_cons (pe_lc (own := [("number", 5)]) (g := gName 5) (by rfl) sc.nd (pi_tup (pv 3)) (blkOk_by (own := [("number", 5)]) (N := ["rays", "value", "size", "numbers", "_", "number"]) (sc := defScope s_isnear) (by decide +kernel)) (fun _ _ _ _ _ => pg_name (i := 5) sc.nd rfl (Or.inl rfl)) (fun _ _ _ _ _ => pts_nil) (fun _ _ _ _ _ => (pe_cmpR op_le (pe_op op_mulW pe_int (pe_callB call_abs (by rfl) m_abs (by decide +kernel) (pa_cons (pv 5) pa_nil))) (pv 2) (nomark _)))) pa_nil))))))), ?_⟩
  refine ⟨.ref a, rfl, a, B, rfl, hT, h6, d0, fun H1 s1 => ?_⟩
  have hT1 := hT.same s1
  obtain ⟨ps, ha, hR⟩ := id hT1
  have lp : ps.length = B.length := hR.1
  have wid := fun r hr => (hT.w r hr).2
  obtain ⟨d, hd⟩ : ∃ d, d = ((det B.length (mL B)).natAbs : Int) := ⟨_, rfl⟩
  rw [← hd]
  refine gname_ ?_
  dsimp only
  have el : [v, V.int ((ps.map V.ref).length : Int)] = [v, V.int (B.length : Int)] := by rw [List.length_map, lp]
  rcases hv with ⟨t, ok, nt, q⟩ | ⟨c, xs, rfl, hc, lx, es, bad, q⟩ | ⟨c, ns, rfl, hc, ln, q⟩
  · refine ⟨v, rfl, .ref a, rfl, a, _, rfl, .inr ha.t, v, B.length, el, .inl ⟨t, ok.same s1, nt, ?_⟩⟩
    exact ⟨_, rfl, iteT (iteT (q H1 s1))⟩
  · refine ⟨.ref c, rfl, .ref a, rfl, a, _, rfl, .inr ha.t, .ref c, B.length, el, .inr ⟨c, xs, rfl, hc.same s1, lx, fun e he => by obtain ⟨t, o⟩ := es e he; exact ⟨t, o.same s1⟩, fun H2 s2 => ?_⟩⟩
    rw [bad]
    exact ⟨_, rfl, iteT (iteT (q H2 (s1.trans s2)))⟩
  · refine ⟨.ref c, rfl, .ref a, rfl, a, _, rfl, .inr ha.t, .ref c, B.length, el, .inr ⟨c, ns.map V.int, rfl, hc.1.same s1, by rw [List.length_map]; omega, fun e he => ?_, fun H2 s2 => ?_⟩⟩
    · obtain ⟨z, _, rfl⟩ := List.mem_map.mp he
      exact ⟨_, .int z⟩
    · rw [tupOk_ints ln]
      have s12 := s1.trans s2
      refine ⟨_, rfl, iteF ?_⟩
      refine ⟨.ref c, rfl, c, ns, rfl, (hc.1.same s12).t, _, rfl, ?_⟩
      unfold nearB at q
      rw [← hd] at q
      cases hn : ns.any (· != 0) with
      | false =>
        rw [hn] at q
        exact iteT (q H2 s12)
      | true =>
        rw [hn, Bool.true_and] at q
        refine iteF ?_
        refine ⟨.ref a, rfl, .ref c, rfl, a, c, B, ns, rfl, hT.same s12, h6, hc.same s12, ln, d0, fun r3 p3 H3 s3 g3 g3' => ?_⟩
        rw [← hd] at g3
        refine ⟨r3, _, rfl, g3.t, rfl, .ref p3, [.int d], rfl, .int d, [], rfl, rfl, ?_⟩
        refine ⟨.ref p3, rfl, p3, rfl, ⟨_, g3'.t⟩, fun D nD => ?_⟩
        refine lc_to (walk_tup (K := K) (a := p3) (xs := (numsI B ns).map V.int)) (((numsI B ns).map fun z => decide (2 * (z.natAbs : Int) ≤ d)).map V.bl) (by simp) (by rw [List.length_map, numsI_len]; exact small (by omega)) nD (fun H' s => (g3'.same s).t) ?_ ?_
        · rintro i x z H4 H4' Qy hz hi s4 ⟨rfl, hx⟩ hq
          obtain ⟨b, hb, rfl⟩ := map_get hz
          obtain ⟨u, hu, rfl⟩ := map_get hx
          rw [List.getElem?_map, hu] at hb
          obtain rfl := Option.some.inj hb
          have us := numsI_sm h6 wid hc.2.2 u (List.mem_of_getElem? hu)
          refine ⟨rfl, .int u, rfl, u, rfl, ?_⟩
          rw [show (if u < 0 then -u else u) = (u.natAbs : Int) by split <;> omega]
          exact ⟨2, (u.natAbs : Int), rfl, rfl, mulB (k := 2) (j := 2000) (by decide) (by decide) (by show (2 : Int).natAbs < 4; decide) (show ((u.natAbs : Int)).natAbs < 2 ^ 2000 by rw [Int.natAbs_natCast]; exact us) (by decide), .int d, rfl, _, _, rfl, rfl, hq _ (Same.refl _)⟩
        intro H4 s4 d4
        refine ⟨D, (numsI B ns).map fun z => decide (2 * (z.natAbs : Int) ≤ d), rfl, SqL.of d4, ?_⟩
        have q := q H4 ((s12.trans s3).trans s4)
        rw [List.all_map]
        exact q
theorem len_isnear : ∀ vs H Q E, spIsNear vs H Q E → vs.length = 2 := fun vs H Q E h => by obtain ⟨a, v, B, rfl, _⟩ := h; rfl
theorem ok_isnear {f : Addr} {fd : FuncData} (F : Fun K "is_near_row" "is_near_row" s_isnear f fd) (C_index_of : Cal P w K mg base 4 "index_of" ["rays"] spIndex) (C_are_numbers : Cal P w K mg base 2 "are_numbers" ["value", "count"] spAren) (C_parts_of : Cal P w K mg base 4 "parts_of" ["rays", "w"] spParts) (m_len : mg "len" = none) (m_any : mg "any" = none) (m_all : mg "all" = none) (m_abs : mg "abs" = none) : FnOk P w K mg base CX0 5 f fd ["rays", "value"] spIsNear :=
  ok_bdy F sc_isnear len_isnear (bd_isnear C_index_of C_are_numbers C_parts_of m_len m_any m_all m_abs)
theorem ok_isnearX {f fI C : Addr} {fd fdI : FuncData} (F : Fun K "is_near_row" "is_near_row" s_isnear f fd) (G : FnOk P w K mg base (L2.CX P w) 4 fI fdI ["rays"] (spIndexX C)) (gI : mg "index_of" = some (.ref fI)) (kI : PySem.W.keepIn K (.ref fI) = true) (bI : Binds K fdI ["rays"] []) : FnOk P w K mg base (L2.CX P w) 5 f fd ["rays", "value"] (spIsNearX C) := by
  have sc := sc_isnear
  refine F.okX sc (fun vs H Q E h => ?_) (fun cdv A outer s H vs Q E hr h => ?_)
  · obtain ⟨a, v, B, rfl, _⟩ := h
    rfl
  · obtain ⟨a, v, B, rfl, hT, h6, d0, q⟩ := h
    refine ⟨_, (pss_cons (ps_set (i := 2) sc.nd rfl (Or.inr rfl) (pe_call G (hr.mono (by decide)) (by rfl) gI kI bI .nil (passes_call (takes_of rfl rfl rfl rfl) (fun _ _ _ _ z => z)) (pa_cons (pv 0) pa_nil)))
    (pss_cons ps_never (pss_cons ps_never (pss_one ps_never)))), ?_⟩
    exact ⟨.ref a, rfl, a, B, rfl, hT, h6, d0, q⟩
end
end K16
namespace K16
open PySem PySem.Spec PyProof.Rows L2 Vk Vd
abbrev s_lisnear : Stmt := topS 31
theorem sc_lisnear : FnScope ["rays", "value_so", "x", "whole", "i"] ["rays", "value_so"] (defScope s_lisnear) := ⟨rfl, rfl, rfl, by decide +kernel, rfl, by decide +kernel, by decide +kernel⟩
def spLisNear : Sp := fun vs H Q _ => ∃ (a : Addr) (v : V) (B : List (List Int)), vs = [.ref a, v] ∧ TabR H a B B.length ∧ B.length ≤ 6 ∧
  ((∃ t, Oky H v t ∧ t ≠ "tuple" ∧ ∀ H', Same H H' → Q (.bl false) H') ∨
   (∃ c xs, v = .ref c ∧ Tp H c xs ∧ xs.length ≤ 100 ∧ (∀ e ∈ xs, ∃ t, Oky H e t) ∧ tupOk B.length xs = false ∧ ∀ H', Same H H' → Q (.bl false) H') ∨
   ∃ c ns, v = .ref c ∧ Row H c ns ∧ ns.length = B.length ∧ ∀ H', Same H H' → Q (.bl (nearB B ns)) H')
theorem range_filter (p : Int → Bool) (xs : List Int) : ((List.range xs.length).filter fun i => p (xs.getD i 0)).map (fun i => xs.getD i 0) = xs.filter p := by
  induction xs with
  | nil => rfl
  | cons x xs ih =>
    rw [List.length_cons, List.range_succ_eq_map, List.filter_cons, List.filter_map]
    have e0 : ((x :: xs).getD 0 0) = x := rfl
    rw [e0, List.filter_cons]
    have e2 : (fun i => p ((x :: xs).getD i 0)) ∘ Nat.succ = fun i => p (xs.getD i 0) := rfl
    rw [e2]
    cases hp : p x with
    | true =>
      rw [if_pos rfl, if_pos rfl, List.map_cons, List.map_map]
      exact congrArg (x :: ·) ih
    | false =>
      rw [if_neg (by decide), if_neg (by decide), List.map_map]
      exact ih
theorem any_filter : ∀ ns : List Int, ns.any (· != 0) = !(ns.filter fun x => decide (x ≠ 0)).isEmpty
  | [] => rfl
  | z :: zs => by
    rw [List.any_cons, List.filter_cons, any_filter zs]
    by_cases h : z = 0
    · subst h
      rfl
    · rw [if_pos (decide_eq_true h)]
      have : (z != 0) = true := bne_iff_ne.mpr h
      rw [this]
      rfl
theorem numsI_near {B : List (List Int)} {ns : List Int} {d : Int} : ((numsI B ns).all fun z => decide (2 * (z.natAbs : Int) ≤ d)) = true ↔ ∀ i, i < B.length → 2 * ((repD B ns i).natAbs : Int) ≤ d := by
  unfold numsI
  rw [List.all_eq_true]
  constructor
  · intro h i hi
    have h1 := of_decide_eq_true (h _ (List.mem_map.mpr ⟨i, List.mem_range.mpr hi, rfl⟩))
    rw [Int.natAbs_mul, sgnZ_abs, Nat.one_mul] at h1
    exact h1
  · intro h z hz
    obtain ⟨i, hi, rfl⟩ := List.mem_map.mp hz
    refine decide_eq_true ?_
    rw [Int.natAbs_mul, sgnZ_abs, Nat.one_mul]
    exact h i (List.mem_range.mp hi)
section
variable {P : Program} {w : World} {K : PySem.W.Frag} {mg : Str → Option Value} {base : Heap}
theorem ok_lisnear {f : Addr} {fd : FuncData} (F : Fun K "_law_is_near" "_law_is_near" s_lisnear f fd) (C__law_det : Cal P w K mg base 8 "_law_det" ["table"] (spLd 7)) (m_isinstance : mg "isinstance" = none) (m_tuple : mg "tuple" = none) (m_int : mg "int" = none) (m_bool : mg "bool" = none) (m_len : mg "len" = none) (m_abs : mg "abs" = none) (m_range : mg "range" = none) : FnOk P w K mg base CX0 9 f fd ["rays", "value_so"] spLisNear := by
  have sc := sc_lisnear
  refine F.ok sc (fun vs H Q E h => ?_) (fun cdv A outer s H vs Q E hr h => ?_)
  · obtain ⟨a, v, B, rfl, _⟩ := h
    rfl
  · obtain ⟨a, v, B, rfl, hT, h6, hv⟩ := h
    refine ⟨_, (pss_cons (ps_if (PW.pt (pw_or (pt_not (pt_val (pe_callB call_isi (by rfl) m_isinstance (by decide +kernel) (pa_cons (pv 1) (pa_cons (pe_bltn (v := .ty "tuple") (by rfl) m_tuple (by decide +kernel) rfl) pa_nil))))) (pw_or1 (pt_cmpR op_ne (pe_callB call_len_seq (by rfl) m_len (by decide +kernel) (pa_cons (pv 1) pa_nil)) (pe_callB call_len_seq (by rfl) m_len (by decide +kernel) (pa_cons (pv 0) pa_nil)) (nomark _)))))
      (pss_one (ps_ret pe_bl))
      pss_nil)
    (pss_cons (ps_for PassesOwn.never rfl (pi_tup (pv 1)) (pg_name (i := 2) sc.nd rfl (Or.inl rfl))
      (pss_one (ps_if (PW.pt (pw_or (pt_not (pt_val (pe_callB call_isi (by rfl) m_isinstance (by decide +kernel) (pa_cons (pv 2) (pa_cons (pe_bltn (v := .ty "int") (by rfl) m_int (by decide +kernel) rfl) pa_nil))))) (pw_or1 (pt_val (pe_callB call_isi (by rfl) m_isinstance (by decide +kernel) (pa_cons (pv 2) (pa_cons (pe_bltn (v := .ty "bool") (by rfl) m_bool (by decide +kernel) rfl) pa_nil)))))))
      (pss_one (ps_ret pe_bl))
      pss_nil)))
    (pss_cons (ps_if (pt_cmpR (op_eqD hr.units) (pe_lc (own := [("x", 2)]) (g := gName 2) (by rfl) sc.nd (pi_tup (pv 1)) (blkOk_by (own := [("x", 2)]) (N := ["rays", "value_so", "x", "whole", "i"]) (sc := defScope s_lisnear) (by decide +kernel)) (fun _ _ _ _ _ => pg_name (i := 2) sc.nd rfl (Or.inl rfl)) (fun _ _ _ _ _ => (pts_one (pt_cmpR op_ne (pv 2) pe_int (nomark _)))) (fun _ _ _ _ _ => (pv 2))) (pe_lst pa_nil) (nomark _))
      (pss_one (ps_ret pe_bl))
      pss_nil)
    (pss_cons (ps_set (i := 3) sc.nd rfl (Or.inl rfl) (pe_callB call_abs (by rfl) m_abs (by decide +kernel) (pa_cons (call_ C__law_det (hr.mono (by decide)) (by rfl) (pa_cons (pv 0) pa_nil)) pa_nil)))
    (pss_cons (ps_for PassesOwn.never rfl (pi_range1 rfl m_range (pa_cons (pe_callB call_len_seq (by rfl) m_len (by decide +kernel) (pa_cons (pv 0) pa_nil)) pa_nil)) (pg_name (i := 4) sc.nd rfl (Or.inl rfl))
      (pss_one (ps_if (pt_cmpR op_gt (pe_op op_mulW pe_int (pe_callB call_abs (by rfl) m_abs (by decide +kernel) (pa_cons (call_ C__law_det (hr.mono (by decide)) (by rfl) (pa_cons (pe_op op_catA (pe_op op_catA (pe_slice sl_tupA (pv 0) po_none (po_some (pv 4))) (pe_tup (pa_cons (pv 1) pa_nil))) (pe_slice sl_tupA (pv 0) (po_some (pe_op op_add (pv 4) pe_int)) po_none)) pa_nil)) pa_nil))) (pv 3) (nomark _))
      (pss_one (ps_ret pe_bl))
      pss_nil)))
    (pss_one (ps_ret pe_bl))))))), ?_⟩
    obtain ⟨ps, ha, hR⟩ := id hT
    have lp : ps.length = B.length := hR.1
    have wid := fun r hr => (hT.w r hr).2
    have hv' : (∃ t, Oky H v t ∧ t ≠ "tuple" ∧ ∀ H', Same H H' → Q (.bl false) H') ∨ ∃ c xs, v = .ref c ∧ Tp H c xs ∧ xs.length ≤ 100 ∧ (∀ e ∈ xs, ∃ t, Oky H e t) ∧ ((tupOk B.length xs = false ∧ ∀ H', Same H H' → Q (.bl false) H') ∨ ∃ ns, xs = ns.map V.int ∧ ns.length = B.length ∧ (∀ x ∈ ns, SmZ 300 x) ∧ ∀ H', Same H H' → Q (.bl (nearB B ns)) H') := by
      rcases hv with h | ⟨c, xs, e, hc, lx, es, bad, q⟩ | ⟨c, ns, e, hc, ln, q⟩
      · exact .inl h
      · exact .inr ⟨c, xs, e, hc, lx, es, .inl ⟨bad, q⟩⟩
      · exact .inr ⟨c, ns.map V.int, e, hc.1, by rw [List.length_map]; omega, fun x hx => by obtain ⟨z, _, rfl⟩ := List.mem_map.mp hx; exact ⟨_, .int z⟩, .inr ⟨ns, rfl, ln, hc.2.2, q⟩⟩
    clear hv
    rcases hv' with ⟨t, ok, nt, q⟩ | ⟨c, xs, rfl, hc, lx, es, hq⟩
    · refine ⟨v, rfl, v, .ty "tuple", _, _, _, rfl, .ty _, ok.ty, kit_ty ok.kTup, _, rfl, ?_⟩
      rw [decide_eq_false nt]
      exact iteT (iteT (q H (Same.refl _)))
    have hx : Oky H (.ref c) "tuple" := .tup hc
    refine ⟨.ref c, rfl, .ref c, .ty "tuple", _, _, _, rfl, .ty _, hx.ty, kit_ty hx.kTup, _, rfl, iteF ?_⟩
    refine ⟨.ref c, rfl, c, xs, rfl, .inr hc.t, .ref a, rfl, a, _, rfl, .inr ha.t, rfl, _, rfl, ite2 (fun hl => ?_) (fun hl => ?_)⟩
    · -- another length
      have n2 : xs.length ≠ B.length := fun z => by
        rw [z, List.length_map, lp] at hl
        simp at hl
      have e : tupOk B.length xs = false := by
        unfold tupOk
        rw [decide_eq_false n2]
        rfl
      rcases hq with ⟨_, q⟩ | ⟨ns, rfl, ln, _⟩
      · exact q H (Same.refl _)
      · rw [tupOk_ints ln] at e
        cases e
    have n2 : xs.length = B.length := by
      by_cases z : xs.length = B.length
      · exact z
      · refine absurd ?_ hl
        rw [List.length_map, lp, decide_eq_false (fun y => z (by have := V.int.inj y; omega))]
        rfl
    refine ⟨.ref c, rfl, c, rfl, ⟨_, hc.t⟩, ?_⟩
    refine for_tup (K := K) (a := c) (xs := xs) (fun i σ H' => (∃ y, σ = [some (.ref a), some (.ref c), y, none, none]) ∧ H = H' ∧ ∀ j e, j < i → xs[j]? = some e → isInt e = true) ⟨⟨none, rfl⟩, rfl, fun j e h => absurd h (Nat.not_lt_zero _)⟩ ?_ ?_ ?_
    · rintro i σ _ _ ⟨_, rfl, _⟩
      exact hc.t
    · rintro i x σ _ hi ⟨⟨y, rfl⟩, rfl, is⟩
      obtain ⟨t, ok⟩ := es x (List.mem_of_getElem? hi)
      have bad : isInt x = false → Q (.bl false) H := fun h => by
        rcases hq with ⟨_, q⟩ | ⟨ns, rfl, ln, _⟩
        · exact q H (Same.refl _)
        · obtain ⟨z, _, rfl⟩ := map_get hi
          cases h
      have ei := ok.isInt
      refine ⟨x, rfl, x, .ty "int", _, _, _, rfl, .ty _, ok.ty, kit_ty ok.kInt, _, rfl, ite2 (fun h => bad ?_) (fun h => ?_)⟩
      · rw [ei]
        cases ok <;> revert h <;> decide
      refine ⟨x, rfl, x, .ty "bool", _, _, _, rfl, .ty _, ok.ty, kit_ty ok.kBool, _, rfl, ite2 (fun h2 => bad ?_) (fun h2 => ?_)⟩
      · rw [ei]
        cases ok <;> revert h2 <;> decide
      refine ⟨⟨_, rfl⟩, rfl, fun j e hj he => ?_⟩
      rcases Nat.lt_succ_iff_lt_or_eq.mp hj with l | l
      · exact is j e l he
      · subst l
        obtain rfl := Option.some.inj (hi.symm.trans he)
        rw [ei]
        cases ok <;> revert h h2 <;> decide
    rintro σ _ ⟨⟨y, rfl⟩, rfl, is⟩
    have tk : tupOk B.length xs = true := by
      unfold tupOk
      rw [decide_eq_true n2, Bool.true_and, List.all_eq_true]
      intro x hx
      obtain ⟨j, hj⟩ := List.getElem?_of_mem hx
      exact is j x (List.getElem?_eq_some_iff.mp hj).1 hj
    obtain ⟨ns, rfl, ln, zn, q⟩ : ∃ ns, xs = ns.map V.int ∧ ns.length = B.length ∧ (∀ x ∈ ns, SmZ 300 x) ∧ ∀ H', Same H H' → Q (.bl (nearB B ns)) H' := by
      rcases hq with ⟨z, _⟩ | h
      · rw [tk] at z
        cases z
      · exact h
    have hcR : Row H c ns := ⟨hc, by omega, zn⟩
    refine ⟨.ref c, rfl, c, rfl, ⟨_, hc.t⟩, fun E1 nE1 => ?_⟩
    refine lc_fl (walk_tup (K := K) (a := c) (xs := ns.map V.int)) (fun i => decide (ns.getD i 0 ≠ 0)) (fun i => .int (ns.getD i 0)) (by rw [List.length_map]; exact small (by omega)) nE1 (fun H' s => (hc.same s).t) ?_ ?_
    · rintro j x H6 H6' Qy Nx hj s6 ⟨rfl, hx⟩ hk hnk
      obtain ⟨y, hy, rfl⟩ := map_get hx
      have ey : ns.getD j 0 = y := by
        rw [List.getD_eq_getElem?_getD, hy]
        rfl
      rw [ey] at hk hnk
      refine ⟨rfl, .int y, rfl, rfl, _, rfl, ite2 (fun h => ?_) (fun h => ?_)⟩
      · refine ⟨.int y, rfl, hk (decide_eq_true (fun z => ?_)) _ (Same.refl _)⟩
        rw [z] at h
        exact absurd h (by decide)
      · refine hnk (decide_eq_false (fun z => h ?_)) _ (Same.refl _)
        rw [decide_eq_false (fun e => z (V.int.inj e))]
        rfl
    intro H1 s1 g1
    have e1 : ((List.range (ns.map V.int).length).filter fun i => decide (ns.getD i 0 ≠ 0)).map (fun i => V.int (ns.getD i 0)) = (ns.filter fun x => decide (x ≠ 0)).map V.int := by
      rw [← range_filter, List.map_map, List.length_map]
      rfl
    rw [e1] at g1
    refine ⟨by show 0 ≤ sizeLine; decide, fun Z nZ => ?_⟩
    have s2 : Same H1 (upd H1 Z (.lst [])) := same_new nZ
    have g2 : upd H1 Z (.lst []) Z = some (.lst []) := upd_same
    have g1 := s2 _ _ g1
    generalize upd H1 Z (.lst []) = H2 at s2 g2 g1 ⊢
    refine ⟨.list ((ns.filter fun x => decide (x ≠ 0)).map PyData.int), .list [], .lst (SqL.of g1) (dp_ints _), .lst (SqL.of g2) .nil, shaped_ints _, shaped_ints [], _, rfl, ?_⟩
    have s12 := s1.trans s2
    have eqA : PyData.eqv (.list ((ns.filter fun x => decide (x ≠ 0)).map PyData.int)) (.list []) = !ns.any (· != 0) := by
      rw [any_filter]
      cases (ns.filter fun x => decide (x ≠ 0)) with
      | nil => rfl
      | cons y r => rfl
    rw [eqA]
    unfold nearB at q
    cases hn : ns.any (· != 0) with
    | false =>
      rw [hn] at q
      exact iteT' rfl (q H2 s12)
    | true =>
      rw [hn, Bool.true_and] at q
      refine iteF' rfl ?_
      refine ⟨.ref a, rfl, a, B, rfl, hT.same s12, by omega, fun H3 s3 => ⟨_, rfl, ?_⟩⟩
      rw [show (if det B.length (mL B) < 0 then -det B.length (mL B) else det B.length (mL B)) = ((det B.length (mL B)).natAbs : Int) by split <;> omega]
      obtain ⟨d, hd⟩ : ∃ d, d = ((det B.length (mL B)).natAbs : Int) := ⟨_, rfl⟩
      rw [← hd] at q ⊢
      have s13 := s12.trans s3
      refine gname_ ?_
      dsimp only
      refine ⟨.ref a, rfl, a, _, rfl, .inr (ha.same s13).t, ((ps.map V.ref).length : Int), rfl, by omega, by rw [List.length_map]; omega, ?_⟩
      have e0 : ((ps.map V.ref).length : Int).toNat = B.length := by
        rw [List.length_map]
        omega
      rw [e0]
      refine for_range (lo := 0) (n := B.length) (fun j σ H' => (∃ y y4, σ = [some (.ref a), some (.ref c), y, some (.int d), y4]) ∧ Same H H' ∧ ∀ i, i < j → 2 * ((repD B ns i).natAbs : Int) ≤ d) ⟨⟨_, _, rfl⟩, s13, fun i h => absurd h (Nat.not_lt_zero _)⟩ ?_ ?_
      · rintro j σ H4 hj ⟨⟨y, y4, rfl⟩, s4, fs⟩
        have ej : (0 + (j : Int)) = ((j : Nat) : Int) := by omega
        refine ⟨.ref a, rfl, .int (0 + j), rfl, 0 + j, rfl, ?_⟩
        refine slice_tp (ha.same s4) fun r5 H5 s5 g5 => ?_
        rw [ej, cut_to, ← List.map_take] at g5
        refine ⟨.ref c, rfl, by show 1 ≤ sizeLine; decide, fun T nT => ?_⟩
        have s6 : Same H5 (upd H5 T (.tup [.ref c])) := same_new nT
        have g6 : Tp (upd H5 T (.tup [.ref c])) T [.ref c] := upd_same
        generalize upd H5 T (.tup [.ref c]) = H6 at s6 g6 ⊢
        refine cat_tp (g5.same s6) g6 (by rw [List.length_map, List.length_take]; exact Nat.le_of_lt (small (by show _ + 1 ≤ 100; omega))) fun r7 H7 s7 g7 => ?_
        refine ⟨.ref a, rfl, .int (0 + j), rfl, 0 + j, 1, rfl, rfl, 0 + j + 1, rfl, ?_⟩
        unfold tNoPart
        have s47 := (s5.trans s6).trans s7
        refine slice_tp ((ha.same s4).same s47) fun r8 H8 s8 g8 => ?_
        rw [show (0 + (j : Int) + 1) = ((j + 1 : Nat) : Int) by omega, cut_from, ← List.map_drop] at g8
        refine cat_tp (g7.same s8) g8 (by rw [List.length_append, List.length_map, List.length_map, List.length_take, List.length_drop]; exact Nat.le_of_lt (small (by show _ + 1 + _ ≤ 100; omega))) fun T9 H9 s9 g9 => ?_
        have eset : (ps.take j).map V.ref ++ [V.ref c] ++ (ps.drop (j + 1)).map V.ref = (ps.set j c).map V.ref := by
          rw [List.append_assoc, List.singleton_append, ← List.map_cons, ← List.map_append, List.set_eq_take_append_cons_drop, if_pos (by omega)]
        rw [eset] at g9
        have s49 := (s47.trans s8).trans s9
        have s09 := s4.trans s49
        have R9 : Rws H9 (ps.set j c) (B.set j ns) B.length := by
          refine ⟨by rw [List.length_set, List.length_set]; exact hR.1, fun y p r e1 e2 => ?_⟩
          by_cases e : j = y
          · subst e
            rw [List.getElem?_set_self (by omega)] at e1
            rw [List.getElem?_set_self hj] at e2
            obtain rfl := Option.some.inj e1
            obtain rfl := Option.some.inj e2
            exact ⟨hcR.same s09, ln⟩
          · rw [List.getElem?_set_ne e] at e1 e2
            have q := hR.2 y p r e1 e2
            exact ⟨q.1.same s09, q.2⟩
        refine ⟨T9, B.set j ns, rfl, ⟨ps.set j c, g9, by rw [List.length_set]; exact R9⟩, by rw [List.length_set]; omega, fun H10 s10 => ?_⟩
        rw [List.length_set]
        have zr := repD_sm h6 wid zn j
        refine ⟨_, rfl, ?_⟩
        rw [show (if det B.length (mL (B.set j ns)) < 0 then -det B.length (mL (B.set j ns)) else det B.length (mL (B.set j ns))) = ((repD B ns j).natAbs : Int) by unfold repD; split <;> omega]
        refine ⟨2, ((repD B ns j).natAbs : Int), rfl, rfl, mulB (k := 2) (j := 2000) (by decide) (by decide) (by show (2 : Int).natAbs < 4; decide) (show (((repD B ns j).natAbs : Int)).natAbs < 2 ^ 2000 by rw [Int.natAbs_natCast]; exact zr) (by decide), .int d, rfl, _, _, rfl, rfl, _, rfl, ite2 (fun h => ?_) (fun h => ?_)⟩
        · have h := of_decide_eq_true h
          have q := q H10 (s09.trans s10)
          have e : ((numsI B ns).all fun z => decide (2 * (z.natAbs : Int) ≤ d)) = false := by
            cases e : ((numsI B ns).all fun z => decide (2 * (z.natAbs : Int) ≤ d)) with
            | false => rfl
            | true => exact absurd (numsI_near.mp e j hj) (by omega)
          rw [e] at q
          exact q
        · have h : ¬ d < 2 * ((repD B ns j).natAbs : Int) := fun z => h (decide_eq_true z)
          refine ⟨⟨_, _, rfl⟩, s09.trans s10, fun i hi => ?_⟩
          rcases Nat.lt_succ_iff_lt_or_eq.mp hi with l | l
          · exact fs i l
          · subst l
            omega
      · rintro σ H4 ⟨⟨y, y4, rfl⟩, s4, fs⟩
        have q := q H4 s4
        rw [numsI_near.mpr fs] at q
        exact q
end
end K16
namespace K16
open PySem PySem.Spec PyProof.Rows L2 Vk Vd
abbrev s_unit : Stmt := topS 32
theorem sc_unit : FnScope ["m", "size_so", "rows", "step", "i", "j", "times", "k", "x"] ["m", "size_so"] (defScope s_unit) := ⟨rfl, rfl, rfl, by decide +kernel, rfl, by decide +kernel, by decide +kernel⟩
theorem ix_of {n : Nat} {k : Int} {j : Nat} (h : k = j) (l : j < n) : ixN n k = some j := by
  unfold ixN
  rw [if_pos (by omega), if_pos (by omega), h, Int.toNat_natCast]
theorem rws_put {H : Hp} {D : Addr} {l : List V} {o : HO} {ps : List Addr} {B : List (List Int)} {n : Nat} (h : Rws H ps B n) (d : H D = some (.lst l)) : Rws (upd H D o) ps B n := ⟨h.1, fun i p r e1 e2 => ⟨⟨tp_put (h.2 i p r e1 e2).1.1 d, (h.2 i p r e1 e2).1.2⟩, (h.2 i p r e1 e2).2⟩⟩
theorem c_ne {H : Hp} {m c R : Addr} {n : Nat} {ps : List Addr} (M : MOk H m c n) (g : H R = some (.lst (ps.map V.ref))) : R ≠ c := by
  obtain ⟨L, sd, sp, cells, h1, h2, h3, _⟩ := M
  rintro rfl
  rw [h2] at g
  have e := HO.lst.inj (Option.some.inj g)
  cases cells with
  | nil => cases h3
  | cons x l =>
    cases ps with
    | nil => cases e
    | cons y l' =>
      have := (List.cons.inj e).1
      cases this
def spSignedB : Sp := fun vs H Q _ => ∃ (m c : Addr) (q : Nat) (b : Int), vs = [.ref m, .int b] ∧ MOk H m c q ∧ q ≤ 50000 ∧ 0 ≤ b ∧ b ≤ 1000000000 ∧ ∀ H' v, SameBut m H H' → MOk H' m c (q + 2) → -b ≤ v → v ≤ b → Q (.int v) H'
/-- rows of n numbers below 2 ^ z -/
def RwZ (z : Nat) (H : Hp) (ps : List Addr) (B : List (List Int)) (n : Nat) : Prop := Rws H ps B n ∧ ∀ r ∈ B, ∀ x ∈ r, SmZ z x
theorem RwZ.same {z : Nat} {H H' : Hp} {ps : List Addr} {B : List (List Int)} {n : Nat} (h : RwZ z H ps B n) (s : Same H H') : RwZ z H' ps B n := ⟨h.1.same s, h.2⟩
theorem RwZ.mono {z y : Nat} {H : Hp} {ps : List Addr} {B : List (List Int)} {n : Nat} (h : RwZ z H ps B n) (l : z ≤ y) : RwZ y H ps B n := ⟨h.1, fun r hr x hx => smz_mono (h.2 r hr x hx) l⟩
theorem rwZ_set {z : Nat} {H : Hp} {D p : Addr} {l : List V} {o : HO} {ps : List Addr} {B : List (List Int)} {n : Nat} {r : List Int} (h : RwZ z H ps B n) (d : H D = some (.lst l)) (hp : Row H p r) (lr : r.length = n) (zr : ∀ x ∈ r, SmZ z x) (j : Nat) : RwZ z (upd H D o) (ps.set j p) (B.set j r) n := by
  refine ⟨rws_put ⟨by rw [List.length_set, List.length_set]; exact h.1.1, fun i q x e1 e2 => ?_⟩ d, fun x hx => ?_⟩
  · by_cases e : j = i
    · subst e
      have il : j < ps.length := by
        have := (List.getElem?_eq_some_iff.mp e1).1
        rwa [List.length_set] at this
      rw [List.getElem?_set_self il] at e1
      rw [List.getElem?_set_self (by rw [← h.1.1]; exact il)] at e2
      obtain rfl := Option.some.inj e1
      obtain rfl := Option.some.inj e2
      exact ⟨hp, lr⟩
    · rw [List.getElem?_set_ne e] at e1 e2
      exact h.1.2 i q x e1 e2
  · rcases List.mem_or_eq_of_mem_set hx with m | rfl
    · exact h.2 x m
    · exact zr
theorem smz_step {k : Nat} {a c t : Int} (ha : SmZ k a) (hc : SmZ k c) (h1 : -3 ≤ t) (h2 : t ≤ 3) : SmZ (k + 2) (a + t * c) := by
  have ha : a.natAbs < 2 ^ k := ha
  have hc : c.natAbs < 2 ^ k := hc
  show (a + t * c).natAbs < 2 ^ (k + 2)
  have e : (2 : Nat) ^ (k + 2) = 4 * 2 ^ k := by rw [Nat.pow_add, Nat.mul_comm]
  rw [e]
  have h := Int.natAbs_add_le a (t * c)
  rw [Int.natAbs_mul] at h
  have ht : t.natAbs ≤ 3 := by omega
  have hm : t.natAbs * c.natAbs ≤ 3 * c.natAbs := Nat.mul_le_mul_right _ ht
  omega
def unitD (n : Nat) (d : Int) : List (List Int) := (List.range n).map fun i => (List.range n).map fun j => if i = j then d else 0
def spUnit : Sp := fun vs H Q _ => ∃ (m c : Addr) (q n : Nat), vs = [.ref m, .int n] ∧ MOk H m c q ∧ q ≤ 4000 ∧ 1 ≤ n ∧ n ≤ 6 ∧ ∀ H' r B, SameBut m H H' → MOk H' m c (q + 60) → TabR H' r B n → B.length = n → (∀ r ∈ B, ∀ x ∈ r, SmZ 26 x) → Q (.ref r) H'
section
variable {P : Program} {w : World} {K : PySem.W.Frag} {mg : Str → Option Value} {base : Heap}
theorem ok_signedB {f : Addr} {fd : FuncData} (F : Fun K "_law_signed" "_law_signed" s_signed f fd) (C__law_draw : Cal P w K mg base 1 "_law_draw" ["m", "bound"] spDraw) : FnOk P w K mg base CX0 2 f fd ["m", "most"] spSignedB := by
  have sc := sc_signed
  refine F.ok sc (fun vs H Q E h => ?_) (fun cdv A outer s H vs Q E hr h => ?_)
  · obtain ⟨m, c, q, b, rfl, _⟩ := h
    rfl
  · obtain ⟨m, c, q, b, rfl, hM, hq, b0, b1, k⟩ := h
    refine ⟨_, (pss_cons (ps_set (i := 2) sc.nd rfl (Or.inl rfl) (call_ C__law_draw (hr.mono (by decide)) (by rfl) (pa_cons (pv 0) (pa_cons (pe_op op_add (pv 1) pe_int) pa_nil))))
    (pss_one (ps_ret (pe_ifExp (pt_cmpR op_eq (call_ C__law_draw (hr.mono (by decide)) (by rfl) (pa_cons (pv 0) (pa_cons pe_int pa_nil))) pe_int (nomark _)) (pv 2) (pe_un un_neg (pv 2)))))), ?_⟩
    have lim : ∀ z : Int, 0 ≤ z → z ≤ 100000000000000 → z.natAbs < 2 ^ 200 := fun z h0 h1 => Nat.lt_of_le_of_lt (show z.natAbs ≤ 100000000000000 by omega) (by decide)
    refine ⟨.ref m, rfl, .int b, rfl, b, 1, rfl, rfl, m, c, q, b + 1, rfl, hM, by omega, by omega, lim _ (by omega) (by omega), fun H1 v s1 M1 v0 v1 => ?_⟩
    refine ⟨.ref m, rfl, m, c, q + 1, 2, rfl, M1, by omega, by decide, by decide, fun H2 u s2 M2 u0 u1 => ?_⟩
    have s12 := s1.trans s2
    have M3 := M2.mono (show q + 1 + 1 ≤ q + 2 by omega)
    refine ⟨rfl, _, rfl, ite2 (fun _ => ?_) (fun _ => ?_)⟩
    · exact ⟨_, rfl, k H2 _ s12 M3 (by omega) (by omega)⟩
    · exact ⟨_, rfl, v, rfl, k H2 _ s12 M3 (by omega) (by omega)⟩
theorem ok_unit {f : Addr} {fd : FuncData} (F : Fun K "_law_unit_rays" "_law_unit_rays" s_unit f fd) (C__law_draw : Cal P w K mg base 1 "_law_draw" ["m", "bound"] spDraw) (C__law_signed : Cal P w K mg base 2 "_law_signed" ["m", "most"] spSignedB) (m_tuple : mg "tuple" = none) (m_range : mg "range" = none) : FnOk P w K mg base CX0 3 f fd ["m", "size_so"] spUnit := by
  have sc := sc_unit
  refine F.ok sc (fun vs H Q E h => ?_) (fun cdv A outer s H vs Q E hr h => ?_)
  · obtain ⟨m, c, q, n, rfl, _⟩ := h
    rfl
  · obtain ⟨m, c, q, n, rfl, hM, hq, h1, h6, k⟩ := h
    refine ⟨_, (pss_cons (ps_set (i := 2) sc.nd rfl (Or.inr rfl) (pe_lc (own := [("i", 4)]) (g := gName 4) (by rfl) sc.nd (pi_range1 rfl m_range (pa_cons (pv 1) pa_nil)) (blkOk_by (own := [("i", 4)]) (N := ["m", "size_so", "rows", "step", "i", "j", "times", "k", "x"]) (sc := defScope s_unit) (by decide +kernel)) (fun _ _ _ _ _ => pg_name (i := 4) sc.nd rfl (Or.inr rfl)) (fun _ _ _ _ _ => pts_nil) (fun _ _ _ _ _ => (pe_callTy (call_tuple_ofK (K := K) rfl) (by rfl) m_tuple (by decide +kernel) (pa_cons (pe_lc (own := [("j", 5)]) (g := gName 5) (by rfl) sc.nd (pi_range1 rfl m_range (pa_cons (pv 1) pa_nil)) (blkOk_by (own := [("j", 5)]) (N := ["m", "size_so", "rows", "step", "i", "j", "times", "k", "x"]) (sc := { kind := .function, names := [(".0", .local), ("i", .cell), ("tuple", .globalImplicit), ("range", .globalImplicit), ("size_so", .cell)], isGenerator := false, isCoroutine := false }) (by decide +kernel)) (fun _ _ _ _ _ => pg_name (i := 5) sc.nd rfl (Or.inl rfl)) (fun _ _ _ _ _ => pts_nil) (fun _ _ _ _ _ => (pe_ifExp (pt_cmpR op_eq (pv 4) (pv 5) (nomark _)) pe_int pe_int))) pa_nil)))))
    (pss_cons (ps_for PassesOwn.never rfl (pi_range1 rfl m_range (pa_cons (pe_op op_mulW pe_int (pv 1)) pa_nil)) (pg_name (i := 3) sc.nd rfl (Or.inl rfl))
      (pss_cons (ps_set (i := 4) sc.nd rfl (Or.inr rfl) (call_ C__law_draw (hr.mono (by decide)) (by rfl) (pa_cons (pv 0) (pa_cons (pv 1) pa_nil))))
    (pss_cons (ps_asg (pe_tup (pa_cons (call_ C__law_draw (hr.mono (by decide)) (by rfl) (pa_cons (pv 0) (pa_cons (pv 1) pa_nil))) (pa_cons (call_ C__law_signed (hr.mono (by decide)) (by rfl) (pa_cons (pv 0) (pa_cons pe_int pa_nil))) pa_nil))) (pg_tup (n := 2) (by rfl) (pgs_cons (pg_name (i := 5) sc.nd rfl (Or.inr rfl)) (pgs_cons (pg_name (i := 6) sc.nd rfl (Or.inr rfl)) pgs_nil))))
    (pss_one (ps_if (pt_cmpR op_ne (pv 4) (pv 5) (nomark _))
      (pss_one (ps_asg (pe_callTy call_tuple_of (by rfl) m_tuple (by decide +kernel) (pa_cons (pe_lc (own := [("k", 7)]) (g := gName 7) (by rfl) sc.nd (pi_range1 rfl m_range (pa_cons (pv 1) pa_nil)) (blkOk_by (own := [("k", 7)]) (N := ["m", "size_so", "rows", "step", "i", "j", "times", "k", "x"]) (sc := defScope s_unit) (by decide +kernel)) (fun _ _ _ _ _ => pg_name (i := 7) sc.nd rfl (Or.inl rfl)) (fun _ _ _ _ _ => pts_nil) (fun _ _ _ _ _ => (pe_op op_add (pe_ix (ix_tupK (K := K) rfl) (pe_ix (ix_listK (K := K) rfl) (pv 2) (pv 4) (fun _ _ => rfl)) (pv 7) (fun _ _ => rfl)) (pe_op op_mulW (pv 6) (pe_ix (ix_tupK (K := K) rfl) (pe_ix (ix_listK (K := K) rfl) (pv 2) (pv 5) (fun _ _ => rfl)) (pv 7) (fun _ _ => rfl)))))) pa_nil)) (pg_sub (pv 2) (pv 4) set_list)))
      (pss_one (ps_if (pt_cmpR op_lt (pv 6) pe_int (nomark _))
      (pss_one (ps_asg (pe_callTy call_tuple_of (by rfl) m_tuple (by decide +kernel) (pa_cons (pe_lc (own := [("x", 8)]) (g := gName 8) (by rfl) sc.nd (pi_tup (pe_ix ix_list (pv 2) (pv 4) (fun _ _ => rfl))) (blkOk_by (own := [("x", 8)]) (N := ["m", "size_so", "rows", "step", "i", "j", "times", "k", "x"]) (sc := defScope s_unit) (by decide +kernel)) (fun _ _ _ _ _ => pg_name (i := 8) sc.nd rfl (Or.inl rfl)) (fun _ _ _ _ _ => pts_nil) (fun _ _ _ _ _ => (pe_un un_neg (pv 8)))) pa_nil)) (pg_sub (pv 2) (pv 4) set_list)))
      pss_nil)))))))
    (pss_one (ps_ret (pe_callTy call_tuple_of (by rfl) m_tuple (by decide +kernel) (pa_cons (pv 2) pa_nil)))))), ?_⟩
    refine ⟨.int n, rfl, (n : Int), rfl, by omega, by omega, fun R nR => ?_⟩
    rw [Int.toNat_natCast]
    refine lc_tps (walk_range (lo := 0) (n := n)) (unitD n 1) (by unfold unitD; rw [List.length_map, List.length_range]) (small (by omega)) nR (fun H' s => True.intro) ?_ ?_
    · rintro i x y H0 H0' Qy hy hi s0 ⟨rfl, rfl⟩ hq
      unfold unitD at hy
      rw [List.getElem?_map, List.getElem?_range hi] at hy
      obtain rfl := Option.some.inj hy
      refine ⟨rfl, .int n, rfl, (n : Int), rfl, by omega, by omega, fun D2 nD2 => ?_⟩
      rw [Int.toNat_natCast]
      refine lc_to (walk_range (lo := 0) (n := n)) (((List.range n).map fun j => if i = j then (1 : Int) else 0).map V.int) (by rw [List.length_map, List.length_map, List.length_range]) (small (by omega)) nD2 (fun H' s => True.intro) ?_ ?_
      · rintro j x v9 H9 H9' Qy hv9 hj s9 ⟨rfl, rfl⟩ hq
        obtain ⟨u9, hu9, rfl⟩ := map_get hv9
        rw [List.getElem?_map, List.getElem?_range hj] at hu9
        have eu : u9 = if i = j then 1 else 0 := (Option.some.inj hu9).symm
        refine ⟨rfl, .int (0 + i), rfl, .int (0 + j), rfl, rfl, _, rfl, ite2 (fun z => ?_) (fun z => ?_)⟩
        · have z := V.int.inj (of_decide_eq_true z)
          rw [if_pos (by omega)] at eu
          rw [eu] at hq
          exact hq _ (Same.refl _)
        · have z : ¬ (0 + (i : Int) = 0 + j) := fun y => z (decide_eq_true (by rw [y]))
          rw [if_neg (by omega)] at eu
          rw [eu] at hq
          exact hq _ (Same.refl _)
      · intro H9 s9 d9
        exact ⟨D2, _, rfl, .inl ⟨SqL.of d9, fun T' nT' => hq T' _ (s9.trans (same_new nT')) upd_same⟩⟩
    intro H1 ps s1 g1 W1
    have lps : ps.length = n := by
      rw [W1.1]
      unfold unitD
      rw [List.length_map, List.length_range]
    have ur : ∀ r ∈ unitD n 1, r.length = n ∧ ∀ x ∈ r, SmZ 1 x := fun r hr => by
      unfold unitD at hr
      obtain ⟨i, _, rfl⟩ := List.mem_map.mp hr
      refine ⟨by rw [List.length_map, List.length_range], fun x hx => ?_⟩
      obtain ⟨j, _, rfl⟩ := List.mem_map.mp hx
      show (if i = j then (1 : Int) else 0).natAbs < 2 ^ 1
      split <;> decide
    have Z1 : RwZ 1 H1 ps (unitD n 1) n := ⟨⟨W1.1, fun i p r e1 e2 => by
      obtain ⟨l, z⟩ := ur r (List.mem_of_getElem? e2)
      exact ⟨⟨W1.2 i p r e1 e2, by omega, fun x hx => smz_mono (z x hx) (by decide)⟩, l⟩⟩, fun r hr => (ur r hr).2⟩
    obtain ⟨kv, hm⟩ := hM.m_some
    have rm : R ≠ m := Ne.symm (ne_of_none hm nR)
    have lim : (n : Int).natAbs < 2 ^ 200 := Nat.lt_of_le_of_lt (show ((n : Nat) : Int).natAbs ≤ 6 by omega) (by decide)
    refine gname_ ?_
    dsimp only
    refine ⟨.int n, rfl, 2, n, rfl, rfl, mulB (k := 2) (j := 3) (by decide) (by decide) (by show (2 : Int).natAbs < 4; decide) (show ((n : Nat) : Int).natAbs < 2 ^ 3 by omega) (by decide), (2 * n : Int), rfl, by omega, by omega, ?_⟩
    rw [show (2 * (n : Int)).toNat = 2 * n by omega]
    refine for_range (lo := 0) (n := 2 * n) (fun j σ H' => ∃ ps B, (∃ y3 y4 y5 y6, σ = [some (.ref m), some (.int n), some (.ref R), y3, y4, y5, y6, none, none]) ∧ SameBut m H H' ∧ MOk H' m c (q + 5 * j) ∧ H' R = some (.lst ((ps : List Addr).map V.ref)) ∧ RwZ (1 + 2 * j) H' ps B n ∧ ps.length = n) ⟨ps, unitD n 1, ⟨_, _, _, _, rfl⟩, SameBut.of s1, hM.same s1, g1, Z1, lps⟩ ?_ ?_
    · rintro st σ H2 hst ⟨ps, B, ⟨y3, y4, y5, y6, rfl⟩, b2, M2, g2, Z2, l2⟩
      refine seq_ ?_
      refine ⟨.ref m, rfl, .int n, rfl, m, c, _, n, rfl, M2, by omega, by omega, lim, fun H3 iv b3 M3 i0 i1 => ?_⟩
      obtain ⟨i, rfl⟩ : ∃ i : Nat, iv = i := ⟨iv.toNat, by omega⟩
      refine seq_ ?_
      refine ⟨.ref m, rfl, .int n, rfl, m, c, _, n, rfl, M3, by omega, by omega, lim, fun H4 jv b4 M4 j0 j1 => ?_⟩
      obtain ⟨j, rfl⟩ : ∃ j : Nat, jv = j := ⟨jv.toNat, by omega⟩
      refine ⟨.ref m, rfl, m, c, _, 3, rfl, M4, by omega, by decide, by decide, fun H5 tv b5 M5 t0 t1 => ?_⟩
      refine ⟨by show 2 ≤ sizeLine; decide, fun T nT => ?_⟩
      have s6 : Same H5 (upd H5 T (.tup [.int j, .int tv])) := same_new nT
      have g6 : Tp (upd H5 T (.tup [.int j, .int tv])) T [.int j, .int tv] := upd_same
      generalize upd H5 T (.tup [.int j, .int tv]) = H6 at s6 g6 ⊢
      refine ⟨T, _, rfl, g6.t, rfl, .int j, [.int tv], rfl, .int tv, [], rfl, rfl, ?_⟩
      obtain ⟨kv2, hm2⟩ := M2.m_some
      have b26 := ((b3.trans b4).trans b5).trans (SameBut.of s6)
      have b6 := b2.trans b26
      have M6 := M5.same s6
      have gR := b26 _ _ rm g2
      have W6 := Z2.1.but hm2 b26
      have lB : B.length = n := by rw [← Z2.1.1, l2]
      have rowN : ∀ x, x < n → ∃ p b, ps[x]? = some p ∧ B[x]? = some b ∧ Row H6 p b ∧ b.length = n ∧ ∀ y ∈ b, SmZ (1 + 2 * st) y := fun x hx => by
        have e1 : ps[x]? = some (ps[x]'(by omega)) := List.getElem?_eq_getElem _
        have e2 : B[x]? = some (B[x]'(by omega)) := List.getElem?_eq_getElem _
        obtain ⟨r1, r2⟩ := W6.2 x _ _ e1 e2
        exact ⟨_, _, e1, e2, r1, r2, fun y hy => Z2.2 _ (List.mem_of_getElem? e2) y hy⟩
      have Z6 : RwZ (1 + 2 * (st + 1)) H6 ps B n := RwZ.mono ⟨W6, Z2.2⟩ (by omega)
      obtain ⟨pi, bi, hpi, hbi, Ri, li, zi⟩ := rowN i (by omega)
      obtain ⟨pj, bj, hpj, hbj, Rj, lj, zj⟩ := rowN j (by omega)
      refine ⟨.int i, rfl, .int j, rfl, rfl, _, rfl, ite2 (fun h => ?_) (fun h => ?_)⟩
      · refine ⟨.int n, rfl, (n : Int), rfl, by omega, by omega, fun D nD => ?_⟩
        rw [Int.toNat_natCast]
        refine lc_to (walk_range (lo := 0) (n := n)) (((List.range n).map fun x => bi.getD x 0 + tv * bj.getD x 0).map V.int) (by rw [List.length_map, List.length_map, List.length_range]) (small (by omega)) nD (fun H' s => True.intro) ?_ ?_
        · rintro x xv u H8 H8' Qy hu hx s8 ⟨rfl, rfl⟩ hq
          obtain ⟨v, hv, rfl⟩ := map_get hu
          rw [List.getElem?_map, List.getElem?_range hx] at hv
          obtain rfl := Option.some.inj hv
          have ej : (0 + (x : Int)) = ((x : Nat) : Int) := by omega
          have g0 := Vk.getD_at (xs := bi) (i := x) (by omega)
          have g1 := Vk.getD_at (xs := bj) (i := x) (by omega)
          exact ⟨rfl, .ref R, rfl, .int i, rfl, R, _, i, .ref pi, rfl, rfl, SqL.of (s8 _ _ gR), atI_nat (get_map hpi), .int (0 + x), rfl, pi, _, 0 + x, .int (bi.getD x 0), rfl, rfl, (Ri.same s8).1.t, atI_at ej (get_map g0), .int tv, rfl, .ref R, rfl, .int j, rfl, R, _, j, .ref pj, rfl, rfl, SqL.of (s8 _ _ gR), atI_nat (get_map hpj), .int (0 + x), rfl, pj, _, 0 + x, .int (bj.getD x 0), rfl, rfl, (Rj.same s8).1.t, atI_at ej (get_map g1), tv, _, rfl, rfl, mulB (k := 3) (by decide) (by omega) (Nat.lt_of_le_of_lt (show tv.natAbs ≤ 3 by omega) (by decide)) (zj _ (List.mem_of_getElem? g1)) (by omega), _, _, rfl, rfl, hq _ (Same.refl _)⟩
        intro H8 s8 d8
        refine ⟨D, _, rfl, .inl ⟨SqL.of d8, fun T2 nT2 => ?_⟩⟩
        have zm : ∀ x ∈ (List.range n).map fun x => bi.getD x 0 + tv * bj.getD x 0, SmZ (1 + 2 * (st + 1)) x := fun x hx => by
          obtain ⟨y, hy, rfl⟩ := List.mem_map.mp hx
          have hy := List.mem_range.mp hy
          exact smz_mono (smz_step (zi _ (List.mem_of_getElem? (Vk.getD_at (by omega)))) (zj _ (List.mem_of_getElem? (Vk.getD_at (by omega)))) t0 t1) (by omega)
        have lz : ((List.range n).map fun x => bi.getD x 0 + tv * bj.getD x 0).length = n := by rw [List.length_map, List.length_range]
        generalize ((List.range n).map fun x => bi.getD x 0 + tv * bj.getD x 0) = zs at d8 nT2 zm lz ⊢
        have s9 : Same H8 (upd H8 T2 (.tup (zs.map V.int))) := same_new nT2
        have g9 : Tp (upd H8 T2 (.tup (zs.map V.int))) T2 (zs.map V.int) := upd_same
        generalize upd H8 T2 (.tup (zs.map V.int)) = H9 at s9 g9 ⊢
        have s69 := s8.trans s9
        have gR9 := s69 _ _ gR
        have M9 := M6.same s69
        exact ⟨.ref R, rfl, .int i, rfl, R, _, i, i, rfl, rfl, gR9, ix_of rfl (by rw [List.length_map]; omega), ps.set i T2, B.set i zs, ⟨_, _, _, _, rfl⟩, sb_put nR (b6.trans (SameBut.of s69)), (M9.put rm (c_ne M9 gR9)).mono (by omega), by rw [upd_same, List.map_set], rwZ_set (Z6.same s69) gR9 ⟨g9, by omega, fun x hx => smz_mono (zm x hx) (by omega)⟩ lz zm _, by rw [List.length_set]; exact l2⟩
      · refine ⟨.int tv, rfl, tv, 0, rfl, rfl, _, rfl, ite2 (fun h2 => ?_) (fun h2 => ?_)⟩
        · refine ⟨.ref R, rfl, .int i, rfl, R, _, i, .ref pi, rfl, rfl, SqL.of gR, atI_nat (get_map hpi), pi, rfl, ⟨_, Ri.1.t⟩, fun D nD => ?_⟩
          refine lc_to (walk_tup (K := K) (a := pi) (xs := bi.map V.int)) ((bi.map fun x => -x).map V.int) (by rw [List.length_map, List.length_map, List.length_map]) (by rw [List.length_map]; exact small (by omega)) nD (fun H' s => (Ri.1.same s).t) ?_ ?_
          · rintro x xv u H8 H8' Qy hu hx s8 ⟨rfl, hxv⟩ hq
            obtain ⟨v, hv, rfl⟩ := map_get hu
            obtain ⟨y, hy, rfl⟩ := map_get hxv
            rw [List.getElem?_map, hy] at hv
            obtain rfl := Option.some.inj hv
            exact ⟨rfl, .int y, rfl, y, rfl, hq _ (Same.refl _)⟩
          intro H8 s8 d8
          refine ⟨D, _, rfl, .inl ⟨SqL.of d8, fun T2 nT2 => ?_⟩⟩
          have zm : ∀ x ∈ bi.map fun x => -x, SmZ (1 + 2 * (st + 1)) x := fun x hx => by
            obtain ⟨y, hy, rfl⟩ := List.mem_map.mp hx
            have := smz_mono (zi y hy) (show 1 + 2 * st ≤ 1 + 2 * (st + 1) by omega)
            show (-y).natAbs < _
            rw [Int.natAbs_neg]
            exact this
          have lz : (bi.map fun x => -x).length = n := by rw [List.length_map, li]
          generalize (bi.map fun x => -x) = zs at d8 nT2 zm lz ⊢
          have s9 : Same H8 (upd H8 T2 (.tup (zs.map V.int))) := same_new nT2
          have g9 : Tp (upd H8 T2 (.tup (zs.map V.int))) T2 (zs.map V.int) := upd_same
          generalize upd H8 T2 (.tup (zs.map V.int)) = H9 at s9 g9 ⊢
          have s69 := s8.trans s9
          have gR9 := s69 _ _ gR
          have M9 := M6.same s69
          exact ⟨.ref R, rfl, .int i, rfl, R, _, i, i, rfl, rfl, gR9, ix_of rfl (by rw [List.length_map]; omega), ps.set i T2, B.set i zs, ⟨_, _, _, _, rfl⟩, sb_put nR (b6.trans (SameBut.of s69)), (M9.put rm (c_ne M9 gR9)).mono (by omega), by rw [upd_same, List.map_set], rwZ_set (Z6.same s69) gR9 ⟨g9, by omega, fun x hx => smz_mono (zm x hx) (by omega)⟩ lz zm _, by rw [List.length_set]; exact l2⟩
        · exact ⟨ps, B, ⟨_, _, _, _, rfl⟩, b6, M6.mono (by omega), gR, Z6, l2⟩
    · rintro σ H2 ⟨ps, B, ⟨y3, y4, y5, y6, rfl⟩, b2, M2, g2, Z2, l2⟩
      refine ⟨.ref R, rfl, R, _, rfl, .inl ⟨SqL.of g2, fun T nT => ?_⟩⟩
      have s6 := same_new (o := .tup (ps.map V.ref)) nT
      exact k _ T B (b2.trans (SameBut.of s6)) ((M2.same s6).mono (by omega)) ⟨ps, upd_same, Z2.1.same s6⟩ (by rw [← Z2.1.1, l2]) fun r hr x hx => smz_mono (Z2.2 r hr x hx) (by omega)
end
end K16
namespace K16
open PySem PySem.Spec PyProof.Rows L2 Vk Vd
abbrev s_rays : Stmt := topS 33
theorem sc_rays : FnScope ["m", "size_so", "most", "rows", "word", "i", "times", "j", "x"] ["m", "size_so"] (defScope s_rays) := ⟨rfl, rfl, rfl, by decide +kernel, rfl, by decide +kernel, by decide +kernel⟩
/-- drawn rows -/
theorem lc_rowsW {n wd z w : Nat} {g : TG} {te : TE} {vs : List Nat} {σ : L2.St} {H1 : Hp} {D : Addr} {Qd : Hp → Prop} {m c : Addr} {q : Nat} (hz : n < sizeLine) (hM : MOk H1 m c q) (nD : H1 D = none)
    (hs : ∀ (i : Nat) (H : Hp) (Qy : VK), i < n → MOk H m c (q + i * w) → (∀ H4 p xs, SameBut m H H4 → MOk H4 m c (q + (i + 1) * w) → Row H4 p xs → (∀ x ∈ xs, SmZ z x) → xs.length = wd → Qy (.ref p) H4) → g (.int (0 + i)) (wipe σ vs) H fun σ2 H2 => wipe σ2 vs = wipe σ vs ∧ te σ2 H2 Qy)
    (hd : ∀ H (ps : List Addr) (rows : List (List Int)), SameBut m H1 H → MOk H m c (q + n * w) → H D = some (.lst (ps.map V.ref)) → ps.length = n → Rws H ps rows (wd) → (∀ r ∈ rows, ∀ x ∈ r, SmZ z x) → Qd H) :
    ∃ W : Nat → Nat → Hp → Prop, (∃ m, W 0 m (upd H1 D (.lst []))) ∧ ∀ i m H, W i m H →
      ((Itr 0 n).stop i H ∧ Qd H) ∨ ((Itr 0 n).go i H ∧ ∃ Nx : Hp → Prop, (∀ H', Nx H' → ∃ m', m' < m ∧ W (i + 1) m' H') ∧ ∀ x H', (Itr 0 n).yld i H x H' → g x (wipe σ vs) H' fun σ2 H2 => wipe σ2 vs = wipe σ vs ∧ tYes σ2 H2 fun b H3 =>
        if b = true then te σ2 H3 fun y H4 => ∃ acc, H4 D = some (.lst acc) ∧ acc.length < sizeLine ∧ Nx (upd H4 D (.lst (acc ++ [y]))) else Nx H3) := by
  obtain ⟨kvs, hm⟩ := hM.m_some
  obtain ⟨ys, hc⟩ := hM.c_some
  have dm : D ≠ m := Ne.symm (ne_of_none hm nD)
  have dc : D ≠ c := Ne.symm (ne_of_none hc nD)
  refine lc_it (walk_range (lo := 0) (n := n)) (tt := tYes) (fun i H => ∃ (ps : List Addr) (rows : List (List Int)), SameBut m H1 H ∧ MOk H m c (q + i * w) ∧ H D = some (.lst (ps.map V.ref)) ∧ ps.length = i ∧ Rws H ps rows (wd) ∧ ∀ r ∈ rows, ∀ x ∈ r, SmZ z x)
    ⟨[], [], SameBut.of (same_new nD), (hM.put dm dc).mono (by omega), upd_same, rfl, ⟨rfl, fun i p r h => by cases h⟩, fun x hx => by cases hx⟩ (fun _ _ _ _ => True.intro) ?_ ?_
  · rintro i x H H' hi ⟨ps, rows, sb, M, d, l, hR, bd⟩ ⟨rfl, rfl⟩
    refine hs i H' (fun y H4 => ∃ acc, H4 D = some (.lst acc) ∧ acc.length < sizeLine ∧ ∃ (ps : List Addr) (rows : List (List Int)), SameBut m H1 (upd H4 D (.lst (acc ++ [y]))) ∧ MOk (upd H4 D (.lst (acc ++ [y]))) m c (q + (i + 1) * w) ∧ upd H4 D (.lst (acc ++ [y])) D = some (.lst (ps.map V.ref)) ∧ ps.length = i + 1 ∧ Rws (upd H4 D (.lst (acc ++ [y]))) ps rows (wd) ∧ ∀ r ∈ rows, ∀ x ∈ r, SmZ z x) hi M fun H4 p xs b4 M4 hp zx lx => ?_
    have d4 := b4 _ _ dm d
    obtain ⟨kv, hmH⟩ := M.m_some
    have off : ∀ {a : Addr} {zs : List Int}, Row H4 a zs → Row (upd H4 D (.lst (ps.map V.ref ++ [.ref p]))) a zs := fun {a zs} h => ⟨by
      show upd H4 D _ a = _
      rw [upd_ne (ne_of h.1 d4 (by intro z; cases z))]
      exact h.1, h.2⟩
    refine ⟨ps.map V.ref, d4, by rw [List.length_map]; omega, ps ++ [p], rows ++ [xs], sb_put nD (sb.trans b4), M4.put dm dc, ?_, by rw [List.length_append, l]; rfl, ⟨by rw [List.length_append, List.length_append, hR.1]; rfl, ?_⟩, ?_⟩
    · rw [upd_same, List.map_append]
      rfl
    · intro j a zs h1 h2
      by_cases hj : j < ps.length
      · rw [List.getElem?_append_left hj] at h1
        rw [List.getElem?_append_left (by rw [← hR.1]; exact hj)] at h2
        obtain ⟨q1, q2⟩ := hR.2 j a zs h1 h2
        exact ⟨off (q1.but hmH b4), q2⟩
      · rw [List.getElem?_append_right (by omega)] at h1
        rw [List.getElem?_append_right (by rw [← hR.1]; omega)] at h2
        have j0 : j - ps.length = 0 := by
          have := (List.getElem?_eq_some_iff.mp h1).1
          simp only [List.length_cons, List.length_nil] at this
          omega
        rw [j0] at h1
        rw [← hR.1, j0] at h2
        obtain rfl : p = a := Option.some.inj h1
        obtain rfl : xs = zs := Option.some.inj h2
        exact ⟨off hp, lx⟩
    · intro r hr x hx
      rcases List.mem_append.mp hr with hr | hr
      · exact bd r hr x hx
      · rw [List.mem_singleton] at hr
        subst hr
        exact zx x hx
  · rintro H ⟨ps, rows, sb, M, d, l, hR, bd⟩
    exact hd H ps rows sb M d l hR bd
/-- lam with the first k entries made -/
theorem cut_last (xs : List V) : cutV xs none (some (-1)) = xs.dropLast := by
  unfold cutV
  rw [HT.sIx_none, List.drop_zero, Nat.sub_zero]
  cases xs with
  | nil => rfl
  | cons x r =>
    have e : HT.sIx (x :: r).length (x :: r).length (some (-1)) = r.length := by
      show (if (-1 : Int) < 0 then ((-1 : Int) + ((x :: r).length : Int)).toNat else min (-1 : Int).toNat (x :: r).length) = _
      rw [if_pos (by decide), List.length_cons]
      omega
    rw [e, List.dropLast_eq_take, List.length_cons, Nat.add_sub_cancel]
theorem rws_take {H : Hp} {ps : List Addr} {B : List (List Int)} {n : Nat} (h : Rws H ps B n) (k : Nat) : Rws H (ps.take k) (B.take k) n := by
  refine ⟨by rw [List.length_take, List.length_take, h.1], fun i p r e1 e2 => ?_⟩
  by_cases l : i < k
  · rw [List.getElem?_take_of_lt l] at e1 e2
    exact h.2 i p r e1 e2
  · rw [List.getElem?_eq_none (by rw [List.length_take]; omega)] at e1
    cases e1
theorem rws_cat {H : Hp} {ps qs : List Addr} {B C : List (List Int)} {n : Nat} (h : Rws H ps B n) (g : Rws H qs C n) : Rws H (ps ++ qs) (B ++ C) n := by
  refine ⟨by rw [List.length_append, List.length_append, h.1, g.1], fun i p r e1 e2 => ?_⟩
  by_cases l : i < ps.length
  · rw [List.getElem?_append_left l] at e1
    rw [List.getElem?_append_left (by rw [← h.1]; exact l)] at e2
    exact h.2 i p r e1 e2
  · rw [List.getElem?_append_right (by omega)] at e1
    rw [List.getElem?_append_right (by rw [← h.1]; omega), ← h.1] at e2
    exact g.2 _ p r e1 e2
def spRays : Sp := fun vs H Q _ => ∃ (m c : Addr) (q n : Nat), vs = [.ref m, .int n] ∧ MOk H m c q ∧ q ≤ 3000 ∧ 1 ≤ n ∧ n ≤ 6 ∧ ∀ H' r B, SameBut m H H' → MOk H' m c (q + 150) → TabR H' r B n → B.length = n → (∀ r ∈ B, ∀ x ∈ r, SmZ 40 x) → Q (.ref r) H'
section
variable {P : Program} {w : World} {K : PySem.W.Frag} {mg : Str → Option Value} {base : Heap}
theorem ok_rays {f : Addr} {fd : FuncData} (F : Fun K "_law_rays" "_law_rays" s_rays f fd) (C__law_draw : Cal P w K mg base 1 "_law_draw" ["m", "bound"] spDraw) (C__law_signed : Cal P w K mg base 2 "_law_signed" ["m", "most"] spSignedB) (C__law_unit_rays : Cal P w K mg base 3 "_law_unit_rays" ["m", "size_so"] spUnit) (m_tuple : mg "tuple" = none) (m_range : mg "range" = none) : FnOk P w K mg base CX0 4 f fd ["m", "size_so"] spRays := by
  have sc := sc_rays
  refine F.ok sc (fun vs H Q E h => ?_) (fun cdv A outer s H vs Q E hr h => ?_)
  · obtain ⟨m, c, q, n, rfl, _⟩ := h
    rfl
  · obtain ⟨m, c, q, n, rfl, hM, hq, h1, h6, k⟩ := h
    refine ⟨_, (pss_cons (ps_par (i := 4) (j := 3) (by rfl) sc.nd rfl rfl (by decide) rfl rfl (pa_cons (call_ C__law_draw (hr.mono (by decide)) (by rfl) (pa_cons (pv 0) (pa_cons pe_int pa_nil))) (pa_cons (call_ C__law_unit_rays (hr.mono (by decide)) (by rfl) (pa_cons (pv 0) (pa_cons (pv 1) pa_nil))) pa_nil)) (by rfl))
    (pss_cons (ps_if (pt_cmpR op_eq (pv 4) pe_int (nomark _))
      (pss_one (ps_ret (pv 3)))
      pss_nil)
    (pss_cons (ps_if (pt_cmpR op_eq (pv 4) pe_int (nomark _))
      (pss_cons (ps_asg (pe_tup (pa_cons (call_ C__law_draw (hr.mono (by decide)) (by rfl) (pa_cons (pv 0) (pa_cons (pv 1) pa_nil))) (pa_cons (pe_op op_add pe_int (call_ C__law_draw (hr.mono (by decide)) (by rfl) (pa_cons (pv 0) (pa_cons pe_int pa_nil)))) pa_nil))) (pg_tup (n := 2) (by rfl) (pgs_cons (pg_name (i := 5) sc.nd rfl (Or.inl rfl)) (pgs_cons (pg_name (i := 6) sc.nd rfl (Or.inr rfl)) pgs_nil))))
    (pss_one (ps_ret (pe_op op_catA (pe_op op_catA (pe_slice sl_tupA (pv 3) po_none (po_some (pv 5))) (pe_tup (pa_cons (pe_callTy call_tuple_of (by rfl) m_tuple (by decide +kernel) (pa_cons (pe_lc (own := [("x", 8)]) (g := gName 8) (by rfl) sc.nd (pi_tup (pe_ix ix_tup (pv 3) (pv 5) (fun _ _ => rfl))) (blkOk_by (own := [("x", 8)]) (N := ["m", "size_so", "most", "rows", "word", "i", "times", "j", "x"]) (sc := defScope s_rays) (by decide +kernel)) (fun _ _ _ _ _ => pg_name (i := 8) sc.nd rfl (Or.inl rfl)) (fun _ _ _ _ _ => pts_nil) (fun _ _ _ _ _ => (pe_op op_mulW (pv 6) (pv 8)))) pa_nil)) pa_nil))) (pe_slice sl_tupA (pv 3) (po_some (pe_op op_add (pv 5) pe_int)) po_none)))))
      pss_nil)
    (pss_cons (ps_set (i := 2) sc.nd rfl (Or.inr rfl) (pe_ifExp (pt_cmpR op_eq (pv 4) pe_int (nomark _)) (pe_op op_pow pe_int pe_int) pe_int))
    (pss_cons (ps_set (i := 3) sc.nd rfl (Or.inl rfl) (pe_callTy call_tuple_of (by rfl) m_tuple (by decide +kernel) (pa_cons (pe_lc (own := [("i", 5)]) (g := gName 5) (by rfl) sc.nd (pi_range1 rfl m_range (pa_cons (pv 1) pa_nil)) (blkOk_by (own := [("i", 5)]) (N := ["m", "size_so", "most", "rows", "word", "i", "times", "j", "x"]) (sc := defScope s_rays) (by decide +kernel)) (fun _ _ _ _ _ => pg_name (i := 5) sc.nd rfl (Or.inl rfl)) (fun _ _ _ _ _ => pts_nil) (fun _ _ _ _ _ => (pe_callTy (call_tuple_ofK (K := K) rfl) (by rfl) m_tuple (by decide +kernel) (pa_cons (pe_lc (own := [("j", 7)]) (g := gName 7) (by rfl) sc.nd (pi_range1 rfl m_range (pa_cons (pv 1) pa_nil)) (blkOk_by (own := [("j", 7)]) (N := ["m", "size_so", "most", "rows", "word", "i", "times", "j", "x"]) (sc := { kind := .function, names := [(".0", .local), ("i", .local), ("tuple", .globalImplicit), ("range", .globalImplicit), ("m", .cell), ("most", .cell), ("size_so", .cell)], isGenerator := false, isCoroutine := false }) (by decide +kernel)) (fun _ _ _ _ _ => pg_name (i := 7) sc.nd rfl (Or.inl rfl)) (fun _ _ _ _ _ => pts_nil) (fun _ _ _ _ _ => (call_ C__law_signed (hr.mono (by decide)) (by rfl) (pa_cons (pv 0) (pa_cons (pv 2) pa_nil))))) pa_nil)))) pa_nil)))
    (pss_one (ps_ret (pe_ifExp (PW.pt (pw_and (pt_cmpR op_eq (pv 4) pe_int (nomark _)) (pw_and1 (pt_cmpR op_gt (pv 1) pe_int (nomark _))))) (pe_op op_catA (pe_slice sl_tupA (pv 3) po_none (po_some (pe_un un_neg pe_int))) (pe_slice sl_tupA (pv 3) po_none (po_some pe_int))) (pv 3))))))))), ?_⟩
    refine ⟨.ref m, rfl, m, c, q, 6, rfl, hM, by omega, by decide, by decide, fun H1 wv b1 M1 w0 w1 => ?_⟩
    refine ⟨.ref m, rfl, .int n, rfl, m, c, q + 1, n, rfl, M1, by omega, h1, h6, fun H2 r B b2 M2 T2 lB zB => ?_⟩
    refine ⟨.int wv, .ref r, rfl, ?_⟩
    dsimp only
    have b12 := b1.trans b2
    refine seq_ ?_
    refine ⟨.int wv, rfl, rfl, _, rfl, ite2 (fun _ => ⟨.ref r, rfl, k H2 r B b12 (M2.mono (by omega)) T2 lB fun x hx y hy => smz_mono (zB x hx y hy) (by decide)⟩) (fun _ => ?_)⟩
    obtain ⟨kv2, hm2⟩ := M2.m_some
    have lim : (n : Int).natAbs < 2 ^ 200 := Nat.lt_of_le_of_lt (show ((n : Nat) : Int).natAbs ≤ 6 by omega) (by decide)
    refine ⟨.int wv, rfl, rfl, _, rfl, ite2 (fun _ => ?_) (fun _ => ?_)⟩
    · -- one ray drawn out
      refine ⟨.ref m, rfl, .int n, rfl, m, c, _, n, rfl, M2, by omega, by omega, lim, fun H3 iv b3 M3 i0 i1 => ?_⟩
      obtain ⟨i, rfl⟩ : ∃ i : Nat, iv = i := ⟨iv.toNat, by omega⟩
      refine ⟨.ref m, rfl, m, c, _, 5, rfl, M3, by omega, by decide, by decide, fun H4 tv b4 M4 t0 t1 => ?_⟩
      refine ⟨2, tv, rfl, rfl, by show 2 ≤ sizeLine; decide, fun T nT => ?_⟩
      have s5 : Same H4 (upd H4 T (.tup [.int i, .int (2 + tv)])) := same_new nT
      have g5 : Tp (upd H4 T (.tup [.int i, .int (2 + tv)])) T [.int i, .int (2 + tv)] := upd_same
      generalize upd H4 T (.tup [.int i, .int (2 + tv)]) = H5 at s5 g5 ⊢
      refine ⟨T, _, rfl, g5.t, rfl, .int i, [.int (2 + tv)], rfl, .int (2 + tv), [], rfl, rfl, ?_⟩
      have b25 := (b3.trans b4).trans (SameBut.of s5)
      have b5 := b12.trans b25
      have M5 := M4.same s5
      have TB5 : TabR H5 r B n := T2.but hm2 b25
      obtain ⟨ps, ha, hR⟩ := id TB5
      have lp : ps.length = n := by rw [hR.1, lB]
      have e1 : ps[i]? = some (ps[i]'(by omega)) := List.getElem?_eq_getElem _
      have e2 : B[i]? = some (B[i]'(by omega)) := List.getElem?_eq_getElem _
      obtain ⟨Ri, li⟩ := hR.2 i _ _ e1 e2
      have zi := zB _ (List.mem_of_getElem? e2)
      generalize ps[i]'(by omega) = pi at e1 Ri
      generalize B[i]'(by omega) = bi at e2 Ri li zi
      refine ⟨.ref r, rfl, .int i, rfl, i, rfl, ?_⟩
      refine slice_tp ha fun r6 H6 s6 g6 => ?_
      rw [cut_to, ← List.map_take] at g6
      refine ⟨.ref r, rfl, .int i, rfl, r, _, i, .ref pi, rfl, rfl, (ha.same s6).t, atI_nat (get_map e1), pi, rfl, ⟨_, (Ri.same s6).1.t⟩, fun D nD => ?_⟩
      have zt : SmZ 3 (2 + tv) := Nat.lt_of_le_of_lt (show (2 + tv).natAbs ≤ 6 by omega) (by decide)
      refine lc_to (walk_tup (K := K) (a := pi) (xs := bi.map V.int)) ((bi.map fun x => (2 + tv) * x).map V.int) (by rw [List.length_map, List.length_map, List.length_map]) (by rw [List.length_map]; exact small (by omega)) nD (fun H' s => ((Ri.same s6).1.same s).t) ?_ ?_
      · rintro x xv u H8 H8' Qy hu hx s8 ⟨rfl, hxv⟩ hq
        obtain ⟨v, hv, rfl⟩ := map_get hu
        obtain ⟨y, hy, rfl⟩ := map_get hxv
        rw [List.getElem?_map, hy] at hv
        obtain rfl := Option.some.inj hv
        exact ⟨rfl, .int (2 + tv), rfl, .int y, rfl, _, _, rfl, rfl, mulB (by decide) (by decide) zt (zi y (List.mem_of_getElem? hy)) (by decide), hq _ (Same.refl _)⟩
      intro H7 s7 d7
      refine ⟨D, _, rfl, .inl ⟨SqL.of d7, fun T2 nT2 => ?_⟩⟩
      have zm : ∀ x ∈ bi.map fun x => (2 + tv) * x, SmZ 40 x := fun x hx => by
        obtain ⟨y, hy, rfl⟩ := List.mem_map.mp hx
        exact smz_mono (smz_mul zt (zi y hy)) (by decide)
      have lz : (bi.map fun x => (2 + tv) * x).length = n := by rw [List.length_map, li]
      generalize (bi.map fun x => (2 + tv) * x) = zs at d7 nT2 zm lz ⊢
      have s8 : Same H7 (upd H7 T2 (.tup (zs.map V.int))) := same_new nT2
      have g8 : Tp (upd H7 T2 (.tup (zs.map V.int))) T2 (zs.map V.int) := upd_same
      generalize upd H7 T2 (.tup (zs.map V.int)) = H8 at s8 g8 ⊢
      refine ⟨by show 1 ≤ sizeLine; decide, fun T3 nT3 => ?_⟩
      have s9 : Same H8 (upd H8 T3 (.tup [.ref T2])) := same_new nT3
      have g9 : Tp (upd H8 T3 (.tup [.ref T2])) T3 [.ref T2] := upd_same
      generalize upd H8 T3 (.tup [.ref T2]) = H9 at s9 g9 ⊢
      have s69 := (s7.trans s8).trans s9
      refine cat_tp (g6.same s69) g9 (by rw [List.length_map, List.length_take]; exact Nat.le_of_lt (small (by show _ + 1 ≤ 100; omega))) fun r10 H10 s10 g10 => ?_
      refine ⟨.ref r, rfl, .int i, rfl, i, 1, rfl, rfl, i + 1, rfl, ?_⟩
      unfold tNoPart
      have s510 := (s6.trans s69).trans s10
      refine slice_tp (ha.same s510) fun r11 H11 s11 g11 => ?_
      rw [show ((i : Int) + 1) = ((i + 1 : Nat) : Int) by omega, cut_from, ← List.map_drop] at g11
      refine cat_tp (g10.same s11) g11 (by rw [List.length_append, List.length_map, List.length_map, List.length_take, List.length_drop]; exact Nat.le_of_lt (small (by show _ + 1 + _ ≤ 100; omega))) fun T9 H12 s12 g12 => ?_
      have eset : (ps.take i).map V.ref ++ [V.ref T2] ++ (ps.drop (i + 1)).map V.ref = (ps.set i T2).map V.ref := by
        rw [List.append_assoc, List.singleton_append, ← List.map_cons, ← List.map_append, List.set_eq_take_append_cons_drop, if_pos (by omega)]
      rw [eset] at g12
      have s512 := (s510.trans s11).trans s12
      have s812 := (s9.trans s10).trans (s11.trans s12)
      refine k H12 T9 (B.set i zs) (b5.trans (SameBut.of s512)) ((M5.same s512).mono (by omega)) ⟨ps.set i T2, g12, by rw [List.length_set, List.length_set]; exact hR.1, fun y p x h1 h2 => ?_⟩ (by rw [List.length_set, lB]) fun x hx y hy => ?_
      · by_cases e : i = y
        · subst e
          rw [List.getElem?_set_self (by omega)] at h1
          rw [List.getElem?_set_self (by omega)] at h2
          obtain rfl := Option.some.inj h1
          obtain rfl := Option.some.inj h2
          exact ⟨⟨g8.same s812, by omega, fun x hx => smz_mono (zm x hx) (by decide)⟩, lz⟩
        · rw [List.getElem?_set_ne e] at h1 h2
          have q := hR.2 y p x h1 h2
          exact ⟨q.1.same s512, q.2⟩
      · rcases List.mem_or_eq_of_mem_set hx with c | rfl
        · exact smz_mono (zB x c y hy) (by decide)
        · exact zm y hy
    · -- drawn anew
      refine ⟨.int wv, rfl, rfl, _, rfl, ?_⟩
      refine tif_both (fun v => ∃ b : Int, v = .int b ∧ 0 ≤ b ∧ b ≤ 10000) (fun v hv => ?_) (fun _ hq => ⟨10, 4, rfl, rfl, ⟨by decide, by decide, by decide⟩, hq _ ⟨_, rfl, by decide, by decide⟩⟩) (fun _ hq => hq _ ⟨9, rfl, by decide, by decide⟩)
      obtain ⟨b, rfl, b0, b9⟩ := hv
      refine gname_ ?_
      dsimp only
      refine ⟨.int n, rfl, (n : Int), rfl, by omega, by omega, fun D nD => ?_⟩
      rw [Int.toNat_natCast]
      refine lc_rowsW (w := 2 * n) (z := 15) (wd := n) (q := q + 1 + 60) (small (by omega)) M2 nD ?_ ?_
      · intro i H3 Qy hi M3 hQ
        have il : i * (2 * n) ≤ 6 * 12 := Nat.mul_le_mul (by omega) (by omega)
        refine ⟨rfl, .int n, rfl, (n : Int), rfl, by omega, by omega, fun D2 nD2 => ?_⟩
        rw [Int.toNat_natCast]
        refine lc_dr (w := 2) (q := q + 1 + 60 + i * (2 * n)) (m := m) (c := c) (fun _ x => -10000 ≤ x ∧ x ≤ 10000) (small (by omega)) M3 nD2 ?_ ?_
        · intro j H4 Qy hj _ M' hQ
          exact ⟨rfl, .ref m, rfl, .int b, rfl, m, c, _, b, rfl, M', by omega, b0, by omega, fun H5 v b5 M5 v0 v1 => hQ H5 _ b5 M5 ⟨by omega, by omega⟩⟩
        intro H4 xs b4 M4 d4 l4 bd
        have bd := all_of_get bd
        have zx : ∀ x ∈ xs, SmZ 15 x := fun x hx => by
          have := bd x hx
          exact Nat.lt_of_le_of_lt (show x.natAbs ≤ 10000 by omega) (by decide)
        refine ⟨D2, _, rfl, .inl ⟨SqL.of d4, fun T nT => ?_⟩⟩
        have s5 := same_new (o := .tup (xs.map V.int)) nT
        exact hQ _ T xs (b4.trans (SameBut.of s5)) ((M4.same s5).mono (by rw [Nat.add_mul i 1 (2 * n), Nat.one_mul]; omega)) ⟨upd_same, by omega, fun x hx => smz_mono (zx x hx) (by decide)⟩ zx l4
      intro H3 ps rows b3 M3 d3 lps hR bd
      have nl : n * (2 * n) ≤ 6 * 12 := Nat.mul_le_mul (by omega) (by omega)
      refine ⟨D, _, rfl, .inl ⟨SqL.of d3, fun T nT => ?_⟩⟩
      have s4 : Same H3 (upd H3 T (.tup (ps.map V.ref))) := same_new nT
      have g4 : Tp (upd H3 T (.tup (ps.map V.ref))) T (ps.map V.ref) := upd_same
      generalize upd H3 T (.tup (ps.map V.ref)) = H4 at s4 g4 ⊢
      have b4 := (b12.trans b3).trans (SameBut.of s4)
      have M4 := M3.same s4
      have R4 := hR.same s4
      have lr : rows.length = n := by rw [← hR.1, lps]
      have plain : Q (.ref T) H4 := k H4 T rows b4 (M4.mono (by omega)) ⟨ps, g4, R4⟩ lr fun r hr x hx => smz_mono (bd r hr x hx) (by decide)
      refine gname_ ?_
      dsimp only
      refine ⟨.int wv, rfl, rfl, _, rfl, ite2 (fun _ => ?_) (fun _ => ⟨.ref T, rfl, plain⟩)⟩
      refine ⟨.int n, rfl, n, 1, rfl, rfl, _, rfl, ite2 (fun h => ?_) (fun _ => ⟨.ref T, rfl, plain⟩)⟩
      have h := of_decide_eq_true h
      refine ⟨.ref T, rfl, 1, rfl, -1, rfl, ?_⟩
      refine slice_tp g4 fun r5 H5 s5 g5 => ?_
      rw [cut_last, ← List.map_dropLast] at g5
      refine ⟨.ref T, rfl, 1, rfl, ?_⟩
      refine slice_tp (g4.same s5) fun r6 H6 s6 g6 => ?_
      rw [show (some (1 : Int)) = some ((1 : Nat) : Int) from rfl, cut_to, ← List.map_take] at g6
      refine cat_tp (g5.same s6) g6 (by rw [List.length_map, List.length_map, List.length_take, List.length_dropLast]; exact Nat.le_of_lt (small (by omega))) fun r7 H7 s7 g7 => ?_
      rw [← List.map_append] at g7
      have s47 := (s5.trans s6).trans s7
      have R7 := R4.same s47
      refine k H7 r7 (rows.dropLast ++ rows.take 1) (b4.trans (SameBut.of s47)) ((M4.same s47).mono (by omega)) ⟨ps.dropLast ++ ps.take 1, g7, ?_⟩ (by rw [List.length_append, List.length_dropLast, List.length_take]; omega) fun r hr x hx => ?_
      · rw [List.dropLast_eq_take, List.dropLast_eq_take, ← hR.1]
        exact rws_cat (rws_take R7 _) (rws_take R7 _)
      · refine smz_mono (bd r ?_ x hx) (by decide)
        rcases List.mem_append.mp hr with c | c
        · rw [List.dropLast_eq_take] at c
          exact List.mem_of_mem_take c
        · exact List.mem_of_mem_take c
end
end K16
namespace Vd
theorem S_mulr (k : Int) (f : Nat → Int) (n : Nat) : S n (fun j => f j * k) = S n f * k := by
  rw [Int.mul_comm, ← S_mul]
  exact S_congr _ fun j _ => Int.mul_comm _ _
theorem up_exp {n : Nat} (A : Mt) (v : Nat → Int) {k : Nat} (hk : k < n + 1) : det (n + 1) (up A k v) = S (n + 1) fun j => v j * cof n A k j := by
  have e := cof_row (up A k v) hk hk
  rw [if_pos rfl] at e
  rw [← e]
  exact S_congr _ fun j _ => by
    unfold cof
    rw [mn_upr, up_at]
/-- a row is the sum of the rows by its numbers, times the determinant -/
theorem cramer {n : Nat} (A : Mt) (v : Nat → Int) {j : Nat} (hj : j < n + 1) : (S (n + 1) fun k => det (n + 1) (up A k v) * A k j) = v j * det (n + 1) A := by
  have e1 : (S (n + 1) fun k => det (n + 1) (up A k v) * A k j) = S (n + 1) fun k => S (n + 1) fun l => v l * (cof n A k l * A k j) := S_congr _ fun k hk => by
    rw [up_exp A v hk, ← S_mulr]
    exact S_congr _ fun l _ => Int.mul_assoc _ _ _
  rw [e1, S_swap]
  have e2 : (S (n + 1) fun l => S (n + 1) fun k => v l * (cof n A k l * A k j)) = S (n + 1) fun l => v l * if l = j then det (n + 1) A else 0 := S_congr _ fun l hl => by
    rw [S_mul, cof_col A hl hj]
  rw [e2, S_one (i := j) _ hj fun l _ ne => by rw [if_neg ne, Int.mul_zero], if_pos rfl]
theorem near_div {n : Nat} (A : Mt) (v r : Nat → Int) (D : Int) (h : ∀ j, j < n + 1 → D * v j = S (n + 1) fun l => r l * A l j) {k : Nat} (hk : k < n + 1) : D * det (n + 1) (up A k v) = r k * det (n + 1) A := by
  rw [up_exp A v hk, ← S_mul]
  have e1 : (S (n + 1) fun j => D * (v j * cof n A k j)) = S (n + 1) fun j => S (n + 1) fun l => r l * (A l j * cof n A k j) := S_congr _ fun j hj => by
    rw [← Int.mul_assoc, h j hj, ← S_mulr]
    exact S_congr _ fun l _ => Int.mul_assoc _ _ _
  rw [e1, S_swap]
  have e2 : (S (n + 1) fun l => S (n + 1) fun j => r l * (A l j * cof n A k j)) = S (n + 1) fun l => r l * if l = k then det (n + 1) A else 0 := S_congr _ fun l hl => by
    rw [S_mul, cof_row A hl hk]
  rw [e2, S_one (i := k) _ hk fun l _ ne => by rw [if_neg ne, Int.mul_zero], if_pos rfl]
theorem unit_det {n : Nat} (T A : Mt) (h : ∀ i j, i < n → j < n → (S n fun k => T i k * A k j) = one i j) : (det n A).natAbs = 1 := by
  have e : det n T * det n A = 1 := by
    rw [← det_mul, ← det_one n]
    exact det_congr n fun i j hi hj => h i j hi hj
  have := Int.natAbs_mul (det n T) (det n A)
  rw [e] at this
  exact Nat.eq_one_of_mul_eq_one_left this.symm
end Vd
namespace K16
open PySem PySem.Spec PyProof.Rows L2 Vk Vd
theorem colsI_at {B : List (List Int)} {n j : Nat} (h : j < n) : (colsI B n)[j]? = some (B.map fun r => r.getD j 0) := by
  unfold colsI
  rw [List.getElem?_map, List.getElem?_range h]
  rfl
theorem dot_comm (xs ys : List Int) : dot xs ys = dot ys xs := by
  unfold dot
  rw [List.zipWith_comm]
  congr 1
  congr 1
  funext a b
  exact Int.mul_comm b a
theorem dot_S : ∀ (xs ys : List Int) (n : Nat), min xs.length ys.length ≤ n → dot xs ys = S n fun j => xs.getD j 0 * ys.getD j 0
  | [], ys, n, _ => by
    have e : (fun j => ([] : List Int).getD j 0 * ys.getD j 0) = fun _ => 0 := funext fun j => by
      show (0 : Int) * _ = 0
      rw [Int.zero_mul]
    rw [e, S_zero]
    rfl
  | x :: xs, [], n, _ => by
    have e : (fun j => (x :: xs).getD j 0 * ([] : List Int).getD j 0) = fun _ => 0 := funext fun j => by
      show _ * (0 : Int) = 0
      rw [Int.mul_zero]
    rw [e, S_zero]
    rfl
  | x :: xs, y :: ys, n, h => by
    obtain ⟨k, rfl⟩ : ∃ k, n = k + 1 := ⟨n - 1, by simp only [List.length_cons] at h; omega⟩
    rw [S_head]
    have e : dot (x :: xs) (y :: ys) = x * y + dot xs ys := by
      unfold dot
      rw [List.zipWith_cons_cons, List.sum_cons]
    rw [e, dot_S xs ys k (by simp only [List.length_cons] at h; omega)]
    rfl
theorem mL_set {B : List (List Int)} {ns : List Int} {k : Nat} (hk : k < B.length) : mL (B.set k ns) = up (mL B) k fun c => ns.getD c 0 := by
  funext r c
  by_cases h : r = k
  · subst h
    rw [up_at, mL_at (List.getElem?_set_self hk)]
  · rw [up_ne h]
    unfold mL
    rw [List.getD_eq_getElem?_getD (l := B.set k ns), List.getElem?_set_ne (Ne.symm h), ← List.getD_eq_getElem?_getD]
theorem repD_up {B : List (List Int)} {ns : List Int} {k : Nat} (hk : k < B.length) : repD B ns k = det B.length (up (mL B) k fun c => ns.getD c 0) := by
  unfold repD
  rw [mL_set hk]
def tI (z d : Int) : Int := if 2 * (z.fmod d) > d then z.fdiv d + 1 else z.fdiv d
theorem restI_t (z d : Int) : restI z d = z - d * tI z d := by
  unfold restI tI
  have e := Int.fmod_def z d
  split
  · rw [e, Int.mul_add, Int.mul_one]
    omega
  · exact e
theorem restI_half {z d : Int} (h : 0 < d) : 2 * ((restI z d).natAbs : Int) ≤ d := by
  have m0 := Int.fmod_nonneg_of_pos z h
  have m1 := Int.fmod_lt_of_pos z h
  unfold restI
  split <;> omega
theorem restI_one (z : Int) : restI z 1 = 0 := by
  have m0 := Int.fmod_nonneg_of_pos z (by decide : (0 : Int) < 1)
  have m1 := Int.fmod_lt_of_pos z (by decide : (0 : Int) < 1)
  unfold restI
  split <;> omega
theorem sgnZ_mul (d : Int) : sgnZ d * d = (d.natAbs : Int) := by
  unfold sgnZ
  split <;> omega
theorem ltr_at {i n j : Nat} (hj : j < n) : ((ltrI i n).drop 1).getD j 0 = one i j := by
  unfold ltrI one
  rw [List.getD_eq_getElem?_getD, List.getElem?_drop, List.getElem?_map, List.getElem?_range (by omega)]
  show (if 1 + j = i + 1 then (1 : Int) else 0) = if i = j then 1 else 0
  by_cases h : i = j
  · rw [if_pos h, if_pos (by omega)]
  · rw [if_neg h, if_neg (by omega)]
/-- the part of the unit row i at ray k -/
def prtI (B : List (List Int)) (i k : Nat) : Int := sgnZ (det B.length (mL B)) * repD B ((ltrI i B.length).drop 1) k
theorem rests_at {B : List (List Int)} {i k : Nat} (hk : k < B.length) : (restsI B i)[k]? = some (restI (prtI B i k) ((det B.length (mL B)).natAbs : Int)) := by
  unfold restsI numsI
  rw [List.getElem?_map, List.getElem?_map, List.getElem?_range hk]
  rfl
theorem restsI_len (B : List (List Int)) (i : Nat) : (restsI B i).length = B.length := by
  unfold restsI
  rw [List.length_map, numsI_len]
/-- the parts of a unit row make it up -/
theorem prt_sum {B : List (List Int)} {i j : Nat} (hj : j < B.length) : (S B.length fun k => prtI B i k * mL B k j) = ((det B.length (mL B)).natAbs : Int) * one i j := by
  obtain ⟨n, hn⟩ : ∃ n, B.length = n + 1 := ⟨B.length - 1, by omega⟩
  have e1 : (S B.length fun k => prtI B i k * mL B k j) = S B.length fun k => sgnZ (det B.length (mL B)) * (det B.length (up (mL B) k (fun c => ((ltrI i B.length).drop 1).getD c 0)) * mL B k j) := S_congr _ fun k hk => by
    unfold prtI
    rw [repD_up hk, Int.mul_assoc]
  rw [e1, S_mul, ← sgnZ_mul, Int.mul_assoc]
  congr 1
  have e2 := ltr_at (i := i) hj
  rw [hn] at hj ⊢
  rw [cramer _ _ hj, Int.mul_comm]
  rw [hn] at e2
  rw [e2]
theorem col_dot {B : List (List Int)} {xs : List Int} {j : Nat} (hj : j < B.length) (lx : xs.length = B.length) : ((colsI B B.length).map fun b => dot b xs)[j]? = some (S B.length fun k => xs.getD k 0 * mL B k j) := by
  rw [List.getElem?_map, colsI_at hj]
  show some (dot _ xs) = _
  rw [dot_comm, dot_S xs _ B.length (by omega)]
  congr 1
  refine S_congr _ fun k hk => ?_
  congr 1
  rw [List.getD_eq_getElem?_getD, List.getElem?_map]
  unfold mL
  rw [List.getD_eq_getElem?_getD (l := B), List.getElem?_eq_getElem hk]
  rfl
/-- what is told, times the size, is the sum of the rests' rays -/
theorem told_at {B : List (List Int)} {i j : Nat} (hj : j < B.length) (d0 : det B.length (mL B) ≠ 0) : ∃ v, (toldI B i)[j]? = some v ∧ ((det B.length (mL B)).natAbs : Int) * v = S B.length fun k => (restsI B i).getD k 0 * mL B k j := by
  obtain ⟨D, hD⟩ : ∃ D, D = ((det B.length (mL B)).natAbs : Int) := ⟨_, rfl⟩
  have dp : D ≠ 0 := by omega
  have e1 : (S B.length fun k => (restsI B i).getD k 0 * mL B k j) = D * (one i j - S B.length fun k => tI (prtI B i k) D * mL B k j) := by
    have e2 : (S B.length fun k => (restsI B i).getD k 0 * mL B k j) = S B.length fun k => prtI B i k * mL B k j + (-D) * (tI (prtI B i k) D * mL B k j) := S_congr _ fun k hk => by
      rw [List.getD_eq_getElem?_getD, rests_at hk, ← hD]
      show restI _ _ * _ = _
      rw [restI_t]
      grind
    rw [e2, S_add, S_mul, prt_sum hj, ← hD]
    grind
  refine ⟨one i j - S B.length fun k => tI (prtI B i k) D * mL B k j, ?_, by rw [← hD, e1]⟩
  unfold toldI
  rw [List.getElem?_map, col_dot hj (restsI_len B i), ← hD]
  show some (Int.fdiv _ D) = _
  rw [e1, Int.mul_fdiv_cancel_left _ dp]
theorem toldI_len (B : List (List Int)) (i : Nat) : (toldI B i).length = B.length := by
  unfold toldI
  rw [List.length_map, List.length_map, colsI_len]
theorem told_sum {B : List (List Int)} {i j : Nat} (hj : j < B.length) (d0 : det B.length (mL B) ≠ 0) : ((det B.length (mL B)).natAbs : Int) * (toldI B i).getD j 0 = S B.length fun k => (restsI B i).getD k 0 * mL B k j := by
  obtain ⟨v, h1, h2⟩ := told_at (i := i) hj d0
  rw [← h2, List.getD_eq_getElem?_getD, h1]
  rfl
theorem told_rep {B : List (List Int)} {i k : Nat} (hk : k < B.length) (d0 : det B.length (mL B) ≠ 0) : (repD B (toldI B i) k).natAbs = ((restsI B i).getD k 0).natAbs := by
  obtain ⟨n, hn⟩ : ∃ n, B.length = n + 1 := ⟨B.length - 1, by omega⟩
  have h := near_div (n := n) (mL B) (fun c => (toldI B i).getD c 0) (fun c => (restsI B i).getD c 0) ((det B.length (mL B)).natAbs : Int) (fun j hj => by
    have e := told_sum (i := i) (j := j) (by omega) d0
    rw [hn] at e ⊢
    exact e) (k := k) (by omega)
  rw [← hn, ← repD_up hk] at h
  have h2 := congrArg Int.natAbs h
  rw [Int.natAbs_mul, Int.natAbs_mul, Int.natAbs_natCast, Nat.mul_comm] at h2
  exact Nat.eq_of_mul_eq_mul_right (by omega) h2
theorem any_at {ns : List Int} {k : Nat} {x : Int} (h : ns[k]? = some x) (z : ns.any (· != 0) = false) : x = 0 := by
  have := List.any_eq_false.mp z x (List.mem_of_getElem? h)
  simpa using this
theorem zero_rep {B : List (List Int)} {ns : List Int} {k : Nat} (hk : k < B.length) (z : ns.any (· != 0) = false) : repD B ns k = 0 := by
  rw [repD_up hk]
  refine Alt.zero (alt_det B.length) _ hk fun c _ => ?_
  rw [up_at]
  show ns.getD c 0 = 0
  rw [List.getD_eq_getElem?_getD]
  cases e : ns[c]? with
  | none => rfl
  | some x => exact any_at e z
theorem told_near {B : List (List Int)} {i : Nat} (d0 : det B.length (mL B) ≠ 0) (nz : (restsI B i).any (· != 0) = true) : nearB B (toldI B i) = true := by
  unfold nearB
  rw [Bool.and_eq_true]
  refine ⟨?_, numsI_near.mpr fun k hk => ?_⟩
  · cases e : (toldI B i).any (· != 0) with
    | true => rfl
    | false =>
      obtain ⟨x, hx, x0⟩ := List.any_eq_true.mp nz
      obtain ⟨k, hk⟩ := List.getElem?_of_mem hx
      have kl := (List.getElem?_eq_some_iff.mp hk).1
      rw [restsI_len] at kl
      have h := told_rep (i := i) kl d0
      rw [zero_rep kl e, List.getD_eq_getElem?_getD, hk] at h
      have h : 0 = x.natAbs := h
      have : x = 0 := by omega
      subst this
      cases x0
  · rw [told_rep hk d0, List.getD_eq_getElem?_getD, rests_at hk]
    exact restI_half (by omega)
theorem told_sm {B : List (List Int)} {i : Nat} (h6 : B.length ≤ 6) (zB : ∀ r ∈ B, ∀ x ∈ r, SmZ 40 x) (d0 : det B.length (mL B) ≠ 0) : ∀ x ∈ toldI B i, SmZ 50 x := fun x hx => by
  obtain ⟨j, hj⟩ := List.getElem?_of_mem hx
  have jl := (List.getElem?_eq_some_iff.mp hj).1
  rw [toldI_len] at jl
  have e := told_sum (i := i) jl d0
  rw [List.getD_eq_getElem?_getD, hj] at e
  have e : ((det B.length (mL B)).natAbs : Int) * x = _ := e
  have h := S_abs (M := (det B.length (mL B)).natAbs * 2 ^ 40) B.length (f := fun k => (restsI B i).getD k 0 * mL B k j) fun k hk => by
    show (_ * _ : Int).natAbs ≤ _
    rw [Int.natAbs_mul, List.getD_eq_getElem?_getD, rests_at hk]
    refine Nat.mul_le_mul ?_ (mL_smk zB _ _)
    have := restI_le (z := prtI B i k) (d := ((det B.length (mL B)).natAbs : Int)) (by omega)
    rw [Int.natAbs_natCast] at this
    exact this
  rw [← e, Int.natAbs_mul, Int.natAbs_natCast] at h
  have h2 : (det B.length (mL B)).natAbs * x.natAbs ≤ (det B.length (mL B)).natAbs * (6 * 2 ^ 40) := by
    refine Nat.le_trans h ?_
    rw [Nat.mul_left_comm]
    exact Nat.mul_le_mul_left _ (Nat.mul_le_mul_right _ h6)
  have h3 := Nat.le_of_mul_le_mul_left h2 (by omega)
  exact Nat.lt_of_le_of_lt h3 (by decide)
/-- no near row: all unit rows are there, and the size is 1 -/
theorem none_one {B : List (List Int)} (d0 : det B.length (mL B) ≠ 0) (h : ∀ i, i < B.length → (restsI B i).any (· != 0) = false) : (det B.length (mL B)).natAbs = 1 := by
  obtain ⟨D, hD⟩ : ∃ D, D = ((det B.length (mL B)).natAbs : Int) := ⟨_, rfl⟩
  have dp : D ≠ 0 := by omega
  refine unit_det (fun i k => tI (prtI B i k) D) (mL B) fun i j hi hj => ?_
  have e := prt_sum (B := B) (i := i) hj
  have e1 : (S B.length fun k => prtI B i k * mL B k j) = D * S B.length fun k => tI (prtI B i k) D * mL B k j := by
    rw [← S_mul]
    refine S_congr _ fun k hk => ?_
    have r0 := any_at (rests_at hk) (h i hi)
    rw [← hD, restI_t] at r0
    have : prtI B i k = D * tI (prtI B i k) D := by omega
    rw [← Int.mul_assoc, ← this]
  rw [e1, ← hD] at e
  exact Int.eq_of_mul_eq_mul_left dp e
theorem one_none {B : List (List Int)} {i : Nat} (h1 : (det B.length (mL B)).natAbs = 1) : (restsI B i).any (· != 0) = false := by
  rw [List.any_eq_false]
  intro x hx
  unfold restsI at hx
  rw [h1] at hx
  obtain ⟨z, _, rfl⟩ := List.mem_map.mp hx
  have : restI z ((1 : Nat) : Int) = 0 := restI_one z
  rw [this]
  decide
end K16
namespace K16
open PySem PySem.Spec PyProof.Rows L2 Vk Vd
abbrev s_values : Stmt := topS 34
theorem sc_values : FnScope ["m", "rays", "told", "near", "spot", "some", "value_so", "x", "j"] ["m", "rays", "told"] (defScope s_values) := ⟨rfl, rfl, rfl, by decide +kernel, rfl, by decide +kernel, by decide +kernel⟩
theorem lc_drW {J : It} {n w : Nat} {G : Hp → Prop} {Y : Nat → Hp → V → Hp → Prop} (wk : Walk J n G Y) {g : TG} {te : TE} {vs : List Nat} {σ : L2.St} {H1 : Hp} {D : Addr} {Qd : Hp → Prop} {m c : Addr} {q : Nat} (R : Nat → Int → Prop) (hz : n < sizeLine) (hM : MOk H1 m c q) (nD : H1 D = none)
    (hG : ∀ H, SameBut m H1 H → G H)
    (hs : ∀ (i : Nat) (x : V) (H H' : Hp) (Qy : VK), i < n → SameBut m H1 H → MOk H m c (q + w * i) → Y i H x H' → (∀ H4 v, SameBut m H H4 → MOk H4 m c (q + w * i + w) → R i v → Qy (.int v) H4) → g x (wipe σ vs) H' fun σ2 H2 => wipe σ2 vs = wipe σ vs ∧ te σ2 H2 Qy)
    (hd : ∀ H (xs : List Int), SameBut m H1 H → MOk H m c (q + w * n) → H D = some (.lst (xs.map V.int)) → xs.length = n → (∀ (i : Nat) (x : Int), xs[i]? = some x → R i x) → Qd H) :
    ∃ W : Nat → Nat → Hp → Prop, (∃ m, W 0 m (upd H1 D (.lst []))) ∧ ∀ i m H, W i m H →
      (J.stop i H ∧ Qd H) ∨ (J.go i H ∧ ∃ Nx : Hp → Prop, (∀ H', Nx H' → ∃ m', m' < m ∧ W (i + 1) m' H') ∧ ∀ x H', J.yld i H x H' → g x (wipe σ vs) H' fun σ2 H2 => wipe σ2 vs = wipe σ vs ∧ tYes σ2 H2 fun b H3 =>
        if b = true then te σ2 H3 fun y H4 => ∃ acc, H4 D = some (.lst acc) ∧ acc.length < sizeLine ∧ Nx (upd H4 D (.lst (acc ++ [y]))) else Nx H3) := by
  obtain ⟨kvs, hm⟩ := hM.m_some
  obtain ⟨ys, hc⟩ := hM.c_some
  have dm : D ≠ m := Ne.symm (ne_of_none hm nD)
  have dc : D ≠ c := Ne.symm (ne_of_none hc nD)
  refine lc_it wk (tt := tYes) (fun i H => ∃ xs : List Int, SameBut m H1 H ∧ MOk H m c (q + w * i) ∧ H D = some (.lst (xs.map V.int)) ∧ xs.length = i ∧ ∀ (j : Nat) (x : Int), xs[j]? = some x → R j x) ⟨[], SameBut.of (same_new nD), hM.put dm dc, upd_same, rfl, fun j x hx => by cases hx⟩ (fun i H _ p => by obtain ⟨_, s, _⟩ := p; exact hG H s) ?_ ?_
  · rintro i x H H' hi ⟨xs, sb, M, d, l, bd⟩ hY
    refine hs i x H H' (fun y H4 => ∃ acc, H4 D = some (.lst acc) ∧ acc.length < sizeLine ∧ ∃ xs : List Int, SameBut m H1 (upd H4 D (.lst (acc ++ [y]))) ∧ MOk (upd H4 D (.lst (acc ++ [y]))) m c (q + w * (i + 1)) ∧ upd H4 D (.lst (acc ++ [y])) D = some (.lst (xs.map V.int)) ∧ xs.length = i + 1 ∧ ∀ (j : Nat) (x : Int), xs[j]? = some x → R j x) hi sb M hY fun H4 v b4 M4 v0 => ?_
    refine ⟨xs.map V.int, b4 _ _ dm d, by rw [List.length_map]; omega, xs ++ [v], sb_put nD (sb.trans b4), (M4.put dm dc).mono (by rw [Nat.mul_succ]; omega), ?_, by rw [List.length_append, l]; rfl, fun j x hx => ?_⟩
    · rw [upd_same, List.map_append]
      rfl
    · by_cases hj : j < xs.length
      · rw [List.getElem?_append_left hj] at hx
        exact bd j x hx
      · have hj2 := (List.getElem?_eq_some_iff.mp hx).1
        rw [List.length_append] at hj2
        have hj3 : j = xs.length := by
          simp only [List.length_cons, List.length_nil] at hj2
          omega
        subst hj3
        rw [List.getElem?_append_right (Nat.le_refl _), Nat.sub_self] at hx
        obtain rfl := Option.some.inj hx
        rw [l]
        exact v0
  · rintro H ⟨xs, sb, M, d, l, bd⟩
    exact hd H xs sb M d l bd
/-- a value that is_near_row is asked of -/
def OkV (n : Nat) (H : Hp) (v : V) : Prop := v = .non ∨ (∃ z, v = .int z) ∨ (∃ a xs, v = .ref a ∧ H a = some (.lst xs)) ∨ (∃ a xs, v = .ref a ∧ Tp H a xs ∧ xs.length ≤ 100 ∧ (∀ e ∈ xs, (∃ z, e = .int z) ∨ ∃ b, e = .bl b) ∧ tupOk n xs = false) ∨ ∃ a ns, v = .ref a ∧ Row H a ns ∧ ns.length = n
theorem OkV.but {n : Nat} {m : Addr} {H H' : Hp} {v : V} {kvs : List (Key × V)} (h : OkV n H v) (hm : H m = some (.dK kvs)) (s : SameBut m H H') : OkV n H' v := by
  rcases h with h | h | ⟨a, xs, e, h⟩ | ⟨a, xs, e, h, r⟩ | ⟨a, ns, e, h, r⟩
  · exact .inl h
  · exact .inr (.inl h)
  · exact .inr (.inr (.inl ⟨a, xs, e, s _ _ (ne_of h hm (by intro z; cases z)) h⟩))
  · exact .inr (.inr (.inr (.inl ⟨a, xs, e, h.but hm s, r⟩)))
  · exact .inr (.inr (.inr (.inr ⟨a, ns, e, h.but hm s, r⟩)))
theorem OkV.same {n : Nat} {H H' : Hp} {v : V} (h : OkV n H v) (s : Same H H') : OkV n H' v := by
  rcases h with h | h | ⟨a, xs, e, h⟩ | ⟨a, xs, e, h, r⟩ | ⟨a, ns, e, h, r⟩
  · exact .inl h
  · exact .inr (.inl h)
  · exact .inr (.inr (.inl ⟨a, xs, e, s _ _ h⟩))
  · exact .inr (.inr (.inr (.inl ⟨a, xs, e, h.same s, r⟩)))
  · exact .inr (.inr (.inr (.inr ⟨a, ns, e, h.same s, r⟩)))
theorem okv_row {n : Nat} {H : Hp} {a : Addr} {ns : List Int} (h : Tp H a (ns.map V.int)) (l : ns.length = n) (n6 : n ≤ 6) (z : ∀ x ∈ ns, SmZ 300 x) : OkV n H (.ref a) := .inr (.inr (.inr (.inr ⟨a, ns, rfl, ⟨h, by omega, z⟩, l⟩)))
theorem okv_len {n : Nat} {H : Hp} {a : Addr} {ns : List Int} (h : Tp H a (ns.map V.int)) (l : ns.length ≠ n) (h9 : ns.length ≤ 100) : OkV n H (.ref a) := .inr (.inr (.inr (.inl ⟨a, _, rfl, h, by rw [List.length_map]; exact h9, fun e he => by
  obtain ⟨z, _, rfl⟩ := List.mem_map.mp he
  exact .inl ⟨z, rfl⟩, by
    unfold tupOk
    rw [List.length_map, decide_eq_false l]
    rfl⟩)))
theorem okv_use {B : List (List Int)} {H : Hp} {v : V} (h : OkV B.length H v) : ∃ b, ∀ H1, Same H H1 → ∀ Q : VK, (∀ H', Same H1 H' → Q (.bl b) H') →
    ((∃ t, Oky H1 v t ∧ t ≠ "tuple" ∧ ∀ H', Same H1 H' → Q (.bl false) H') ∨
     (∃ c xs, v = .ref c ∧ Tp H1 c xs ∧ xs.length ≤ 100 ∧ (∀ e ∈ xs, ∃ t, Oky H1 e t) ∧ tupOk B.length xs = false ∧ ∀ H', Same H1 H' → Q (.bl false) H') ∨
     ∃ c ns, v = .ref c ∧ Row H1 c ns ∧ ns.length = B.length ∧ ∀ H', Same H1 H' → Q (.bl (nearB B ns)) H') := by
  rcases h with rfl | ⟨z, rfl⟩ | ⟨a, xs, rfl, h⟩ | ⟨a, xs, rfl, h, l, es, bad⟩ | ⟨a, ns, rfl, h, l⟩
  · exact ⟨false, fun H1 s Q q => .inl ⟨_, .non, by decide, q⟩⟩
  · exact ⟨false, fun H1 s Q q => .inl ⟨_, .int z, by decide, q⟩⟩
  · exact ⟨false, fun H1 s Q q => .inl ⟨_, .lst (s _ _ h), by decide, q⟩⟩
  · refine ⟨false, fun H1 s Q q => .inr (.inl ⟨a, xs, rfl, h.same s, l, fun e he => ?_, bad, q⟩)⟩
    rcases es e he with ⟨z, rfl⟩ | ⟨b, rfl⟩
    · exact ⟨_, .int z⟩
    · exact ⟨_, .bl b⟩
  · exact ⟨nearB B ns, fun H1 s Q q => .inr (.inr ⟨a, ns, rfl, h.same s, l, q⟩)⟩
def spValues : Sp := fun vs H Q _ => ∃ (m c : Addr) (q : Nat) (r : Addr) (B : List (List Int)) (told : V), vs = [.ref m, .ref r, told] ∧ MOk H m c q ∧ q ≤ 3500 ∧ TabR H r B B.length ∧ 1 ≤ B.length ∧ B.length ≤ 6 ∧ det B.length (mL B) ≠ 0 ∧ (∀ r ∈ B, ∀ x ∈ r, SmZ 40 x) ∧ (told = .non ∨ ∃ p ns, told = .ref p ∧ Tp H p ((ns : List Int).map V.int) ∧ ns.length = B.length ∧ ∀ x ∈ ns, SmZ 50 x) ∧ ∀ H', SameBut m H H' → MOk H' m c (q + 60) → Q (.bl true) H'
section
variable {P : Program} {w : World} {K : PySem.W.Frag} {mg : Str → Option Value} {base : Heap}
theorem okv_near {B : List (List Int)} {H : Hp} {v : V} {r : Addr} (h : OkV B.length H v) (hT : TabR H r B B.length) (h6 : B.length ≤ 6) (d0 : det B.length (mL B) ≠ 0) : ∃ b, (∀ H1, Same H H1 → ∀ (Q : VK) (E : XK), (∀ H', Same H1 H' → Q (.bl b) H') → spIsNear [.ref r, v] H1 Q E) ∧ ∀ H1, Same H H1 → ∀ (Q : VK) (E : XK), (∀ H', Same H1 H' → Q (.bl b) H') → spLisNear [.ref r, v] H1 Q E := by
  obtain ⟨b, ub⟩ := okv_use h
  exact ⟨b, fun H1 s Q E q => ⟨r, v, B, rfl, hT.same s, h6, d0, ub H1 s Q q⟩, fun H1 s Q E q => ⟨r, v, B, rfl, hT.same s, h6, ub H1 s Q q⟩⟩
theorem ok_values {f : Addr} {fd : FuncData} (F : Fun K "_law_values_right" "_law_values_right" s_values f fd) (C__law_draw : Cal P w K mg base 1 "_law_draw" ["m", "bound"] spDraw) (C__law_signed : Cal P w K mg base 2 "_law_signed" ["m", "most"] spSignedB) (C__law_like : CalG P w K mg base 1 "_law_like" ["got", "due"] (spLike K)) (C_is_near_row : Cal P w K mg base 5 "is_near_row" ["rays", "value"] spIsNear) (C__law_is_near : Cal P w K mg base 9 "_law_is_near" ["rays", "value_so"] spLisNear) (m_tuple : mg "tuple" = none) (m_list : mg "list" = none) (m_len : mg "len" = none) (m_range : mg "range" = none) : FnG P w K mg base 10 f fd ["m", "rays", "told"] spValues := by
  have sc := sc_values
  refine okG F sc (fun vs H Q E h => ?_) (fun cdv A outer s H vs Q E hG hr h => ?_)
  · obtain ⟨m, c, q, r, B, told, rfl, _⟩ := h
    rfl
  · obtain ⟨m, c, q, r, B, told, rfl, hM, hq, hT, h1, h6, d0, zB, ht, k⟩ := h
    refine ⟨_, (pss_cons (ps_set (i := 3) sc.nd rfl (Or.inr rfl) (pe_ifExp (pt_cmpR op_notN (pv 2) pe_non (nomark _)) (pv 2) (pe_callTy call_tuple_of (by rfl) m_tuple (by decide +kernel) (pa_cons (pe_lc (own := [("x", 7)]) (g := gName 7) (by rfl) sc.nd (pi_tup (pv 1)) (blkOk_by (own := [("x", 7)]) (N := ["m", "rays", "told", "near", "spot", "some", "value_so", "x", "j"]) (sc := defScope s_values) (by decide +kernel)) (fun _ _ _ _ _ => pg_name (i := 7) sc.nd rfl (Or.inl rfl)) (fun _ _ _ _ _ => pts_nil) (fun _ _ _ _ _ => (call_ C__law_signed (hr.mono (by decide)) (by rfl) (pa_cons (pv 0) (pa_cons pe_int pa_nil))))) pa_nil))))
    (pss_cons (ps_set (i := 4) sc.nd rfl (Or.inr rfl) (call_ C__law_draw (hr.mono (by decide)) (by rfl) (pa_cons (pv 0) (pa_cons (pe_callB call_len_seq (by rfl) m_len (by decide +kernel) (pa_cons (pv 1) pa_nil)) pa_nil))))
    (pss_cons (ps_set (i := 5) sc.nd rfl (Or.inl rfl) (pe_lst (pa_cons (pv 3) (pa_cons (pe_callTy call_tuple_of (by rfl) m_tuple (by decide +kernel) (pa_cons (pe_lc (own := [("x", 7)]) (g := gName 7) (by rfl) sc.nd (pi_tup (pv 3)) (blkOk_by (own := [("x", 7)]) (N := ["m", "rays", "told", "near", "spot", "some", "value_so", "x", "j"]) (sc := defScope s_values) (by decide +kernel)) (fun _ _ _ _ _ => pg_name (i := 7) sc.nd rfl (Or.inl rfl)) (fun _ _ _ _ _ => pts_nil) (fun _ _ _ _ _ => (pe_un un_neg (pv 7)))) pa_nil)) (pa_cons (pe_callTy call_tuple_of (by rfl) m_tuple (by decide +kernel) (pa_cons (pe_lc (own := [("x", 7)]) (g := gName 7) (by rfl) sc.nd (pi_tup (pv 3)) (blkOk_by (own := [("x", 7)]) (N := ["m", "rays", "told", "near", "spot", "some", "value_so", "x", "j"]) (sc := defScope s_values) (by decide +kernel)) (fun _ _ _ _ _ => pg_name (i := 7) sc.nd rfl (Or.inl rfl)) (fun _ _ _ _ _ => pts_nil) (fun _ _ _ _ _ => (pe_op op_mulW pe_int (pv 7)))) pa_nil)) (pa_cons (pe_op (op_tmsK (K := K) rfl) (pe_tup (pa_cons pe_int pa_nil)) (pe_callB call_len_seq (by rfl) m_len (by decide +kernel) (pa_cons (pv 1) pa_nil))) (pa_cons (pe_callTy call_list_of (by rfl) m_list (by decide +kernel) (pa_cons (pv 3) pa_nil)) (pa_cons pe_non pa_nil))))))))
    (pss_cons (ps_set (i := 5) sc.nd rfl (Or.inl rfl) (pe_op op_cat (pv 5) (pe_lst (pa_cons (pe_slice sl_tupA (pv 3) (po_some pe_int) po_none) (pa_cons (pe_op op_catA (pv 3) (pe_tup (pa_cons pe_int pa_nil))) (pa_cons (pe_ix ix_tup (pv 1) (pv 4) (fun _ _ => rfl)) (pa_cons (pe_callTy call_tuple_of (by rfl) m_tuple (by decide +kernel) (pa_cons (pe_lc (own := [("j", 8)]) (g := gName 8) (by rfl) sc.nd (pi_range1 rfl m_range (pa_cons (pe_callB call_len_seq (by rfl) m_len (by decide +kernel) (pa_cons (pv 1) pa_nil)) pa_nil)) (blkOk_by (own := [("j", 8)]) (N := ["m", "rays", "told", "near", "spot", "some", "value_so", "x", "j"]) (sc := defScope s_values) (by decide +kernel)) (fun _ _ _ _ _ => pg_name (i := 8) sc.nd rfl (Or.inl rfl)) (fun _ _ _ _ _ => pts_nil) (fun _ _ _ _ _ => (pe_op op_add (pe_ix (ix_tupK (K := K) rfl) (pv 3) (pv 8) (fun _ _ => rfl)) (pe_ix (ix_tupK (K := K) rfl) (pe_ix (ix_tupK (K := K) rfl) (pv 1) (pv 4) (fun _ _ => rfl)) (pv 8) (fun _ _ => rfl))))) pa_nil)) pa_nil)))))))
    (pss_cons (ps_expr (pe_bm PySem.F.plainAttrs_list PySem.F.slot_list_append PySem.F.type_list_append mt_append (pv 5) (pa_cons (pe_op op_catA (pe_op op_catA (pe_slice sl_tupA (pv 3) po_none (po_some (pv 4))) (pe_tup (pa_cons (pe_op op_add (pe_ix ix_tup (pv 3) (pv 4) (fun _ _ => rfl)) pe_int) pa_nil))) (pe_slice sl_tupA (pv 3) (po_some (pe_op op_add (pv 4) pe_int)) po_none)) pa_nil)))
    (pss_cons (ps_set (i := 5) sc.nd rfl (Or.inl rfl) (pe_op op_cat (pv 5) (pe_lst (pa_cons (pe_op op_catA (pe_op op_catA (pe_slice sl_tupA (pv 3) po_none (po_some (pv 4))) (pe_tup (pa_cons pe_bl pa_nil))) (pe_slice sl_tupA (pv 3) (po_some (pe_op op_add (pv 4) pe_int)) po_none)) (pa_cons pe_int (pa_cons (pe_tup pa_nil) pa_nil))))))
    (pss_cons (ps_expr (pe_bm PySem.F.plainAttrs_list PySem.F.slot_list_append PySem.F.type_list_append mt_append (pv 5) (pa_cons (pe_callTy call_tuple_of (by rfl) m_tuple (by decide +kernel) (pa_cons (pe_lc (own := [("x", 7)]) (g := gName 7) (by rfl) sc.nd (pi_tup (pv 1)) (blkOk_by (own := [("x", 7)]) (N := ["m", "rays", "told", "near", "spot", "some", "value_so", "x", "j"]) (sc := defScope s_values) (by decide +kernel)) (fun _ _ _ _ _ => pg_name (i := 7) sc.nd rfl (Or.inl rfl)) (fun _ _ _ _ _ => pts_nil) (fun _ _ _ _ _ => (call_ C__law_signed (hr.mono (by decide)) (by rfl) (pa_cons (pv 0) (pa_cons pe_int pa_nil))))) pa_nil)) pa_nil)))
    (pss_cons (ps_for PassesOwn.never rfl (pi_list (pv 5)) (pg_name (i := 6) sc.nd rfl (Or.inl rfl))
      (pss_one (ps_if (pt_not (pt_val (callG hG C__law_like (hr.mono (by decide)) (by rfl) (pa_cons (call_ C_is_near_row (hr.mono (by decide)) (by rfl) (pa_cons (pv 1) (pa_cons (pv 6) pa_nil))) (pa_cons (call_ C__law_is_near (hr.mono (by decide)) (by rfl) (pa_cons (pv 1) (pa_cons (pv 6) pa_nil))) pa_nil)))))
      (pss_one (ps_ret pe_bl))
      pss_nil)))
    (pss_one (ps_ret pe_bl)))))))))), ?_⟩
    obtain ⟨n, hn⟩ : ∃ n, n = B.length := ⟨_, rfl⟩
    obtain ⟨ps, ha, hR⟩ := id hT
    have lp : ps.length = B.length := hR.1
    obtain ⟨kv, hm⟩ := hM.m_some
    refine ⟨told, rfl, rfl, _, rfl, ?_⟩
    refine tif_bothH (fun v H' => ∃ p ns, v = .ref p ∧ SameBut m H H' ∧ MOk H' m c (q + 20) ∧ Tp H' p ((ns : List Int).map V.int) ∧ ns.length = B.length ∧ ∀ x ∈ ns, SmZ 60 x) (fun v H2 hv => ?_) (fun cw hq => ?_) (fun cw hq => ?_)
    rotate_left
    · -- told
      rcases ht with rfl | ⟨p, ns, rfl, hp, ln, zn⟩
      · cases cw
      · exact ⟨.ref p, rfl, hq _ _ ⟨p, ns, rfl, SameBut.refl _ _, hM.mono (by omega), hp, ln, fun x hx => smz_mono (zn x hx) (by decide)⟩⟩
    · -- drawn
      refine ⟨.ref r, rfl, r, rfl, ⟨_, ha.t⟩, fun D nD => ?_⟩
      refine lc_drW (walk_tup (K := K) (a := r) (xs := ps.map V.ref)) (w := 2) (q := q) (m := m) (c := c) (fun _ x => -3 ≤ x ∧ x ≤ 3) (by rw [List.length_map, lp]; exact small (by omega)) hM nD (fun H' s => (ha.but hm s).t) ?_ ?_
      · rintro i x H3 H3' Qy hi sb M' ⟨rfl, hx⟩ hQ
        rw [List.length_map, lp] at hi
        exact ⟨rfl, .ref m, rfl, m, c, _, 3, rfl, M', by omega, by decide, by decide, fun H5 v b5 M5 v0 v1 => hQ H5 _ b5 M5 ⟨by omega, by omega⟩⟩
      intro H3 xs b3 M3 d3 l3 bd
      have bd := all_of_get bd
      rw [List.length_map, lp] at l3 M3
      refine ⟨D, _, rfl, .inl ⟨SqL.of d3, fun T nT => ?_⟩⟩
      have s5 := same_new (o := .tup (xs.map V.int)) nT
      refine hq _ _ ⟨T, xs, rfl, b3.trans (SameBut.of s5), (M3.same s5).mono (by omega), upd_same, l3, fun x hx => ?_⟩
      have := bd x hx
      exact Nat.lt_of_le_of_lt (show x.natAbs ≤ 3 by omega) (by decide)
    obtain ⟨p, ns, rfl, b2, M2, hp, ln, zn⟩ := hv
    refine gname_ ?_
    try dsimp only
    refine seq_ ?_
    obtain ⟨kv2, hm2⟩ := M2.m_some
    have ha2 := ha.but hm b2
    have lim : (B.length : Int).natAbs < 2 ^ 200 := Nat.lt_of_le_of_lt (show ((B.length : Nat) : Int).natAbs ≤ 6 by omega) (by decide)
    refine ⟨.ref m, rfl, .ref r, rfl, r, _, rfl, .inr ha2.t, m, c, q + 20, (B.length : Int), by rw [List.length_map, lp], M2, by omega, by omega, lim, fun H3 sv b3 M3 v0 v1 => ?_⟩
    obtain ⟨sp, rfl⟩ : ∃ sp : Nat, sv = sp := ⟨sv.toNat, by omega⟩
    have hsp : sp < B.length := by omega
    have b03 := b2.trans b3
    have T3 := hT.but hm b03
    have ha3 := ha2.but hm2 b3
    have hR3 : Rws H3 ps B B.length := hR.but hm b03
    have hp3 := hp.but hm2 b3
    clear ha2 hp M2
    have e1 : ps[sp]? = some (ps[sp]'(by omega)) := List.getElem?_eq_getElem _
    have e2 : B[sp]? = some (B[sp]'(by omega)) := List.getElem?_eq_getElem _
    obtain ⟨RS, lS⟩ := hR3.2 sp _ _ e1 e2
    have zS := zB _ (List.mem_of_getElem? e2)
    generalize ps[sp]'(by omega) = pS at e1 RS
    generalize B[sp]'(by omega) = bs at e2 RS lS zS
    have z300 : ∀ {k : Nat} {xs : List Int}, k ≤ 300 → (∀ x ∈ xs, SmZ k x) → ∀ x ∈ xs, SmZ 300 x := fun l h x hx => smz_mono (h x hx) l
    have an : OkV B.length H3 (.ref p) := okv_row hp3 ln h6 (z300 (by decide) zn)
    refine gname_ ?_
    try dsimp only
    refine seq_ ?_
    refine ⟨.ref p, rfl, .ref p, rfl, p, rfl, ⟨_, hp3.t⟩, fun D nD => ?_⟩
    refine lc_to (walk_tup (K := K) (a := p) (xs := ns.map V.int)) ((ns.map fun x => -x).map V.int) (by rw [List.length_map, List.length_map, List.length_map]) (by rw [List.length_map]; exact small (by omega)) nD (fun H' s => (hp3.same s).t) ?_ ?_
    · rintro x xv u H8 H8' Qy hu hx s8 ⟨rfl, hxv⟩ hq
      obtain ⟨v, hv, rfl⟩ := map_get hu
      obtain ⟨y, hy, rfl⟩ := map_get hxv
      rw [List.getElem?_map, hy] at hv
      obtain rfl := Option.some.inj hv
      exact ⟨rfl, .int y, rfl, y, rfl, hq _ (Same.refl _)⟩
    intro H4 s4 d4
    refine ⟨D, _, rfl, .inl ⟨SqL.of d4, fun N1 nN1 => ?_⟩⟩
    have zn1 : ∀ x ∈ ns.map fun x => -x, SmZ 60 x := fun x hx => by
      obtain ⟨y, hy, rfl⟩ := List.mem_map.mp hx
      show (-y).natAbs < _
      rw [Int.natAbs_neg]
      exact zn y hy
    have s5 : Same H4 (upd H4 N1 (.tup ((ns.map fun x => -x).map V.int))) := same_new nN1
    have a1 : OkV B.length (upd H4 N1 (.tup ((ns.map fun x => -x).map V.int))) (.ref N1) := okv_row upd_same (by rw [List.length_map, ln]) h6 (z300 (by decide) zn1)
    generalize upd H4 N1 (.tup ((ns.map fun x => -x).map V.int)) = H5 at s5 a1 ⊢
    have s35 := s4.trans s5
    have hp5 := hp3.same s35
    refine ⟨.ref p, rfl, p, rfl, ⟨_, hp5.t⟩, fun D2 nD2 => ?_⟩
    refine lc_to (walk_tup (K := K) (a := p) (xs := ns.map V.int)) ((ns.map fun x => 2 * x).map V.int) (by rw [List.length_map, List.length_map, List.length_map]) (by rw [List.length_map]; exact small (by omega)) nD2 (fun H' s => (hp5.same s).t) ?_ ?_
    · rintro x xv u H8 H8' Qy hu hx s8 ⟨rfl, hxv⟩ hq
      obtain ⟨v, hv, rfl⟩ := map_get hu
      obtain ⟨y, hy, rfl⟩ := map_get hxv
      rw [List.getElem?_map, hy] at hv
      obtain rfl := Option.some.inj hv
      exact ⟨rfl, .int y, rfl, 2, y, rfl, rfl, mulB (k := 2) (by decide) (by decide) (by show (2 : Int).natAbs < 4; decide) (zn y (List.mem_of_getElem? hy)) (by decide), hq _ (Same.refl _)⟩
    intro H6 s6 d6
    refine ⟨D2, _, rfl, .inl ⟨SqL.of d6, fun N2 nN2 => ?_⟩⟩
    have zn2 : ∀ x ∈ ns.map fun x => 2 * x, SmZ 62 x := fun x hx => by
      obtain ⟨y, hy, rfl⟩ := List.mem_map.mp hx
      exact smz_mul (n := 2) (by show (2 : Int).natAbs < 4; decide) (zn y hy)
    have s7 : Same H6 (upd H6 N2 (.tup ((ns.map fun x => 2 * x).map V.int))) := same_new nN2
    have a2 : OkV B.length (upd H6 N2 (.tup ((ns.map fun x => 2 * x).map V.int))) (.ref N2) := okv_row upd_same (by rw [List.length_map, ln]) h6 (z300 (by decide) zn2)
    generalize upd H6 N2 (.tup ((ns.map fun x => 2 * x).map V.int)) = H7 at s7 a2 ⊢
    have s57 := s6.trans s7
    have s37 := s35.trans s57
    refine ⟨by show 1 ≤ sizeLine; decide, fun O1 nO1 => ?_⟩
    have s8 : Same H7 (upd H7 O1 (.tup [.int 0])) := same_new nO1
    have g8 : Tp (upd H7 O1 (.tup [.int 0])) O1 [.int 0] := upd_same
    generalize upd H7 O1 (.tup [.int 0]) = H8 at s8 g8 ⊢
    have s38 := s37.trans s8
    refine ⟨.ref r, rfl, r, _, rfl, .inr (ha3.same s38).t, ?_⟩
    refine tms_tp (k := B.length) (by rw [List.length_map, lp]) g8 (by simp) (by omega) (by decide) fun N3 H9 s9 g9 => ?_
    rw [flat1, show List.replicate B.length (V.int 0) = (List.replicate B.length (0 : Int)).map V.int by rw [List.map_replicate]] at g9
    have a3 : OkV B.length H9 (.ref N3) := okv_row g9 (List.length_replicate ..) h6 fun x hx => by
      obtain rfl := (List.mem_replicate.mp hx).2
      exact Nat.two_pow_pos _
    have s79 := s8.trans s9
    have s39 := s37.trans s79
    refine ⟨.ref p, rfl, p, _, rfl, .inr (hp3.same s39).t, fun N4 nN4 => ?_⟩
    have s10 : Same H9 (upd H9 N4 (.lst (ns.map V.int))) := same_new nN4
    have a4 : OkV B.length (upd H9 N4 (.lst (ns.map V.int))) (.ref N4) := .inr (.inr (.inl ⟨N4, _, rfl, upd_same⟩))
    generalize upd H9 N4 (.lst (ns.map V.int)) = H10 at s10 a4 ⊢
    refine ⟨by show 6 ≤ sizeLine; decide, fun L1 nL1 => ?_⟩
    have s11 : Same H10 (upd H10 L1 (.lst [.ref p, .ref N1, .ref N2, .ref N3, .ref N4, .non])) := same_new nL1
    have gL1 : upd H10 L1 (.lst [.ref p, .ref N1, .ref N2, .ref N3, .ref N4, .non]) L1 = some (.lst [.ref p, .ref N1, .ref N2, .ref N3, .ref N4, .non]) := upd_same
    generalize upd H10 L1 (.lst [.ref p, .ref N1, .ref N2, .ref N3, .ref N4, .non]) = H11 at s11 gL1 ⊢
    have s311 := (s39.trans s10).trans s11
    have A1 : ∀ v ∈ [V.ref p, .ref N1, .ref N2, .ref N3, .ref N4, .non], OkV B.length H11 v := fun v hv => by
      simp only [List.mem_cons, List.not_mem_nil, or_false] at hv
      rcases hv with rfl | rfl | rfl | rfl | rfl | rfl
      · exact an.same s311
      · exact (((a1.same s57).same s79).same s10).same s11
      · exact ((a2.same s79).same s10).same s11
      · exact (a3.same s10).same s11
      · exact a4.same s11
      · exact .inl rfl
    clear a1 a2 a3 a4 g8 g9 d4 d6 s4 s5 s35 hp5 s6 s7 s57 s37 s8 s38 s9 s79 s39 s10 s11
    refine gname_ ?_
    try dsimp only
    refine seq_ ?_
    have hp11 := hp3.same s311
    have ha11 := ha3.same s311
    refine ⟨.ref L1, rfl, .ref p, rfl, 1, rfl, ?_⟩
    try unfold tNoPart
    try dsimp only
    refine slice_tp hp11 fun P1 H12 s12 g12 => ?_
    rw [show (some (1 : Int)) = some ((1 : Nat) : Int) from rfl, cut_from, ← List.map_drop] at g12
    have c1 : OkV B.length H12 (.ref P1) := okv_len g12 (by rw [List.length_drop]; omega) (by rw [List.length_drop]; omega)
    refine ⟨.ref p, rfl, by show 1 ≤ sizeLine; decide, fun O2 nO2 => ?_⟩
    have s13 : Same H12 (upd H12 O2 (.tup [.int 0])) := same_new nO2
    have g13 : Tp (upd H12 O2 (.tup [.int 0])) O2 ([(0 : Int)].map V.int) := upd_same
    generalize upd H12 O2 (.tup [.int 0]) = H13 at s13 g13 ⊢
    refine cat_tp ((hp11.same s12).same s13) g13 (by rw [List.length_map, List.length_map]; exact Nat.le_of_lt (small (by show _ + 1 ≤ 100; omega))) fun P2 H14 s14 g14 => ?_
    rw [← List.map_append] at g14
    have c2 : OkV B.length H14 (.ref P2) := okv_len g14 (by rw [List.length_append, ln]; show _ + 1 ≠ _; omega) (by rw [List.length_append, ln]; show _ + 1 ≤ _; omega)
    have s24 := (s12.trans s13).trans s14
    have ha14 := ha11.same s24
    have s314 := s311.trans s24
    refine ⟨.ref r, rfl, .int sp, rfl, r, _, sp, .ref pS, rfl, rfl, ha14.t, atI_nat (get_map e1), ?_⟩
    have c3 : OkV B.length H14 (.ref pS) := .inr (.inr (.inr (.inr ⟨pS, bs, rfl, RS.same s314, lS⟩)))
    refine ⟨.ref r, rfl, r, _, rfl, .inr ha14.t, ((ps.map V.ref).length : Int), rfl, by omega, by rw [List.length_map]; omega, fun D3 nD3 => ?_⟩
    have e0 : ((ps.map V.ref).length : Int).toNat = B.length := by
      rw [List.length_map]
      omega
    rw [e0]
    refine lc_to (walk_range (lo := 0) (n := B.length)) (((List.range B.length).map fun j => ns.getD j 0 + bs.getD j 0).map V.int) (by rw [List.length_map, List.length_map, List.length_range]) (small (by omega)) nD3 (fun H' s => True.intro) ?_ ?_
    · rintro j x u H8 H8' Qy hu hj s8 ⟨rfl, rfl⟩ hq
      obtain ⟨v, hv, rfl⟩ := map_get hu
      rw [List.getElem?_map, List.getElem?_range hj] at hv
      obtain rfl := Option.some.inj hv
      have ej : (0 + (j : Int)) = ((j : Nat) : Int) := by omega
      have y0 := Vk.getD_at (xs := ns) (i := j) (by omega)
      have y1 := Vk.getD_at (xs := bs) (i := j) (by omega)
      exact ⟨rfl, .ref p, rfl, .int (0 + j), rfl, p, _, 0 + j, .int (ns.getD j 0), rfl, rfl, ((hp11.same s24).same s8).t, atI_at ej (get_map y0), .ref r, rfl, .int sp, rfl, r, _, sp, .ref pS, rfl, rfl, (ha14.same s8).t, atI_nat (get_map e1), .int (0 + j), rfl, pS, _, 0 + j, .int (bs.getD j 0), rfl, rfl, ((RS.same s314).same s8).1.t, atI_at ej (get_map y1), _, _, rfl, rfl, hq _ (Same.refl _)⟩
    intro H15 s15 d15
    refine ⟨D3, _, rfl, .inl ⟨SqL.of d15, fun P4 nP4 => ?_⟩⟩
    have zn4 : ∀ x ∈ (List.range B.length).map fun j => ns.getD j 0 + bs.getD j 0, SmZ 300 x := fun x hx => by
      obtain ⟨j, hj, rfl⟩ := List.mem_map.mp hx
      have hj := List.mem_range.mp hj
      exact smz_mono (smz_add (zn _ (List.mem_of_getElem? (Vk.getD_at (by omega)))) (smz_mono (zS _ (List.mem_of_getElem? (Vk.getD_at (by omega)))) (by decide))) (by decide)
    have s16 : Same H15 (upd H15 P4 (.tup (((List.range B.length).map fun j => ns.getD j 0 + bs.getD j 0).map V.int))) := same_new nP4
    have c4 : OkV B.length (upd H15 P4 (.tup (((List.range B.length).map fun j => ns.getD j 0 + bs.getD j 0).map V.int))) (.ref P4) := okv_row upd_same (by rw [List.length_map, List.length_range]) h6 zn4
    generalize upd H15 P4 (.tup (((List.range B.length).map fun j => ns.getD j 0 + bs.getD j 0).map V.int)) = H16 at s16 c4 ⊢
    refine ⟨by show 4 ≤ sizeLine; decide, fun L2 nL2 => ?_⟩
    have s17 : Same H16 (upd H16 L2 (.lst [.ref P1, .ref P2, .ref pS, .ref P4])) := same_new nL2
    have gL2 : upd H16 L2 (.lst [.ref P1, .ref P2, .ref pS, .ref P4]) L2 = some (.lst [.ref P1, .ref P2, .ref pS, .ref P4]) := upd_same
    generalize upd H16 L2 (.lst [.ref P1, .ref P2, .ref pS, .ref P4]) = H17 at s17 gL2 ⊢
    have s47 := (s15.trans s16).trans s17
    have s1117 := s24.trans s47
    refine ⟨L1, L2, _, _, rfl, rfl, s1117 _ _ gL1, gL2, by show 10 ≤ sizeLine; decide, fun L3 nL3 => ?_⟩
    have s18 := same_new (o := .lst ([V.ref p, V.ref N1, V.ref N2, V.ref N3, V.ref N4, V.non] ++ [V.ref P1, V.ref P2, V.ref pS, V.ref P4])) nL3
    have gL3 : upd H17 L3 (.lst ([V.ref p, V.ref N1, V.ref N2, V.ref N3, V.ref N4, V.non] ++ [V.ref P1, V.ref P2, V.ref pS, V.ref P4])) L3 = _ := upd_same
    have A2 : ∀ v ∈ [V.ref p, V.ref N1, V.ref N2, V.ref N3, V.ref N4, V.non] ++ [V.ref P1, V.ref P2, V.ref pS, V.ref P4], OkV B.length H17 v := fun v hv => by
      rcases List.mem_append.mp hv with hv | hv
      · exact (A1 v hv).same s1117
      · simp only [List.mem_cons, List.not_mem_nil, or_false] at hv
        rcases hv with rfl | rfl | rfl | rfl
        · exact ((((c1.same s13).same s14).same s47))
        · exact (c2.same s47)
        · exact (c3.same s47)
        · exact (c4.same s17)
    have l3 : ([V.ref p, V.ref N1, V.ref N2, V.ref N3, V.ref N4, V.non] ++ [V.ref P1, V.ref P2, V.ref pS, V.ref P4]).length = 10 := rfl
    generalize [V.ref p, V.ref N1, V.ref N2, V.ref N3, V.ref N4, V.non] ++ [V.ref P1, V.ref P2, V.ref pS, V.ref P4] = vs3 at s18 gL3 A2 l3 ⊢
    have nL3f : H17 L3 = none := nL3
    generalize upd H17 L3 (.lst vs3) = H18 at s18 gL3 ⊢
    have s317 := s311.trans s1117
    have s318 := s317.trans s18
    clear c1 c2 c3 c4 g12 g13 g14 ha14 d15 s12 s13 s14 s24 s314 s15 s16 s17 s47 s1117 gL1 gL2 A1 hp11 ha11
    refine gname_ ?_
    try dsimp only
    refine seq_ ?_
    have hp18 := hp3.same s318
    have ha18 := ha3.same s318
    refine ⟨.ref L3, rfl, .inl ⟨rfl, _, SqL.of gL3⟩, ?_⟩
    refine ⟨.ref p, rfl, .int sp, rfl, sp, rfl, ?_⟩
    refine slice_tp hp18 fun r19 H19 s19 g19 => ?_
    rw [cut_to, ← List.map_take] at g19
    have hp19 := hp18.same s19
    have ysp := Vk.getD_at (xs := ns) (i := sp) (by omega)
    refine ⟨.ref p, rfl, .int sp, rfl, p, _, sp, .int (ns.getD sp 0), rfl, rfl, hp19.t, atI_nat (get_map ysp), _, 1, rfl, rfl, by show 1 ≤ sizeLine; decide, fun O3 nO3 => ?_⟩
    have s20 : Same H19 (upd H19 O3 (.tup [.int (ns.getD sp 0 + 1)])) := same_new nO3
    have g20 : Tp (upd H19 O3 (.tup [.int (ns.getD sp 0 + 1)])) O3 ([ns.getD sp 0 + 1].map V.int) := upd_same
    generalize upd H19 O3 (.tup [.int (ns.getD sp 0 + 1)]) = H20 at s20 g20 ⊢
    refine cat_tp (g19.same s20) g20 (by rw [List.length_map, List.length_take]; exact Nat.le_of_lt (small (by show _ + 1 ≤ 100; omega))) fun r21 H21 s21 g21 => ?_
    rw [← List.map_append] at g21
    have s1821 := (s19.trans s20).trans s21
    refine ⟨.ref p, rfl, .int sp, rfl, sp, 1, rfl, rfl, sp + 1, rfl, ?_⟩
    try unfold tNoPart
    try dsimp only
    refine slice_tp (hp18.same s1821) fun r22 H22 s22 g22 => ?_
    rw [show ((sp : Int) + 1) = ((sp + 1 : Nat) : Int) by omega, cut_from, ← List.map_drop] at g22
    refine cat_tp (g21.same s22) g22 (by rw [List.length_map, List.length_map, List.length_append, List.length_take, List.length_drop]; exact Nat.le_of_lt (small (by show _ + 1 + _ ≤ 100; omega))) fun C1 H23 s23 g23 => ?_
    rw [← List.map_append] at g23
    have s1823 := (s1821.trans s22).trans s23
    have lC : (ns.take sp ++ [ns.getD sp 0 + 1] ++ ns.drop (sp + 1)).length = B.length := by
      rw [List.length_append, List.length_append, List.length_take, List.length_drop]
      show min _ _ + 1 + _ = _
      omega
    have zC : ∀ x ∈ ns.take sp ++ [ns.getD sp 0 + 1] ++ ns.drop (sp + 1), SmZ 300 x := fun x hx => by
      rcases List.mem_append.mp hx with hx | hx
      · rcases List.mem_append.mp hx with hx | hx
        · exact smz_mono (zn x (List.mem_of_mem_take hx)) (by decide)
        · obtain rfl := List.mem_singleton.mp hx
          exact smz_mono (smz_add (zn _ (List.mem_of_getElem? ysp)) (show SmZ 60 1 by decide)) (by decide)
      · exact smz_mono (zn x (List.mem_of_mem_drop hx)) (by decide)
    have gL23 := s1823 _ _ gL3
    refine ⟨L3, vs3, _, rfl, rfl, gL23, by rw [l3]; exact small (by omega), ?_⟩
    have s1724 : Same H17 (upd H23 L3 (.lst (vs3 ++ [.ref C1]))) := same_put (s18.trans s1823) nL3f
    have gL24 : upd H23 L3 (.lst (vs3 ++ [.ref C1])) L3 = some (.lst (vs3 ++ [.ref C1])) := upd_same
    have A3 : ∀ v ∈ vs3 ++ [V.ref C1], OkV B.length (upd H23 L3 (.lst (vs3 ++ [.ref C1]))) v := fun v hv => by
      rcases List.mem_append.mp hv with hv | hv
      · exact (A2 v hv).same s1724
      · obtain rfl := List.mem_singleton.mp hv
        exact okv_row (tp_put g23 gL23) lC h6 zC
    have l4 : (vs3 ++ [V.ref C1]).length = 11 := by rw [List.length_append, l3]; rfl
    generalize vs3 ++ [V.ref C1] = vs4 at s1724 gL24 A3 l4 ⊢
    generalize upd H23 L3 (.lst vs4) = H24 at s1724 gL24 A3 ⊢
    have s324 := s317.trans s1724
    clear gL3 A2 s18 hp18 ha18 s19 s20 s21 s22 s23 g19 g20 g21 g22 g23 hp19 s1821 s1823 gL23 lC zC
    try dsimp only
    refine seq_ ?_
    have hp24 := hp3.same s324
    refine ⟨.ref L3, rfl, .ref p, rfl, .int sp, rfl, sp, rfl, ?_⟩
    refine slice_tp hp24 fun r25 H25 s25 g25 => ?_
    rw [cut_to, ← List.map_take] at g25
    refine ⟨by show 1 ≤ sizeLine; decide, fun O4 nO4 => ?_⟩
    have s26 : Same H25 (upd H25 O4 (.tup [.bl true])) := same_new nO4
    have g26 : Tp (upd H25 O4 (.tup [.bl true])) O4 [.bl true] := upd_same
    generalize upd H25 O4 (.tup [.bl true]) = H26 at s26 g26 ⊢
    refine cat_tp (g25.same s26) g26 (by rw [List.length_map, List.length_take]; exact Nat.le_of_lt (small (by show _ + 1 ≤ 100; omega))) fun r27 H27 s27 g27 => ?_
    have s2427 := (s25.trans s26).trans s27
    refine ⟨.ref p, rfl, .int sp, rfl, sp, 1, rfl, rfl, sp + 1, rfl, ?_⟩
    try unfold tNoPart
    try dsimp only
    refine slice_tp (hp24.same s2427) fun r28 H28 s28 g28 => ?_
    rw [show ((sp : Int) + 1) = ((sp + 1 : Nat) : Int) by omega, cut_from, ← List.map_drop] at g28
    refine cat_tp (g27.same s28) g28 (by rw [List.length_append, List.length_map, List.length_map, List.length_take, List.length_drop]; exact Nat.le_of_lt (small (by show _ + 1 + _ ≤ 100; omega))) fun B1 H29 s29 g29 => ?_
    have cB : OkV B.length H29 (.ref B1) := .inr (.inr (.inr (.inl ⟨B1, _, rfl, g29, by rw [List.length_append, List.length_append, List.length_map, List.length_map, List.length_take, List.length_drop]; show min _ _ + 1 + _ ≤ 100; omega, fun e he => by
      rcases List.mem_append.mp he with he | he
      · rcases List.mem_append.mp he with he | he
        · obtain ⟨z, _, rfl⟩ := List.mem_map.mp he
          exact .inl ⟨z, rfl⟩
        · obtain rfl := List.mem_singleton.mp he
          exact .inr ⟨true, rfl⟩
      · obtain ⟨z, _, rfl⟩ := List.mem_map.mp he
        exact .inl ⟨z, rfl⟩, by
      unfold tupOk
      rw [List.all_append, List.all_append]
      simp [Vk.isInt]⟩)))
    have s2429 := (s2427.trans s28).trans s29
    refine ⟨by show 0 ≤ sizeLine; decide, fun Z1 nZ1 => ?_⟩
    have s30 : Same H29 (upd H29 Z1 (.tup [])) := same_new nZ1
    have cZ : OkV B.length (upd H29 Z1 (.tup [])) (.ref Z1) := okv_len (ns := []) upd_same (by show 0 ≠ _; omega) (by decide)
    generalize upd H29 Z1 (.tup []) = H30 at s30 cZ ⊢
    refine ⟨by show 3 ≤ sizeLine; decide, fun L4 nL4 => ?_⟩
    have s31 : Same H30 (upd H30 L4 (.lst [.ref B1, .int 7, .ref Z1])) := same_new nL4
    have gL4 : upd H30 L4 (.lst [.ref B1, .int 7, .ref Z1]) L4 = some (.lst [.ref B1, .int 7, .ref Z1]) := upd_same
    generalize upd H30 L4 (.lst [.ref B1, .int 7, .ref Z1]) = H31 at s31 gL4 ⊢
    have s2431 := (s2429.trans s30).trans s31
    have s331 := s324.trans s2431
    refine ⟨L3, L4, _, _, rfl, rfl, s2431 _ _ gL24, gL4, by rw [l4]; show 14 ≤ sizeLine; decide, fun L nL => ?_⟩
    have A4 : ∀ v ∈ vs4 ++ [V.ref B1, V.int 7, V.ref Z1], OkV B.length H31 v := fun v hv => by
      rcases List.mem_append.mp hv with hv | hv
      · exact (A3 v hv).same s2431
      · simp only [List.mem_cons, List.not_mem_nil, or_false] at hv
        rcases hv with rfl | rfl | rfl
        · exact (cB.same s30).same s31
        · exact .inr (.inl ⟨7, rfl⟩)
        · exact cZ.same s31
    have l5 : (vs4 ++ [V.ref B1, V.int 7, V.ref Z1]).length = 14 := by rw [List.length_append, l4]; rfl
    have s32 := same_new (o := .lst (vs4 ++ [V.ref B1, V.int 7, V.ref Z1])) nL
    have gL : upd H31 L (.lst (vs4 ++ [V.ref B1, V.int 7, V.ref Z1])) L = _ := upd_same
    generalize vs4 ++ [V.ref B1, V.int 7, V.ref Z1] = vs5 at s32 gL A4 l5 ⊢
    generalize upd H31 L (.lst vs5) = H32 at s32 gL ⊢
    have s332 := s331.trans s32
    clear gL4 gL24 A3 s25 s26 s27 s28 s29 s30 s31 g25 g26 g27 g28 g29 cB cZ s2427 s2429 s2431 hp24
    refine gname_ ?_
    try dsimp only
    refine seq_ ?_
    have M32 := M3.same s332
    have ha32 := ha3.same s332
    obtain ⟨kv32, hm32⟩ := M32.m_some
    refine ⟨.ref L, rfl, .inl ⟨rfl, _, SqL.of gL⟩, ?_⟩
    refine ⟨.ref r, rfl, r, rfl, ⟨_, ha32.t⟩, fun D6 nD6 => ?_⟩
    refine lc_drW (walk_tup (K := K) (a := r) (xs := ps.map V.ref)) (w := 2) (q := q + 20 + 1) (m := m) (c := c) (fun _ x => -9 ≤ x ∧ x ≤ 9) (by rw [List.length_map, lp]; exact small (by omega)) M32 nD6 (fun H' s => (ha32.but hm32 s).t) ?_ ?_
    · rintro i x H5 H5' Qy hi sb M' ⟨rfl, hx⟩ hQ
      rw [List.length_map, lp] at hi
      exact ⟨rfl, .ref m, rfl, m, c, _, 9, rfl, M', by omega, by decide, by decide, fun H6 v b6 M6 v0 v1 => hQ H6 _ b6 M6 ⟨by omega, by omega⟩⟩
    intro H33 xs b33 M33 d33 l33 bd
    have bd := all_of_get bd
    rw [List.length_map, lp] at l33 M33
    refine ⟨D6, _, rfl, .inl ⟨SqL.of d33, fun T nT => ?_⟩⟩
    have s34 : Same H33 (upd H33 T (.tup (xs.map V.int))) := same_new nT
    have g34 : Tp (upd H33 T (.tup (xs.map V.int))) T (xs.map V.int) := upd_same
    generalize upd H33 T (.tup (xs.map V.int)) = H34 at s34 g34 ⊢
    have M31 := M3.same s331
    obtain ⟨kv31, hm31⟩ := M31.m_some
    obtain ⟨yc, hc31⟩ := M31.c_some
    have Lm : L ≠ m := Ne.symm (ne_of_none hm31 nL)
    have Lc : L ≠ c := Ne.symm (ne_of_none hc31 nL)
    have gL34 := s34 _ _ (b33 _ _ Lm gL)
    refine ⟨L, vs5, _, rfl, rfl, gL34, by rw [l5]; exact small (by omega), ?_⟩
    have b3136 : SameBut m H31 (upd H34 L (.lst (vs5 ++ [.ref T]))) := sb_put nL ((SameBut.of s32).trans (b33.trans (SameBut.of s34)))
    have M36 := (M33.same s34).put (o := .lst (vs5 ++ [.ref T])) Lm Lc
    have gL36 : upd H34 L (.lst (vs5 ++ [.ref T])) L = some (.lst (vs5 ++ [.ref T])) := upd_same
    have A6 : ∀ v ∈ vs5 ++ [V.ref T], OkV B.length (upd H34 L (.lst (vs5 ++ [.ref T]))) v := fun v hv => by
      rcases List.mem_append.mp hv with hv | hv
      · exact (A4 v hv).but hm31 b3136
      · obtain rfl := List.mem_singleton.mp hv
        exact okv_row (tp_put g34 gL34) l33 h6 fun x hx => by
          have := bd x hx
          exact Nat.lt_of_le_of_lt (show x.natAbs ≤ 9 by omega) (Nat.lt_of_lt_of_le (by decide : 9 < 2 ^ 4) (Nat.pow_le_pow_right (by decide) (by decide)))
    generalize vs5 ++ [V.ref T] = vs6 at b3136 M36 gL36 A6 ⊢
    generalize upd H34 L (.lst vs6) = H36 at b3136 M36 gL36 A6 ⊢
    obtain ⟨kv3, hm3⟩ := M3.m_some
    have T36 := T3.but hm3 ((SameBut.of s331).trans b3136)
    have b036 := b03.trans ((SameBut.of s331).trans b3136)
    clear A4 gL gL34 b33 s34 g34 M33 d33 M32 ha32 s32 s332 hm32
    try dsimp only
    refine seq_ ?_
    refine ⟨.ref L, rfl, L, rfl, ⟨_, SqL.of gL36⟩, ?_⟩
    refine for_list (K := K) (a := L) (xs := vs6) (fun i σ H' => (∃ y6, σ = [some (.ref m), some (.ref r), some told, some (.ref p), some (.int sp), some (.ref L), y6, none, none]) ∧ Same H36 H') ⟨⟨none, rfl⟩, Same.refl _⟩ ?_ ?_ ?_
    · rintro i σ H' _ ⟨_, s⟩
      exact SqL.of (s _ _ gL36)
    · rintro i x σ H37 hi ⟨⟨y6, rfl⟩, s37⟩
      obtain ⟨b, u1, u2⟩ := okv_near ((A6 x (List.mem_of_getElem? hi)).same s37) (T36.same s37) h6 d0
      refine ⟨.ref r, rfl, x, rfl, ?_⟩
      unfold tNil
      dsimp only
      refine u1 H37 (Same.refl _) _ _ fun H38 s38 => ?_
      refine ⟨.ref r, rfl, x, rfl, ?_⟩
      try unfold tNil
      try dsimp only
      refine u2 H38 s38 _ _ fun H39 s39 => ?_
      exact ⟨.bl b, .bl b, .bool b, rfl, .bl _, .bl _, FitN.bl _, _, rfl, iteF ⟨⟨_, rfl⟩, (s37.trans s38).trans s39⟩⟩
    · rintro σ H37 ⟨⟨y6, rfl⟩, s37⟩
      exact k H37 (b036.trans (SameBut.of s37)) ((M36.same s37).mono (by omega))
end
end K16
/-! The end of a law row for a quiet promise, with the tables of the code objects that hold lambdas. -/
namespace Vk
open PySem PySem.Spec PyProof.Rows L2
/-- what a heap at the law's start tracks -/
inductive Trk (cs : List (Addr × Addr)) (H : Hp) (b : Addr) : Prop
  | no (h : H b = none) : Trk cs H b
  | tab (p : Addr × Addr) (m : p ∈ cs) (e : p.2 = b) (h : H b = some (.tbl #[])) : Trk cs H b
  | frz (o : Obj) (xs : List V) (h : H b = some (.frz o (.lst xs))) : Trk cs H b
/-- what is known of the tables -/
structure TabK (K : PySem.W.Frag) (h : Heap) (p : Addr × Addr) : Prop where
  hd : PySem.W.CodeHd h p.1 p.2
  at_ : h.get? p.2 = some { cls := .none, data := .fields #[] }
  out : K.lookup p.2 = none
/-- the module that the top's names lead to -/
def BMain (mg : Str → Option Value) (h : Heap) : Prop := ∃ bm ob, mg "__builtins__" = some (.ref bm) ∧ bm ≠ builtinsNs ∧ h.get? bm = some ob ∧ ob.cls = .type "module" ∧ ob.dict = some builtinsNs ∧ ob.data = .plain
section
variable {P : Program} {w : World} {K : PySem.W.Frag} {mg mb : Str → Option Value} {k : Nat} {fa a : Addr} {fd : FuncData} {x : Str} {sp : Sp} {s₁ : Shared} {vs : List Value} {ns : List Int} {cs : List (Addr × Addr)}
theorem tabB_hid {H : Hp} {p : Addr × Addr} (T : TabK K s₁.heap p) (fr : ∀ b o, s₁.heap.get? b = some o → o ≠ { cls := .none, data := .fields #[] } → o.cls ≠ .type "list" → H b = none) (hns : s₁.heap.Ns mainGlobals mg) (B : BMain mg s₁.heap) :
    LamX.TabB (hidT s₁.heap H) mg p.1 p.2 := by
  obtain ⟨o, us, file, tf, flags, tg, inF, text, tt, q1, q2, q3, q4, q5⟩ := T.hd
  obtain ⟨bm, ob, b1, b2, b3, b4, b5, b6⟩ := B
  obtain ⟨og, es, ep, g1, g2, g3⟩ := hns
  refine ⟨⟨o, us, file, tf, flags, tg, inF, text, tt, hidT_get q1 (fr _ _ q1 (fun z => ?_) fun z => ?_), q2, q3, q4, q5⟩, ⟨bm, ob, b1, b2, fun z => ?_, fun z => ?_, hidT_get b3 (fr _ _ b3 (fun z => ?_) fun z => ?_), b4, b5, b6⟩, fun z => ?_⟩
  · subst z
    cases q2
  · rw [q2] at z
    exact absurd z (by decide)
  · subst z
    rw [g1] at b3
    obtain rfl := Option.some.inj b3
    rw [b6] at g2
    cases g2
  · subst z
    have y := b3.symm.trans T.at_
    obtain rfl := Option.some.inj y
    cases b4
  · subst z
    cases b4
  · rw [b4] at z
    exact absurd z (by decide)
  · rw [z] at g1
    obtain rfl := Option.some.inj (T.at_.symm.trans g1)
    cases g2
/-- from one abstract heap that holds -/
theorem law_coreT (H : Hp) (KX : K.In s₁.heap) (hns : s₁.heap.Ns mainGlobals mg) (hb : s₁.heap.Ns builtinsNs mb) (hbb : ∀ x : Str, x ≠ "__name__" → mb x = bootBuiltins x) (hlim : s₁.heap.NoLimit) (hg : s₁.gens = #[])
    (TK : ∀ p ∈ cs, TabK K s₁.heap p) (B : BMain mg s₁.heap) (ha : s₁.heap.get? a = some { cls := .type "list", data := .seq vs.toArray }) (hr : Room k callerA)
    (F : ∀ base : Heap, K.In base → base.Ns mainGlobals mg → (∀ p ∈ cs, LamX.TabB base mg p.1 p.2) → FnG P w K mg base k fa fd [x] sp) (hbind : ∀ (s : Shared) (u : Value), BindsTo s fd ⟨[u], []⟩ [(x, u)])
    (trk : ∀ b, Trk cs H b) (hA : ∀ b o xs, H b = some (.frz o (.lst xs)) → b = a) (hK : H a ≠ none → K.lookup a = none) (hok : HOk P w H s₁.heap) (hsp : sp [.ref a] H (fun v _ => v = .bl true) fun _ _ _ => False) :
    codeAny (model P w) callerA (.call (.ref fa) ⟨[.ref a], []⟩) (fun r s' => r = .ok (.ret (.bool true)) ∧ OldK s₁.heap s'.heap ∧ s'.os = s₁.os ∧ AllBare s'.gens) s₁ := by
  have fr : ∀ b o, s₁.heap.get? b = some o → o ≠ { cls := .none, data := .fields #[] } → o.cls ≠ .type "list" → H b = none := fun b o e n1 n2 => by
    cases trk b with
    | no h => exact h
    | tab p m z h =>
      rw [← z, (TK p m).at_] at e
      exact absurd (Option.some.inj e).symm n1
    | frz u xs h =>
      rw [hA b u xs h, ha] at e
      obtain rfl := Option.some.inj e
      exact absurd rfl n2
  have ns_ : ∀ {b : Addr} {m : Str → Option Value}, s₁.heap.Ns b m → (hidT s₁.heap H).Ns b m := by
    rintro b m ⟨o, es, ep, e, d, r⟩
    cases trk b with
    | no h => exact ⟨o, es, ep, hidT_get e h, d, r⟩
    | tab p q z h =>
      rw [← z, (TK p q).at_] at e
      obtain rfl := Option.some.inj e
      cases d
    | frz u xs h =>
      rw [hA b u xs h, ha] at e
      obtain rfl := Option.some.inj e
      cases d
  have inB : K.In (hidT s₁.heap H) := fun b o e => by
    refine hidT_get (KX b o e) ?_
    cases trk b with
    | no h => exact h
    | tab p q z h =>
      rw [← z, (TK p q).out] at e
      cases e
    | frz u xs h =>
      have y := hA b u xs h
      subst y
      rw [hK (by rw [h]; exact fun z => by cases z)] at e
      cases e
  have M : Mod K mg (hidT s₁.heap H) := by
    refine { kin := inB, glob := ns_ hns, blt := ⟨mb, ns_ hb, hbb⟩, nolimit := ?_ }
    obtain ⟨mc, h1, h2⟩ := hlim
    exact ⟨mc, ns_ h1, h2⟩
  have E : Env0 P w K mg (hidT s₁.heap H) callerA [] s₁ H := by
    refine { frames := rfl, mod := M, bs := fun b o e => of_hidT e, bsz := Nat.le_of_eq (hidT_size _ _), funs := trivial, frf := ?_, hok := hok, bare := .of_eq hg }
    intro b z
    cases (show b ∈ ([] : List Addr) from z)
  have R := (F _ inB (ns_ hns) fun p hp => tabB_hid (TK p hp) fr hns B).run callerA [] s₁ H ⟨[.ref a], []⟩ [.ref a] [.ref a] _ _ rfl hr E (hbind s₁ (.ref a)) (.cons rfl .nil) hsp
  refine codeAny_mono R ?_
  intro r s' h
  match r, h with
  | .error e, h => exact False.elim h
  | .ok (.ret u), ⟨v, H', os, bare, un, hok', rv, q⟩ =>
    obtain rfl : v = .bl true := q
    obtain rfl : u = Value.bool true := rv
    have key : ∀ b o, s₁.heap.get? b = some o → s'.heap.get? b = some o ∨ ∃ p ∈ cs, p.2 = b ∧ ∃ more : Array Value, s'.heap.get? b = some { cls := .none, data := .fields more } := fun b o e => by
      cases trk b with
      | no z =>
        refine .inl (un.keep b o e z (fun m => ?_) (fun m => ?_))
        · cases (show b ∈ ([] : List Addr) from m)
        · cases m
      | tab p m z y =>
        obtain ⟨more, y'⟩ := un.tbls b #[] y
        exact .inr ⟨p, m, z, _, hok' b _ y'⟩
      | frz ob xs z =>
        have p1 := (hok b _ z).1
        have p2 := (hok' b _ (un.frzs b ob _ z)).1
        exact .inl (p2.trans (p1.symm.trans e))
    refine ⟨rfl, ⟨fun b o e => ?_, fun b o e => ?_⟩, os, bare⟩
    · rcases key b o e with y | ⟨p, m, rfl, more, y⟩
      · exact .inl y
      · have T := TK p m
        obtain rfl := Option.some.inj (T.at_.symm.trans e)
        refine .inr (.inl ⟨(T.hd.tab T.at_).isCodeTable, rfl, #[], more, rfl, ?_⟩)
        rw [Array.empty_append]
        exact y
    · rcases key b o e with y | ⟨p, m, rfl, more, y⟩
      · exact ⟨o, y⟩
      · exact ⟨_, y⟩
/-- the law's promise, at the heap behind the top -/
theorem law_callT (KX : K.In s₁.heap) (hns : s₁.heap.Ns mainGlobals mg) (hb : s₁.heap.Ns builtinsNs mb) (hbb : ∀ x : Str, x ≠ "__name__" → mb x = bootBuiltins x) (hlim : s₁.heap.NoLimit) (hg : s₁.gens = #[])
    (TK : ∀ p ∈ cs, TabK K s₁.heap p) (B : BMain mg s₁.heap) (ha : s₁.heap.get? a = some { cls := .type "list", data := .seq vs.toArray }) (hi : IntsAre vs ns) (hl : ns.length ≤ sizeLine) (hr : Room k callerA)
    (F : ∀ base : Heap, K.In base → base.Ns mainGlobals mg → (∀ p ∈ cs, LamX.TabB base mg p.1 p.2) → FnG P w K mg base k fa fd [x] sp) (hbind : ∀ (s : Shared) (u : Value), BindsTo s fd ⟨[u], []⟩ [(x, u)])
    (hsp : ∀ H : Hp, (∀ p ∈ cs, H p.2 = some (.tbl #[])) → SqL K H a (ns.map V.int) → sp [.ref a] H (fun v _ => v = .bl true) fun _ _ _ => False) :
    codeAny (model P w) callerA (.call (.ref fa) ⟨[.ref a], []⟩) (fun r s' => r = .ok (.ret (.bool true)) ∧ OldK s₁.heap s'.heap ∧ s'.os = s₁.os ∧ AllBare s'.gens) s₁ := by
  classical
  have rv := vals_ints hi
  let tb : Hp := fun b => if ∃ p ∈ cs, p.2 = b then some (.tbl #[]) else none
  have tb1 : ∀ p ∈ cs, tb p.2 = some (.tbl #[]) := fun p hp => if_pos ⟨p, hp, rfl⟩
  have tbt : ∀ b, Trk cs tb b := fun b => by
    by_cases z : ∃ p ∈ cs, p.2 = b
    · obtain ⟨p, m, e⟩ := z
      exact .tab p m e (if_pos ⟨p, m, e⟩)
    · exact .no (if_neg z)
  have tbo' : ∀ (H' : Hp) b u, tb b = some u → ObjOk P w H' s₁.heap b u := fun H' b u z => by
    cases tbt b with
    | no h =>
      rw [h] at z
      cases z
    | tab p m e h =>
      rw [h] at z
      obtain rfl := Option.some.inj z
      subst e
      exact (TK p m).at_
    | frz o xs h =>
      rw [h] at z
      obtain rfl := Option.some.inj z
      unfold tb at h
      split at h <;> cases h
  have tbo : HOk P w tb s₁.heap := tbo' tb
  have tbf : ∀ b o xs, tb b ≠ some (.frz o (.lst xs)) := fun b o xs h => by
    unfold tb at h
    split at h <;> cases h
  have na : ∀ p ∈ cs, p.2 ≠ a := fun p hp z => by
    have e := (TK p hp).at_
    rw [z, ha] at e
    cases congrArg Obj.data (Option.some.inj e)
  have tba : tb a = none := if_neg fun ⟨p, hp, z⟩ => na p hp z
  cases hk : K.lookup a with
  | some o =>
    have e := (KX a o hk).symm.trans ha
    obtain rfl := Option.some.inj e
    refine law_coreT tb KX hns hb hbb hlim hg TK B ha hr F hbind tbt (fun b o xs z => absurd z (tbf b o xs)) (fun z => absurd tba z) tbo (hsp _ tb1 (.inr ⟨_, vs.toArray, _, hk, rfl, rfl, rfl, ?_, ?_⟩))
    · rw [List.size_toArray, hi.length]
      exact hl
    · simpa using rv
  | none =>
    let fz : HO := .frz { cls := .type "list", data := .seq vs.toArray } (.lst (ns.map V.int))
    refine law_coreT (upd tb a fz) KX hns hb hbb hlim hg TK B ha hr F hbind (fun b => ?_) (fun b o xs z => ?_) (fun _ => hk) (fun b u z => ?_) (hsp _ (fun p hp => ?_) (.inl (.inr ⟨_, upd_same⟩)))
    · by_cases e : b = a
      · subst e
        exact .frz _ _ upd_same
      · cases tbt b with
        | no h => exact .no (by rw [upd_ne e]; exact h)
        | tab p m q h => exact .tab p m q (by rw [upd_ne e]; exact h)
        | frz o xs h => exact .frz o xs (by rw [upd_ne e]; exact h)
    · by_cases e : b = a
      · exact e
      · rw [upd_ne e] at z
        exact absurd z (tbf b o xs)
    · by_cases e : b = a
      · subst e
        rw [upd_same] at z
        obtain rfl := Option.some.inj z
        refine ⟨ha, ?_, vs, _, rv, ha⟩
        rw [List.length_map]
        exact hl
      · rw [upd_ne e] at z
        exact tbo' _ b u z
    · rw [upd_ne (na p hp)]
      exact tb1 p hp
end
/-- the tables of the top's defs, by their names -/
def TabsOf (q : Program) (K : PySem.W.Frag) (h : Heap) : Prop := ∀ (y : Str) (d : DefRec) (c P : Addr), (recsOf q).find? (fun e => e.name == y) = some d → PySem.W.tabIn K y = some (c, P) → K.lookup P = none → TabK K h (c, P)
/-- the end of the row -/
theorem walk_ofT {l : PySem.W.OpenLaw} {n k : Nat} {q : Program} {loose : List Str} {XP : (Str → Option Value) → Heap → Prop} {YP : World → Heap → Prop} {d : DefRec} {K : Params → PySem.W.Frag} {x : Str}
    (hn : l.most = some n) (hn2 : n ≤ sizeLine) (hdf : d.params.defaults = []) (hr : Room k callerA) (hY : ∀ (w : World) (h : Heap), YP w h → (K w.params).In h)
    (F : ∀ (w : World) (mg : Str → Option Value) (fa : Addr) (h : Heap), (K w.params).In h → h.Ns mainGlobals mg → mg d.name = some (.ref fa) → TabsOf q (K w.params) h →
      ∃ (fd : FuncData) (cs : List (Addr × Addr)) (sp : Sp), (∀ p ∈ cs, TabK (K w.params) h p) ∧ (∀ (s : Shared) (u : Value), BindsTo s fd ⟨[u], []⟩ [(x, u)]) ∧
        (∀ (H : Hp) (a : Addr) (ns : List Int), ns.length ≤ n → (∀ p ∈ cs, H p.2 = some (.tbl #[])) → SqL (K w.params) H a (ns.map V.int) → sp [.ref a] H (fun v _ => v = .bl true) fun _ _ _ => False) ∧
        ∀ base : Heap, (K w.params).In base → base.Ns mainGlobals mg → (∀ p ∈ cs, LamX.TabB base mg p.1 p.2) → FnG l.prog w (K w.params) mg base k fa fd [x] sp) :
    PySem.W.WalkO q loose XP YP l.row.toRowW d [] (fun f vs => PySem.call f vs) := by
  refine Att.attach_call hn hdf ?_
  intro w s₀ s₁ mg mb fa o pm cd doc a vs ns G Y ho hd hcd hmg hobj hints hlen hg
  have KX := hY w _ Y
  obtain ⟨fd, cs, sp, hT, hb, hsp, hF⟩ := F w mg fa _ KX G.T.g hmg fun y d c P h1 h2 h3 => by
    obtain ⟨t1, t2⟩ := PySem.W.tab_of G.T KX h1 h2
    exact ⟨t1, t2, h3⟩
  exact law_callT KX G.T.g G.T.b G.T.builtins G.T.nolimit hg hT G.T.bmain hobj hints (Nat.le_trans hlen hn2) hr hF hb fun H hT' hS => hsp H a ns hlen hT' hS
end Vk
namespace K16
open PySem PySem.Spec PyProof.Rows L2 Vk Vd
abbrev s_heard : Stmt := topS 30
theorem sc_heard : FnScope ["call", "found", "error", "e"] ["call"] (defScope s_heard) := ⟨rfl, rfl, rfl, by decide +kernel, rfl, by decide +kernel, by decide +kernel⟩
/-- what is known of the classes -/
structure Exs (K : PySem.W.Frag) (mg : Str → Option Value) (CT CF CS : Addr) : Prop where
  gT : mg "TallyError" = some (.ref CT)
  gN : mg "NotFit" = some (.ref CS)
  B : ExcT K mg "Singular" CF
  C : ExcC K CF
  e : PySem.W.exmOne K (.ref CF) (.ref CT) = some true
  kV : PySem.W.kitOne K (.ref CF) (.type "ValueError") = some true
  kB : PySem.W.kitOne K (.ref CF) (.ref CF) = some true
  kN : PySem.W.kitOne K (.ref CF) (.ref CS) = some false
/-- heard: the value alone in a new list, or the text of the refusal -/
def THeard (CF : Addr) : (XK → Hp → VK → Prop) → Hp → VK → Prop := fun tl H Q => ∀ (H1 : Hp) (Q' : VK), Same H H1 → (∀ v H', (∀ p, H' p = none → Q (.ref p) (upd H' p (.lst [v]))) → Q' v H') →
  tl (fun cls d H' => cls = .ref CF ∧ d = none ∧ ∀ a, H' a = none → Q (.str "singular") (upd H' a (ExK (.ref CF) none a))) H1 Q'
theorem heard_gives {X : Cx} {g CT CF CS : Addr} {cdg : Value} {q : Str} (T : Exs X.K X.mg CT CF CS) (m_isinstance : X.mg "isinstance" = none) (m_ValueError : X.mg "ValueError" = none) :
    LamX.GivesTo X ["call", "found", "error", "e"] "_law_heard" (defScope s_heard) g cdg (defBody s_heard) "call" q (THeard CF) := by
  have sc := sc_heard
  intro f c' s H Q tl act hc h
  refine ⟨_, (pss_cons (ps_asg (pe_tup (pa_cons pe_non (pa_cons pe_non pa_nil))) (pg_tup (by rfl) (pgs_cons (pg_name (i := 1) sc.nd rfl (Or.inl rfl)) (pgs_cons (pg_name (i := 2) sc.nd rfl (Or.inl rfl)) pgs_nil))))
    (pss_cons (ps_try_keep (i := 3) (c := .ref CT)
      (tb := fun W D σ H => ∃ Ech : XK, (∀ cls d σ' H', Ech cls d H' → W cls d σ' H') ∧ σ[0]? = some (some (.ref f)) ∧ H c' = some (LamX.CodeO c' q) ∧ tl Ech H (fun v H' => D.nx (σ.set 1 (some v)) H'))
      (ts := fun _ _ _ => tAsg (tVar 3) (gName 2))
      rfl rfl rfl sc.nd rfl rfl ⟨rfl, by decide, .inl T.gT⟩
      (fun W pn xe tk _ => ⟨fun pins s' σ H' D I h' => by
        obtain ⟨Ech, hW, h1, h2, h3⟩ := h'
        exact (pss_one (ps_set (i := 1) sc.nd rfl (Or.inl rfl) (act W pn xe Ech _ _ tk hW))).run pins s' σ H' D I ⟨h1, h2, h3⟩⟩)
      (fun a oe cls d pn _ _ => pss_one (ps_set (i := 2) sc.nd rfl (Or.inl rfl) (pv 3))))
    (pss_cons (ps_if (pt_cmpR op_isN (pv 2) pe_non (nomark _))
      (pss_one (ps_ret (pe_lst (pa_cons (pv 1) pa_nil))))
      pss_nil)
    (pss_cons (ps_if (pt_not (pt_val (pe_callB (call_isK T.C) (by rfl) m_isinstance (by decide +kernel) (pa_cons (pv 2) (pa_cons (pe_bltn (v := .ty "ValueError") (by rfl) m_ValueError (by decide +kernel) rfl) pa_nil)))))
      (pss_one (ps_ret pe_str))
      pss_nil)
    (pss_cons (ps_if (PW.pt (pw_and (pt_val (pe_callB (call_isK T.C) (by rfl) m_isinstance (by decide +kernel) (pa_cons (pv 2) (pa_cons (pe_glob (v := .ref CF) rfl T.B.g rfl) pa_nil)))) (pw_and1 (pt_not (pt_val (pe_callB (call_isK T.C) (by rfl) m_isinstance (by decide +kernel) (pa_cons (pv 2) (pa_cons (pe_glob (v := .ref CS) rfl T.gN rfl) pa_nil))))))))
      (pss_one (ps_ret pe_str))
      pss_nil)
    (pss_one (ps_ret pe_str))))))), ?_⟩
  refine ⟨by show 2 ≤ sizeLine; decide, fun p0 np0 => ⟨p0, [.non, .non], rfl, SqT.of upd_same, rfl, .non, [.non], rfl, .non, [], rfl, rfl, ?_⟩⟩
  have s0 : Same H (upd H p0 (.tup [.non, .non])) := same_new np0
  refine ⟨fun cls d H' => cls = .ref CF ∧ d = none ∧ ∀ a, H' a = none → Q (.str "singular") (upd H' a (ExK (.ref CF) none a)), ?_, rfl, s0 _ _ hc, ?_⟩
  · -- refused
    rintro _ _ σ' H' ⟨rfl, rfl, q1⟩
    refine ⟨T.e, fun hl a na => ⟨.ref a, ?_, ?_⟩⟩
    · rw [List.getElem?_set_self (by rw [hl]; exact (by decide : 3 < 4))]
    have q2 := q1 a na
    have hσ : ((((σ'.set 3 (some (V.ref a))).set 2 (some (V.ref a))).set 3 none)[2]? : Option (Option V)) = some (some (.ref a)) := by
      rw [List.getElem?_set_ne (by decide), List.getElem?_set_self (by rw [List.length_set, hl]; exact (by decide : 2 < 4))]
    have gE : upd H' a (ExK (.ref CF) none a) a = some (ExK (.ref CF) none a) := upd_same
    refine ⟨.ref a, hσ, rfl, _, rfl, ?_⟩
    rw [decide_eq_false (show ¬ V.ref a = V.non from fun z => by cases z)]
    refine iteF ⟨.ref a, hσ, a, .ty "ValueError", _, true, rfl, gE, .ty _, T.kV, _, rfl, iteF ?_⟩
    refine ⟨.ref a, hσ, a, .ref CF, _, true, rfl, gE, .own _, T.kB, _, rfl, iteT ?_⟩
    exact ⟨.ref a, hσ, a, .ref CS, _, false, rfl, gE, .own _, T.kN, _, rfl, iteT q2⟩
  · -- told
    refine h _ _ s0 fun v H' q1 => ?_
    refine ⟨.non, rfl, rfl, _, rfl, iteT ⟨v, rfl, by show 1 ≤ sizeLine; decide, fun p np => q1 p np⟩⟩
/-- the def that hears -/
def HeardF (K : PySem.W.Frag) (mg : Str → Option Value) (g : Addr) : Prop := mg "_law_heard" = some (.ref g) ∧ PySem.W.keepIn K (.ref g) = true ∧
  ∃ (oc kV doc pm cdv ct : Value) (od an : Option Addr) (osl : Array (Option Value)), K.lookup g = some ⟨oc, od, .func (PySem.W.fnOf "_law_heard" "_law_heard" (defArgs s_heard) (defBody s_heard) (defScope s_heard) .none kV doc pm an cdv ct), osl⟩ ∧
    PySem.W.codeIn K cdv "_law_heard" = true ∧ Binds K (PySem.W.fnOf "_law_heard" "_law_heard" (defArgs s_heard) (defBody s_heard) (defScope s_heard) .none kV doc pm an cdv ct) ["call"] []
/-- the reading of a call of the def that hears: refused, or told -/
theorem heard_read {T : List (Addr × Str)} {CF : Addr} {t : XK → TE} {σ : L2.St} {H : Hp} {Q : VK} (hT : LamX.Tabs T H) (Good : V → Hp → Prop) (hQ : ∀ x H', Good x H' → Q x H')
    (hb : ∀ (H1 : Hp) (E' : XK) (Q' : VK), LamX.ExtN H H1 → LamX.Tabs T H1 → (∀ H', Same H1 H' → (∀ e, H' e = none → Good (.str "singular") (upd H' e (ExK (.ref CF) none e))) → E' (.ref CF) none H') →
      (∀ v H', (∀ r, H' r = none → Good (.ref r) (upd H' r (.lst [v]))) → Q' v H') → t E' σ H1 Q') : LamX.tLam T (THeard CF) t σ H Q :=
  ⟨hT, fun H1 e1 T1 H2 Q' s2 hq => hb H2 _ Q' (ext_same e1 s2) (T1.ext s2) (fun H' s' g => ⟨rfl, rfl, fun a na => hQ _ _ (g a na)⟩) (fun v H' g => hq v H' fun p np => hQ _ _ (g p np))⟩

abbrev s_right : Stmt := topS 35
theorem sc_right : FnScope ["m", "size_so", "rays", "whole", "told"] ["m", "size_so"] (defScope s_right) := ⟨rfl, rfl, rfl, by decide +kernel, rfl, by decide +kernel, by decide +kernel⟩
/-- all but m and the tables of lambdas is kept -/
def ExtB (m : Addr) (H H' : Hp) : Prop := ∀ b o, b ≠ m → H b = some o → (∀ ps, o ≠ .tbl ps) → H' b = some o
theorem ExtB.refl (m : Addr) (H : Hp) : ExtB m H H := fun _ _ _ h _ => h
theorem ExtB.trans {m : Addr} {H H1 H2 : Hp} (a : ExtB m H H1) (b : ExtB m H1 H2) : ExtB m H H2 := fun c o n h t => b c o n (a c o n h t) t
theorem ExtB.of {m : Addr} {H H1 : Hp} (a : SameBut m H H1) : ExtB m H H1 := fun c o n h _ => a c o n h
theorem ExtB.ext {m : Addr} {H H1 : Hp} (a : LamX.ExtN H H1) : ExtB m H H1 := fun c o _ h t => a c o h t
theorem tp_ext {H H' : Hp} {a : Addr} {xs : List V} (h : Tp H a xs) (e : LamX.ExtN H H') : Tp H' a xs := e _ _ h fun ps z => by cases z
theorem TabR.ext {H H' : Hp} {a : Addr} {B : List (List Int)} {n : Nat} (h : TabR H a B n) (e : LamX.ExtN H H') : TabR H' a B n := by
  obtain ⟨ps, h1, h2⟩ := h
  exact ⟨ps, tp_ext h1 e, h2.1, fun i p r a b => ⟨⟨tp_ext (h2.2 i p r a b).1.1 e, (h2.2 i p r a b).1.2⟩, (h2.2 i p r a b).2⟩⟩
theorem ext_putN {H0 H1 H2 : Hp} {L : Addr} {o : HO} (e1 : LamX.ExtN H0 H1) (n : H1 L = none) (e2 : LamX.ExtN H1 H2) : LamX.ExtN H0 (upd H2 L o) := fun b ob h nt => by
  have h1 := e1 b ob h nt
  rw [upd_ne (ne_of_none h1 n)]
  exact e2 b ob h1 nt
theorem tabs_putL {T : List (Addr × Str)} {H : Hp} {L : Addr} {l : List V} {o : HO} (hT : LamX.Tabs T H) (g : H L = some (.lst l)) : LamX.Tabs T (upd H L o) := fun p hp => by
  obtain ⟨ps, h1, h2, h3⟩ := hT p hp
  refine ⟨ps, ?_, h2, fun pos cv hc => ?_⟩
  · rw [upd_ne (ne_of h1 g (by intro z; cases z))]
    exact h1
  obtain ⟨c, e1, e2⟩ := h3 pos cv hc
  refine ⟨c, e1, ?_⟩
  rw [upd_ne (ne_of e2 g (by intro z; unfold LamX.CodeO at z; cases z))]
  exact e2
theorem near_call {a : Addr} {B : List (List Int)} {H : Hp} {Q : VK} {E : XK} (hT : TabR H a B B.length) (h6 : B.length ≤ 6) (d0 : det B.length (mL B) ≠ 0) (zB : ∀ r ∈ B, ∀ x ∈ r, SmZ 40 x)
    (k : ∀ v H', Same H H' → ((v = .non ∧ (det B.length (mL B)).natAbs = 1) ∨ ∃ p ns, v = .ref p ∧ Tp H' p ((ns : List Int).map V.int) ∧ (det B.length (mL B)).natAbs ≠ 1 ∧ ns.length = B.length ∧ (∀ x ∈ ns, SmZ 50 x) ∧ nearB B ns = true) → Q v H') : spNear [.ref a] H Q E :=
  ⟨a, B, rfl, hT, h6, d0, zB, fun z H' s => k _ _ s (.inl ⟨rfl, none_one d0 z⟩), fun i r H' hi nz s g => k _ _ s (.inr ⟨r, toldI B i, rfl, g, (fun h => Bool.false_ne_true ((one_none h).symm.trans nz)), toldI_len B i, told_sm h6 zB d0, told_near d0 nz⟩)⟩
def spRight (T : List (Addr × Str)) : Sp := fun vs H Q _ => ∃ (m c : Addr) (q n : Nat), vs = [.ref m, .int n] ∧ MOk H m c q ∧ q ≤ 3000 ∧ 1 ≤ n ∧ n ≤ 6 ∧ LamX.Tabs T H ∧ ∀ H', ExtB m H H' → LamX.Tabs T H' → MOk H' m c (q + 250) → Q (.bl true) H'
section
variable {P : Program} {w : World} {K : PySem.W.Frag} {mg : Str → Option Value} {base : Heap}
theorem ok_right {f c2 P2 gH CT CF CS : Addr} {T : List (Addr × Str)} {oc kV doc pm ct : Value} {od an : Option Addr} {osl : Array (Option Value)}
    (lk : K.lookup f = some ⟨oc, od, .func (PySem.W.fnOf "_law_right" "_law_right" (defArgs s_right) (defBody s_right) (defScope s_right) .none kV doc pm an (.ref c2) ct), osl⟩) (hcd : PySem.W.codeIn K (.ref c2) "_law_right" = true)
    (TB : LamX.TabB base mg c2 P2) (hT : (P2, ("_law_right.<locals>.<lambda>" : Str)) ∈ T) (hu : ∀ p ∈ T, p.1 = P2 → p.2 = "_law_right.<locals>.<lambda>") (HF : HeardF K mg gH) (X : Exs K mg CT CF CS)
    (C__law_rays : Cal P w K mg base 4 "_law_rays" ["m", "size_so"] spRays) (C__law_det : Cal P w K mg base 8 "_law_det" ["table"] (spLd 7)) (C__law_like : CalG P w K mg base 1 "_law_like" ["got", "due"] (spLike K)) (C_near_row : Cal P w K mg base 5 "near_row" ["rays"] spNear) (C_index_of : Cal P w K mg base 4 "index_of" ["rays"] spIndex) (C__law_is_near : Cal P w K mg base 9 "_law_is_near" ["rays", "value_so"] spLisNear) (C__law_values_right : CalG P w K mg base 10 "_law_values_right" ["m", "rays", "told"] spValues)
    (X1 : CalX P w K mg base 4 "index_of" ["rays"] (spIndexX CF)) (X2 : CalX P w K mg base 5 "near_row" ["rays"] (spIndexX CF)) (X3 : CalX P w K mg base 5 "is_near_row" ["rays", "value"] (spIsNearX CF))
    (m_isinstance : mg "isinstance" = none) (m_ValueError : mg "ValueError" = none) (m_abs : mg "abs" = none) :
    FnG P w K mg base 11 f (PySem.W.fnOf "_law_right" "_law_right" (defArgs s_right) (defBody s_right) (defScope s_right) .none kV doc pm an (.ref c2) ct) ["m", "size_so"] (spRight T) := by
  have sc := sc_right
  refine fnG_of lk hcd sc (fun vs H Q E h => ?_) (fun A outer s H vs Q E hG0 hr h => ?_)
  · obtain ⟨m, c, q, n, rfl, _⟩ := h
    rfl
  · obtain ⟨m, c, q, n, rfl, hM, hq, h1, hn, hTab, k⟩ := h
    have hG : Quiet (cxOf CX0 P w K mg base ["m", "size_so", "rays", "whole", "told"] "_law_right" (defScope s_right) f (.ref c2) A outer s H E).nox.A := hG0.deeper _
    obtain ⟨gH1, gH2, ocH, kVH, docH, pmH, cdvH, ctH, odH, anH, oslH, lkH, hcH, bH⟩ := HF
    obtain ⟨fO1, fdO1, FO1, gO1, kO1, bO1⟩ := X1
    obtain ⟨fO2, fdO2, FO2, gO2, kO2, bO2⟩ := X2
    obtain ⟨fO3, fdO3, FO3, gO3, kO3, bO3⟩ := X3
    refine ⟨_, (pss_cons (ps_set (i := 2) sc.nd rfl (Or.inr rfl) (call_ C__law_rays (hr.mono (by decide)) (by rfl) (pa_cons (pv 0) (pa_cons (pv 1) pa_nil))))
    (pss_cons (ps_set (i := 3) sc.nd rfl (Or.inl rfl) (pe_callB call_abs (by rfl) m_abs (by decide +kernel) (pa_cons (call_ C__law_det (hr.mono (by decide)) (by rfl) (pa_cons (pv 2) pa_nil)) pa_nil)))
    (pss_cons (ps_if (pt_cmpR op_eq (pv 3) pe_int (nomark _))
      (pss_cons (ps_set (i := 4) sc.nd rfl (Or.inl rfl) (pe_lst (pa_cons (LamX.pe_lamcall (T := T) (k := 6) (TT := THeard CF) (t := fun E => tCall (spIndexX CF) [] E (tCons (tVar 2) tNil)) rfl gH1 gH2 lkH hcH bH sc_heard rfl (Or.inl rfl) (heard_gives X m_isinstance m_ValueError) TB rfl hT hu (hr.mono (by decide)) (LamX.lamS_by (sc := defScope s_right) (by decide +kernel)) rfl (fun _ _ _ _ _ => rfl)
      (fun A' outer' s' H' E' f' c' hr' => pe_call FO1 (hr'.mono (by decide)) (by rfl) gO1 kO1 bO1 .nil (passes_call (takes_of rfl rfl rfl rfl) (fun _ _ _ _ z => z)) (pa_cons (pv 2) pa_nil))) pa_nil)))
    (pss_cons (ps_expr (pe_bm PySem.F.plainAttrs_list PySem.F.slot_list_append PySem.F.type_list_append mt_append (pv 4) (pa_cons (LamX.pe_lamcall (T := T) (k := 6) (TT := THeard CF) (t := fun E => tCall (spIndexX CF) [] E (tCons (tVar 2) tNil)) rfl gH1 gH2 lkH hcH bH sc_heard rfl (Or.inl rfl) (heard_gives X m_isinstance m_ValueError) TB rfl hT hu (hr.mono (by decide)) (LamX.lamS_by (sc := defScope s_right) (by decide +kernel)) rfl (fun _ _ _ _ _ => rfl)
      (fun A' outer' s' H' E' f' c' hr' => pe_call FO2 (hr'.mono (by decide)) (by rfl) gO2 kO2 bO2 .nil (passes_call (takes_of rfl rfl rfl rfl) (fun _ _ _ _ z => z)) (pa_cons (pv 2) pa_nil))) pa_nil)))
    (pss_cons (ps_expr (pe_bm PySem.F.plainAttrs_list PySem.F.slot_list_append PySem.F.type_list_append mt_append (pv 4) (pa_cons (LamX.pe_lamcall (T := T) (k := 6) (TT := THeard CF) (t := fun E => tCall (spIsNearX CF) [] E (tCons (tVar 2) (tCons (tC .non) tNil))) rfl gH1 gH2 lkH hcH bH sc_heard rfl (Or.inl rfl) (heard_gives X m_isinstance m_ValueError) TB rfl hT hu (hr.mono (by decide)) (LamX.lamS_by (sc := defScope s_right) (by decide +kernel)) rfl (fun _ _ _ _ _ => rfl)
      (fun A' outer' s' H' E' f' c' hr' => pe_call FO3 (hr'.mono (by decide)) (by rfl) gO3 kO3 bO3 .nil (passes_call (takes_of rfl rfl rfl rfl) (fun _ _ _ _ z => z)) (pa_cons (pv 2) (pa_cons pe_non pa_nil)))) pa_nil)))
    (pss_one (ps_ret (pe_cmpR (op_eqD hr.units) (pv 4) (pe_op op_rep (pe_lst (pa_cons pe_str pa_nil)) pe_int) (nomark _)))))))
      pss_nil)
    (pss_cons (ps_set (i := 4) sc.nd rfl (Or.inl rfl) (call_ C_near_row (hr.mono (by decide)) (by rfl) (pa_cons (pv 2) pa_nil)))
    (pss_cons (ps_if (PW.pt (pw_or (pt_not (pt_val (callG hG C__law_like (hr.mono (by decide)) (by rfl) (pa_cons (call_ C_index_of (hr.mono (by decide)) (by rfl) (pa_cons (pv 2) pa_nil)) (pa_cons (pv 3) pa_nil))))) (pw_or1 (pt_cmpR op_ne (pe_cmpR op_isN (pv 4) pe_non (nomark _)) (pe_cmpR op_eq (pv 3) pe_int (nomark _)) (nomark _)))))
      (pss_one (ps_ret pe_bl))
      pss_nil)
    (pss_cons (ps_if (PW.pt (pw_and (pt_cmpR op_notN (pv 4) pe_non (nomark _)) (pw_and1 (pt_not (pt_val (call_ C__law_is_near (hr.mono (by decide)) (by rfl) (pa_cons (pv 2) (pa_cons (pv 4) pa_nil))))))))
      (pss_one (ps_ret pe_bl))
      pss_nil)
    (pss_one (ps_ret (callG hG C__law_values_right (hr.mono (by decide)) (by rfl) (pa_cons (pv 0) (pa_cons (pv 2) (pa_cons (pv 4) pa_nil)))))))))))), ?_⟩
    refine ⟨.ref m, rfl, .int n, rfl, m, c, q, n, rfl, hM, hq, h1, hn, fun H1 a B b1 M1 TB1 lB zB => ?_⟩
    have TBl : TabR H1 a B B.length := by rw [lB]; exact TB1
    have h6 : B.length ≤ 6 := by omega
    obtain ⟨kv0, hm0⟩ := hM.m_some
    have tab1 := tabs_but hTab hm0 b1
    refine ⟨.ref a, rfl, a, B, rfl, TBl, by omega, fun H2 s2 => ⟨_, rfl, ?_⟩⟩
    rw [show (if det B.length (mL B) < 0 then -det B.length (mL B) else det B.length (mL B)) = ((det B.length (mL B)).natAbs : Int) by split <;> omega]
    have T2 := TBl.same s2
    have tab2 := tab1.ext s2
    have M2 := M1.same s2
    have eB2 : ExtB m H H2 := (ExtB.of b1).trans (ExtB.of (SameBut.of s2))
    have dsm := det_sm40 h6 zB
    refine gname_ ?_
    try dsimp only
    refine seq_ ?_
    refine ⟨.int _, rfl, rfl, _, rfl, ite2 (fun h => ?_) (fun h => ?_)⟩
    · have d0 : det B.length (mL B) = 0 := by
        have := V.int.inj (of_decide_eq_true h)
        omega
      refine heard_read tab2 (fun x H' => x = .str "singular" ∧ LamX.ExtN H2 H' ∧ LamX.Tabs T H') ?_ ?_
      rotate_left
      · intro H10 E' Q' e10 T10 hE hQ
        exact ⟨.ref a, rfl, a, B, rfl, T2.ext e10, h6, d0, fun H' s' => hE H' s' fun e ne => ⟨rfl, ext_same (ext_same e10 s') (same_new ne), (T10.ext s').ext (same_new ne)⟩⟩
      rintro x H3 ⟨rfl, e3, tab3⟩
      refine ⟨by show 1 ≤ sizeLine; decide, fun L nL => ?_⟩
      have s4 : Same H3 (upd H3 L (.lst [.str "singular"])) := same_new nL
      have g4 : upd H3 L (.lst [.str "singular"]) L = some (.lst [.str "singular"]) := upd_same
      generalize upd H3 L (.lst [.str "singular"]) = H4 at s4 g4 ⊢
      have e24 := ext_same e3 s4
      have tab4 := tab3.ext s4
      have nt : ∀ (l : List V) ps, HO.lst l ≠ .tbl ps := fun l ps z => by cases z
      refine gname_ ?_
      try dsimp only
      refine seq_ ?_
      refine ⟨.ref L, rfl, .inl ⟨rfl, _, SqL.of g4⟩, ?_⟩
      refine heard_read tab4 (fun x H' => x = .str "singular" ∧ LamX.ExtN H4 H' ∧ LamX.Tabs T H') ?_ ?_
      rotate_left
      · intro H10 E' Q' e10 T10 hE hQ
        exact ⟨.ref a, rfl, a, B, rfl, (T2.ext e24).ext e10, h6, d0, fun H' s' => hE H' s' fun e ne => ⟨rfl, ext_same (ext_same e10 s') (same_new ne), (T10.ext s').ext (same_new ne)⟩⟩
      rintro x H5 ⟨rfl, e5, tab5⟩
      have g5 := e5 _ _ g4 (nt _)
      refine ⟨L, _, _, rfl, rfl, g5, by decide, ?_⟩
      have e26 : LamX.ExtN H2 (upd H5 L (.lst ([.str "singular"] ++ [.str "singular"]))) := ext_putN e3 nL ((LamX.ExtN.of s4).trans e5)
      have e37 : LamX.ExtN H3 (upd H5 L (.lst ([.str "singular"] ++ [.str "singular"]))) := ext_putN (LamX.ExtN.refl H3) nL ((LamX.ExtN.of s4).trans e5)
      have tab6 := tabs_putL (o := .lst ([.str "singular"] ++ [.str "singular"])) tab5 g5
      have g6 : upd H5 L (.lst ([.str "singular"] ++ [.str "singular"])) L = some (.lst ([.str "singular"] ++ [.str "singular"])) := upd_same
      generalize upd H5 L (.lst ([.str "singular"] ++ [.str "singular"])) = H6 at e26 e37 tab6 g6 ⊢
      try dsimp only
      refine seq_ ?_
      refine ⟨.ref L, rfl, .inl ⟨rfl, _, SqL.of g6⟩, ?_⟩
      refine heard_read tab6 (fun x H' => x = .str "singular" ∧ LamX.ExtN H6 H' ∧ LamX.Tabs T H') ?_ ?_
      rotate_left
      · intro H10 E' Q' e10 T10 hE hQ
        exact ⟨.ref a, rfl, a, .non, B, rfl, (T2.ext e26).ext e10, h6, d0, fun H' s' => hE H' s' fun e ne => ⟨rfl, ext_same (ext_same e10 s') (same_new ne), (T10.ext s').ext (same_new ne)⟩⟩
      rintro x H7 ⟨rfl, e7, tab7⟩
      have g7 := e7 _ _ g6 (nt _)
      refine ⟨L, _, _, rfl, rfl, g7, by decide, ?_⟩
      have e28 : LamX.ExtN H2 (upd H7 L (.lst (([.str "singular"] ++ [.str "singular"]) ++ [.str "singular"]))) := ext_putN e3 nL (e37.trans e7)
      have tab8 := tabs_putL (o := .lst (([.str "singular"] ++ [.str "singular"]) ++ [.str "singular"])) tab7 g7
      have g8 : upd H7 L (.lst (([.str "singular"] ++ [.str "singular"]) ++ [.str "singular"])) L = some (.lst (([.str "singular"] ++ [.str "singular"]) ++ [.str "singular"])) := upd_same
      generalize upd H7 L (.lst (([.str "singular"] ++ [.str "singular"]) ++ [.str "singular"])) = H8 at e28 tab8 g8 ⊢
      try dsimp only
      refine ⟨.ref L, rfl, by show 1 ≤ sizeLine; decide, fun K1 nK1 => ?_⟩
      have s9 : Same H8 (upd H8 K1 (.lst [.str "singular"])) := same_new nK1
      have g9 : upd H8 K1 (.lst [.str "singular"]) K1 = some (.lst [.str "singular"]) := upd_same
      generalize upd H8 K1 (.lst [.str "singular"]) = H9 at s9 g9 ⊢
      refine ⟨K1, 3, _, rfl, rfl, g9, by decide, by decide, by decide, fun K2 nK2 => ?_⟩
      have s10 : Same H9 (upd H9 K2 (.lst (List.replicate (3 : Int).toNat [V.str "singular"]).flatten)) := same_new nK2
      have g10 : upd H9 K2 (.lst (List.replicate (3 : Int).toNat [V.str "singular"]).flatten) K2 = some (.lst [.str "singular", .str "singular", .str "singular"]) := upd_same
      generalize upd H9 K2 (.lst (List.replicate (3 : Int).toNat [V.str "singular"]).flatten) = H10 at s10 g10 ⊢
      have s810 := s9.trans s10
      refine ⟨.list [.str "singular", .str "singular", .str "singular"], .list [.str "singular", .str "singular", .str "singular"], .lst (SqL.of (s810 _ _ g8)) (.cons (.str _) (.cons (.str _) (.cons (.str _) .nil))), .lst (SqL.of g10) (.cons (.str _) (.cons (.str _) (.cons (.str _) .nil))), by decide +kernel, by decide +kernel, ?_⟩
      rw [show PyData.eqv (.list [.str "singular", .str "singular", .str "singular"]) (.list [.str "singular", .str "singular", .str "singular"]) = true by decide +kernel]
      exact k _ (eB2.trans ((ExtB.ext e28).trans (ExtB.of (SameBut.of s810)))) (tab8.ext s810) (((M2.ext e28).same s810).mono (by omega))
    · have d0 : det B.length (mL B) ≠ 0 := fun z => h (by rw [z]; rfl)
      refine ⟨.ref a, rfl, ?_⟩
      try unfold tNil
      try dsimp only
      refine near_call T2 h6 d0 zB fun v H3 s3 hv => ?_
      have T3 := T2.same s3
      refine gname_ ?_
      try dsimp only
      refine seq_ ?_
      refine ⟨.ref a, rfl, a, B, rfl, T3, h6, d0, fun H4 s4 => ?_⟩
      obtain ⟨D, hD⟩ : ∃ D, D = ((det B.length (mL B)).natAbs : Int) := ⟨_, rfl⟩
      rw [← hD]
      refine ⟨.int D, rfl, .int D, .int D, .int D, rfl, .int _, .int _, FitN.int ?_, _, rfl, iteF ?_⟩
      · rw [hD, Int.natAbs_natCast]
        exact Nat.lt_of_le_of_lt dsm (Nat.pow_lt_pow_right (by decide) (by decide))
      have T4 := T3.same s4
      have s24 := s3.trans s4
      have M4 := M2.same s24
      have tab4 := tab2.ext s24
      have eB4 := eB2.trans (ExtB.of (SameBut.of s24))
      rcases hv with ⟨rfl, D1⟩ | ⟨p, ns, rfl, g, Dn, ln, zn, nr⟩
      · refine ⟨.non, rfl, rfl, .int D, rfl, rfl, rfl, _, rfl, ?_⟩
        obtain rfl : D = 1 := by omega
        refine iteF' (by decide) ?_
        try dsimp only
        refine seq_ ?_
        refine ⟨.non, rfl, rfl, _, rfl, iteF' (by decide) ?_⟩
        refine ⟨.ref m, rfl, .ref a, rfl, .non, rfl, m, c, q + 150, a, B, .non, rfl, M4, by omega, T4, by omega, h6, d0, zB, .inl rfl, fun H5 b5 M5 => ?_⟩
        obtain ⟨kv4, hm4⟩ := M4.m_some
        exact k _ (eB4.trans (ExtB.of b5)) (tabs_but tab4 hm4 b5) (M5.mono (by omega))
      · refine ⟨.ref p, rfl, rfl, .int D, rfl, rfl, rfl, _, rfl, ?_⟩
        have e1 : decide (V.int D = V.int 1) = false := decide_eq_false fun z => by have := V.int.inj z; omega
        have e2 : decide (V.ref p = V.non) = false := decide_eq_false fun z => by cases z
        rw [e1, e2]
        refine iteF' (by decide) ?_
        try dsimp only
        refine seq_ ?_
        refine ⟨.ref p, rfl, rfl, _, rfl, ?_⟩
        rw [e2]
        have g4 := g.same s4
        refine iteT' (by decide) ?_
        refine ⟨.ref a, rfl, .ref p, rfl, a, .ref p, B, rfl, T4, h6, .inr (.inr ⟨p, ns, rfl, ⟨g4, by omega, fun x hx => smz_mono (zn x hx) (by decide)⟩, ln, fun H5 s5 => ?_⟩)⟩
        rw [nr]
        refine ⟨_, rfl, iteF ?_⟩
        refine ⟨.ref m, rfl, .ref a, rfl, .ref p, rfl, m, c, q + 150, a, B, .ref p, rfl, M4.same s5, by omega, T4.same s5, by omega, h6, d0, zB, .inr ⟨p, ns, rfl, g4.same s5, ln, zn⟩, fun H6 b6 M6 => ?_⟩
        obtain ⟨kv5, hm5⟩ := (M4.same s5).m_some
        exact k _ ((eB4.trans (ExtB.of (SameBut.of s5))).trans (ExtB.of b6)) (tabs_but (tab4.ext s5) hm5 b6) (M6.mono (by omega))
end
end K16
namespace K16
open PySem PySem.Spec PyProof.Rows L2 Vk Vd
abbrev s_law : Stmt := topS 36
theorem sc_law : FnScope ["script", "turn", "told", "m", "size_so"] ["script"] (defScope s_law) := ⟨rfl, rfl, rfl, by decide +kernel, rfl, by decide +kernel, by decide +kernel⟩
def spLaw (T : List (Addr × Str)) (K : PySem.W.Frag) : Sp := fun vs H Q _ => ∃ (a : Addr) (ns : List Int), vs = [.ref a] ∧ SqL K H a (ns.map V.int) ∧ ns.length ≤ 63 ∧ LamX.Tabs T H ∧ ∀ H', Q (.bl true) H'
theorem ext_B {m : Addr} {H H1 H2 : Hp} (nm : H m = none) (s : Same H H1) (b : ExtB m H1 H2) : LamX.ExtN H H2 := fun a o h n => b a o (ne_of_none h nm) (s a o h) n
section
variable {P : Program} {w : World} {K : PySem.W.Frag} {mg : Str → Option Value} {base : Heap}
theorem ok_ldetB {f : Addr} {fd : FuncData} (F : Fun K "_law_det" "_law_det" s_ldet f fd) : FnOk P w K mg base CX0 1 f fd ["table"] (spLd 0) := by
  refine F.ok sc_ldet (fun vs H Q E h => ?_) (fun cdv A outer s H vs Q E hr h => ?_)
  · obtain ⟨a, B, rfl, _⟩ := h
    rfl
  · obtain ⟨a, B, rfl, _, l, _⟩ := h
    exact absurd l (Nat.not_lt_zero _)
theorem ok_law {f : Addr} {fd : FuncData} {T : List (Addr × Str)} (F : Fun K "law" "law" s_law f fd) (C__law_begun : Cal P w K mg base 1 "_law_begun" ["script", "k_so"] (spBegun K)) (C__law_draw : Cal P w K mg base 1 "_law_draw" ["m", "bound"] spDraw) (C__law_right : CalG P w K mg base 11 "_law_right" ["m", "size_so"] (spRight T)) (C_near_row : Cal P w K mg base 5 "near_row" ["rays"] spNear) (C_index_of : Cal P w K mg base 4 "index_of" ["rays"] spIndex) (C_is_near_row : Cal P w K mg base 5 "is_near_row" ["rays", "value"] spIsNear) (C__law_like : CalG P w K mg base 1 "_law_like" ["got", "due"] (spLike K))
    (m_range : mg "range" = none) : FnG P w K mg base 12 f fd ["script"] (spLaw T K) := by
  have sc := sc_law
  refine okG F sc (fun vs H Q E h => ?_) (fun cdv A outer s H vs Q E hG0 hr h => ?_)
  · obtain ⟨a, ns, rfl, _⟩ := h
    rfl
  · obtain ⟨a0, ns, rfl, hS, hl, hTab, k⟩ := h
    have hG := hG0.deeper (envOfC "law" (defScope s_law) s.heap.objs.size f cdv)
    refine ⟨_, (pss_cons (ps_for PassesOwn.never rfl (pi_range1 rfl m_range (pa_cons pe_int pa_nil)) (pg_name (i := 1) sc.nd rfl (Or.inl rfl))
      (pss_cons (ps_set (i := 3) sc.nd rfl (Or.inl rfl) (call_ C__law_begun (hr.mono (by decide)) (by rfl) (pa_cons (pv 0) (pa_cons (pv 1) pa_nil))))
    (pss_cons (ps_for PassesOwn.never rfl (pi_list (pe_lst (pa_cons pe_int (pa_cons pe_int (pa_cons pe_int (pa_cons pe_int pa_nil)))))) (pg_name (i := 4) sc.nd rfl (Or.inl rfl))
      (pss_one (ps_if (pt_not (pt_val (callG hG C__law_right (hr.mono (by decide)) (by rfl) (pa_cons (pv 3) (pa_cons (pv 4) pa_nil)))))
      (pss_one (ps_ret pe_bl))
      pss_nil)))
    (pss_one (ps_if (PW.pt (pw_and (pt_cmpR op_eq (call_ C__law_draw (hr.mono (by decide)) (by rfl) (pa_cons (pv 3) (pa_cons pe_int pa_nil))) pe_int (nomark _)) (pw_and1 (pt_not (pt_val (callG hG C__law_right (hr.mono (by decide)) (by rfl) (pa_cons (pv 3) (pa_cons (pe_op op_add pe_int (call_ C__law_draw (hr.mono (by decide)) (by rfl) (pa_cons (pv 3) (pa_cons pe_int pa_nil)))) pa_nil))))))))
      (pss_one (ps_ret pe_bl))
      pss_nil)))))
    (pss_cons (ps_set (i := 2) sc.nd rfl (Or.inl rfl) (pe_lst (pa_cons (call_ C_near_row (hr.mono (by decide)) (by rfl) (pa_cons (pe_tup (pa_cons (pe_tup (pa_cons pe_int pa_nil)) pa_nil)) pa_nil)) (pa_cons (call_ C_near_row (hr.mono (by decide)) (by rfl) (pa_cons (pe_tup (pa_cons (pe_tup (pa_cons (pe_un un_neg pe_int) pa_nil)) pa_nil)) pa_nil)) (pa_cons (call_ C_index_of (hr.mono (by decide)) (by rfl) (pa_cons (pe_tup (pa_cons (pe_tup (pa_cons (pe_un un_neg pe_int) pa_nil)) pa_nil)) pa_nil)) (pa_cons (call_ C_is_near_row (hr.mono (by decide)) (by rfl) (pa_cons (pe_tup (pa_cons (pe_tup (pa_cons pe_int pa_nil)) pa_nil)) (pa_cons (pe_tup (pa_cons pe_int pa_nil)) pa_nil))) pa_nil))))))
    (pss_one (ps_ret (callG hG C__law_like (hr.mono (by decide)) (by rfl) (pa_cons (pv 2) (pa_cons (pe_lst (pa_cons pe_non (pa_cons pe_non (pa_cons pe_int (pa_cons pe_bl pa_nil))))) pa_nil))))))), ?_⟩
    refine ⟨3, rfl, by decide, by decide, for_range (lo := 0) (n := 3) (fun i σ H' => (∃ y1 y2 y3 y4, σ = [some (.ref a0), y1, y2, y3, y4]) ∧ SqL K H' a0 (ns.map V.int) ∧ LamX.Tabs T H') ⟨⟨none, none, none, none, rfl⟩, hS, hTab⟩ ?_ ?_⟩
    · rintro i σ H0 hi ⟨⟨y1, y2, y3, y4, rfl⟩, hS0, hT0⟩
      refine ⟨.ref a0, rfl, .int (0 + i), rfl, a0, 0 + i, ns, rfl, hS0, hl, by omega, by omega, fun H1 m cc s1 nm M1 => ?_⟩
      refine ⟨by show 4 ≤ sizeLine; decide, fun L nL => ?_⟩
      have s5 : Same H1 (upd H1 L (.lst [.int 1, .int 2, .int 3, .int 4])) := same_new nL
      have g5 : upd H1 L (.lst [.int 1, .int 2, .int 3, .int 4]) L = some (.lst [.int 1, .int 2, .int 3, .int 4]) := upd_same
      obtain ⟨kv1, hm1⟩ := M1.m_some
      have Lm : L ≠ m := Ne.symm (ne_of_none hm1 nL)
      generalize upd H1 L (.lst [.int 1, .int 2, .int 3, .int 4]) = H5 at s5 g5 ⊢
      have M5 := M1.same s5
      have b15 : SameBut m H1 H5 := SameBut.of s5
      have T5 := tabs_but (hT0.ext s1) hm1 b15
      refine ⟨L, rfl, ⟨_, SqL.of g5⟩, ?_⟩
      have gLn : ∀ ps, (HO.lst [V.int 1, .int 2, .int 3, .int 4]) ≠ .tbl ps := fun ps z => by cases z
      refine for_it (walk_list (K := K) (a := L) (xs := [.int 1, .int 2, .int 3, .int 4])) (fun j σ H' => (∃ y2 y4, σ = [some (.ref a0), some (.int (0 + i)), y2, some (.ref m), y4]) ∧ ExtB m H5 H' ∧ LamX.Tabs T H' ∧ MOk H' m cc (250 * j)) ⟨⟨_, _, rfl⟩, ExtB.refl _ _, T5, M5⟩ (fun j σ H' _ p => SqL.of (p.2.1 _ _ Lm g5 gLn)) ?_ ?_
      · rintro j x σ H6 H6' hj ⟨⟨y2, y4, rfl⟩, b6, T6, M6⟩ ⟨rfl, hx⟩
        have hj : j < 4 := hj
        obtain ⟨n, n1, hn, rfl⟩ : ∃ n : Nat, 1 ≤ n ∧ n ≤ 6 ∧ x = .int n := by
          match j, hj, hx with
          | 0, _, hx => exact ⟨1, by decide, by decide, (Option.some.inj hx).symm⟩
          | 1, _, hx => exact ⟨2, by decide, by decide, (Option.some.inj hx).symm⟩
          | 2, _, hx => exact ⟨3, by decide, by decide, (Option.some.inj hx).symm⟩
          | 3, _, hx => exact ⟨4, by decide, by decide, (Option.some.inj hx).symm⟩
        exact ⟨.ref m, rfl, .int n, rfl, m, cc, _, n, rfl, M6, by omega, n1, hn, T6, fun H7 b7 T7 M7 => ⟨_, rfl, iteF ⟨⟨_, _, rfl⟩, b6.trans b7, T7, M7.mono (by omega)⟩⟩⟩
      · rintro σ H6 ⟨⟨y2, y4, rfl⟩, b6, T6, M6⟩
        have M6 : MOk H6 m cc 1000 := M6
        obtain ⟨kv6, hm6⟩ := M6.m_some
        refine ⟨.ref m, rfl, m, cc, 1000, 3, rfl, M6, by decide, by decide, by decide, fun H7 v b7 M7 v0 v1 => ⟨rfl, _, rfl, ite2 (fun _ => ?_) (fun _ => ?_)⟩⟩
        · refine ⟨.ref m, rfl, .ref m, rfl, m, cc, _, 2, rfl, M7, by decide, by decide, by decide, fun H8 u b8 M8 u0 u1 => ⟨5, u, rfl, rfl, ?_⟩⟩
          obtain ⟨n, hn⟩ : ∃ n : Nat, 5 + u = n := ⟨(5 + u).toNat, by omega⟩
          obtain ⟨kv7, hm7⟩ := M7.m_some
          refine ⟨m, cc, _, n, by show [V.ref m, V.int (5 + u)] = [V.ref m, V.int (n : Int)]; rw [hn], M8, by decide, by omega, by omega, tabs_but (tabs_but T6 hm6 b7) hm7 b8, fun H9 b9 T9 M9 => ⟨_, rfl, iteF ?_⟩⟩
          exact ⟨⟨_, _, _, _, rfl⟩, sql_ext hS0 (ext_B nm s1 ((ExtB.of b15).trans ((b6.trans ((ExtB.of b7).trans (ExtB.of b8))).trans b9))), T9⟩
        · exact ⟨⟨_, _, _, _, rfl⟩, sql_ext hS0 (ext_B nm s1 ((ExtB.of b15).trans (b6.trans (ExtB.of b7)))), tabs_but T6 hm6 b7⟩
    · rintro σ H0 ⟨⟨y1, y2, y3, y4, rfl⟩, hS0, hT0⟩
      clear hS hS0
      have T1x1 : ∀ {H : Hp} {a b : Addr} {x : Int}, H a = some (.tup [.int x]) → H b = some (.tup [.ref a]) → SmZ 300 x → TabR H b [[x]] 1 := fun h1 h2 z => ⟨[_], h2, rfl, fun i p r e1 e2 => by
        match i, e1, e2 with
        | 0, e1, e2 =>
          obtain rfl := Option.some.inj e1
          obtain rfl := Option.some.inj e2
          exact ⟨⟨h1, (show 1 ≤ 100 by decide), fun y hy => by rw [List.mem_singleton.mp hy]; exact z⟩, rfl⟩
        | i + 1, e1, e2 => cases e1⟩
      have row1 : ∀ {H : Hp} {a : Addr} {x : Int}, H a = some (.tup [.int x]) → SmZ 300 x → Row H a [x] := fun h1 z => ⟨h1, (show 1 ≤ 100 by decide), fun y hy => by rw [List.mem_singleton.mp hy]; exact z⟩
      refine ⟨by show 1 ≤ sizeLine; decide, fun a1 na1 => ?_⟩
      have sa1 : Same H0 (upd H0 a1 (.tup [.int 1])) := same_new na1
      have ga1 : upd H0 a1 (.tup [.int 1]) a1 = some (.tup [.int 1]) := upd_same
      generalize upd H0 a1 (.tup [.int 1]) = H1 at sa1 ga1 ⊢
      refine ⟨by show 1 ≤ sizeLine; decide, fun a2 na2 => ?_⟩
      have sa2 : Same H1 (upd H1 a2 (.tup [.ref a1])) := same_new na2
      have ga2 : upd H1 a2 (.tup [.ref a1]) a2 = some (.tup [.ref a1]) := upd_same
      generalize upd H1 a2 (.tup [.ref a1]) = H2 at sa2 ga2 ⊢
      try unfold tNil
      try dsimp only
      refine near_call (B := [[1]]) (T1x1 (sa2 _ _ ga1) ga2 (by decide)) (by decide) (by decide) (by decide) fun v1 H3 s3 hv1 => ?_
      obtain rfl : v1 = .non := by
        rcases hv1 with ⟨e, _⟩ | ⟨_, _, _, _, h, _⟩
        · exact e
        · exact absurd (by decide) h
      refine ⟨1, rfl, by show 1 ≤ sizeLine; decide, fun b1 nb1 => ?_⟩
      have sb1 : Same H3 (upd H3 b1 (.tup [.int (-1)])) := same_new nb1
      have gb1 : upd H3 b1 (.tup [.int (-1)]) b1 = some (.tup [.int (-1)]) := upd_same
      generalize upd H3 b1 (.tup [.int (-1)]) = H4 at sb1 gb1 ⊢
      refine ⟨by show 1 ≤ sizeLine; decide, fun b2 nb2 => ?_⟩
      have sb2 : Same H4 (upd H4 b2 (.tup [.ref b1])) := same_new nb2
      have gb2 : upd H4 b2 (.tup [.ref b1]) b2 = some (.tup [.ref b1]) := upd_same
      generalize upd H4 b2 (.tup [.ref b1]) = H5 at sb2 gb2 ⊢
      try unfold tNil
      try dsimp only
      refine near_call (B := [[-1]]) (T1x1 (sb2 _ _ gb1) gb2 (by decide)) (by decide) (by decide) (by decide) fun v2 H6 s6 hv2 => ?_
      obtain rfl : v2 = .non := by
        rcases hv2 with ⟨e, _⟩ | ⟨_, _, _, _, h, _⟩
        · exact e
        · exact absurd (by decide) h
      refine ⟨7, rfl, by show 1 ≤ sizeLine; decide, fun c1 nc1 => ?_⟩
      have sc1 : Same H6 (upd H6 c1 (.tup [.int (-7)])) := same_new nc1
      have gc1 : upd H6 c1 (.tup [.int (-7)]) c1 = some (.tup [.int (-7)]) := upd_same
      generalize upd H6 c1 (.tup [.int (-7)]) = H7 at sc1 gc1 ⊢
      refine ⟨by show 1 ≤ sizeLine; decide, fun c2 nc2 => ?_⟩
      have sc2 : Same H7 (upd H7 c2 (.tup [.ref c1])) := same_new nc2
      have gc2 : upd H7 c2 (.tup [.ref c1]) c2 = some (.tup [.ref c1]) := upd_same
      generalize upd H7 c2 (.tup [.ref c1]) = H8 at sc2 gc2 ⊢
      refine ⟨c2, [[-7]], rfl, T1x1 (sc2 _ _ gc1) gc2 (by decide), by decide, by decide, fun H9 s9 => ?_⟩
      rw [show ((det ([[-7]] : List (List Int)).length (mL [[-7]])).natAbs : Int) = 7 by decide]
      refine ⟨by show 1 ≤ sizeLine; decide, fun e1 ne1 => ?_⟩
      have se1 : Same H9 (upd H9 e1 (.tup [.int 2])) := same_new ne1
      have ge1 : upd H9 e1 (.tup [.int 2]) e1 = some (.tup [.int 2]) := upd_same
      generalize upd H9 e1 (.tup [.int 2]) = H10 at se1 ge1 ⊢
      refine ⟨by show 1 ≤ sizeLine; decide, fun e2 ne2 => ?_⟩
      have se2 : Same H10 (upd H10 e2 (.tup [.ref e1])) := same_new ne2
      have ge2 : upd H10 e2 (.tup [.ref e1]) e2 = some (.tup [.ref e1]) := upd_same
      generalize upd H10 e2 (.tup [.ref e1]) = H11 at se2 ge2 ⊢
      refine ⟨by show 1 ≤ sizeLine; decide, fun e3 ne3 => ?_⟩
      have se3 : Same H11 (upd H11 e3 (.tup [.int 1])) := same_new ne3
      have ge3 : upd H11 e3 (.tup [.int 1]) e3 = some (.tup [.int 1]) := upd_same
      generalize upd H11 e3 (.tup [.int 1]) = H12 at se3 ge3 ⊢
      refine ⟨e2, .ref e3, [[2]], rfl, (T1x1 (se2 _ _ ge1) ge2 (by decide)).same se3, by decide, by decide, .inr (.inr ⟨e3, [1], rfl, row1 ge3 (by decide), rfl, fun H13 s13 => ?_⟩)⟩
      rw [show nearB [[2]] [1] = true by decide]
      refine ⟨by show 4 ≤ sizeLine; decide, fun S nS => ?_⟩
      have s14 : Same H13 (upd H13 S (.lst [.non, .non, .int 7, .bl true])) := same_new nS
      have g14 : upd H13 S (.lst [.non, .non, .int 7, .bl true]) S = some (.lst [.non, .non, .int 7, .bl true]) := upd_same
      generalize upd H13 S (.lst [.non, .non, .int 7, .bl true]) = H14 at s14 g14 ⊢
      refine ⟨.ref S, rfl, by show 4 ≤ sizeLine; decide, fun S2 nS2 => ?_⟩
      have s15 : Same H14 (upd H14 S2 (.lst [.non, .non, .int 7, .bl true])) := same_new nS2
      have g15 : upd H14 S2 (.lst [.non, .non, .int 7, .bl true]) S2 = some (.lst [.non, .non, .int 7, .bl true]) := upd_same
      generalize upd H14 S2 (.lst [.non, .non, .int 7, .bl true]) = H15 at s15 g15 ⊢
      refine ⟨.ref S, .ref S2, .list [.none, .none, .int 7, .bool true], rfl, .lst (SqL.of (s15 _ _ g14)) (.cons .non (.cons .non (.cons (.int _) (.cons (.bl _) .nil)))), .lst (SqL.of g15) (.cons .non (.cons .non (.cons (.int _) (.cons (.bl _) .nil)))), ?_, k _⟩
      have fa : ∀ d ∈ [PyData.none, .none, .int 7, .bool true], FitN 1 9 d := fun d hd => by
        simp only [List.mem_cons, List.not_mem_nil, or_false] at hd
        rcases hd with rfl | rfl | rfl | rfl
        · exact FitN.non
        · exact FitN.non
        · exact FitN.int (by decide)
        · exact FitN.bl _
      exact FitN.mono (FitN.list (k := 1) (n := 40) (fit_all (k := 1) (a := 9) 4 _ fa (by decide))) (by decide) (by decide)
end
end K16
namespace K16
open PySem PySem.Spec PyProof.Rows L2 Vk
section
variable {P : Program} {w : World} {K : PySem.W.Frag} {mg : Str → Option Value} {base : Heap}
/-- a def of the text by its name -/
theorem cal_of {x : Str} {st : Stmt} {f : Addr} {fd : FuncData} {k : Nat} {ps : List Str} {sp : Sp} (F : Fun K x x st f fd) (g : mg x = some (.ref f)) (G : FnOk P w K mg base CX0 k f fd ps sp) (b : Binds K fd ps []) : Cal P w K mg base k x ps sp := ⟨f, fd, G, g, F.kp, b⟩
theorem calG_of {x : Str} {st : Stmt} {f : Addr} {fd : FuncData} {k : Nat} {ps : List Str} {sp : Sp} (F : Fun K x x st f fd) (g : mg x = some (.ref f)) (G : FnG P w K mg base k f fd ps sp) (b : Binds K fd ps []) : CalG P w K mg base k x ps sp := ⟨f, fd, G, g, F.kp, b⟩
theorem tab_in {x : Str} {f c P : Addr} {oc oc2 : Value} {od od2 : Option Addr} {fd : FuncData} {sl sl2 : Array (Option Value)} {vs : Array Value} (a : PySem.W.nsIn K mainGlobals x = some (some (.ref f))) (l : K.lookup f = some ⟨oc, od, .func fd, sl⟩) (hc : fd.code = .ref c) (q : K.lookup c = some ⟨oc2, od2, .fields vs, sl2⟩) (v : vs[11]? = some (.ref P)) :
    PySem.W.tabIn K x = some (c, P) := by
  unfold PySem.W.tabIn
  simp only [a, l, hc, q, v]
theorem tabs_one {P1 : Addr} {x1 : Str} {H : Hp} (h1 : H P1 = some (.tbl #[])) : LamX.Tabs [(P1, x1)] H := by
  intro p hp
  rw [List.mem_singleton] at hp
  subst hp
  exact .nil h1
theorem one_tab {P1 : Addr} {x1 : Str} : ∀ p ∈ [(P1, x1)], p.1 = P1 → p.2 = x1 := by
  intro p hp e
  rw [List.mem_singleton] at hp
  subst hp
  rfl
theorem all_mk {l : PySem.W.OpenLaw} {q : Program} {dL_right : DefRec} {h : Heap} {fa f_isn f_aren f_psum f_letter f_cleared f_swept f_det f_turned f_trow f_tcol f_parts f_index f_rest f_near f_isnear f_begun f_draw f_like f_ldet f_signed f_heard f_lisnear f_unit f_rays f_values f_right f_law CT CF CS cd_right P_right : Addr} (X : K.In h) (G : h.Ns mainGlobals mg) (hfa : mg "law" = some (.ref fa)) (TO : TabsOf q K h)
     {od_isn an_isn od_aren an_aren od_psum an_psum od_letter an_letter od_cleared an_cleared od_swept an_swept od_det an_det od_turned an_turned od_trow an_trow od_tcol an_tcol od_parts an_parts od_index an_index od_rest an_rest od_near an_near od_isnear an_isnear od_begun an_begun od_draw an_draw od_like an_like od_ldet an_ldet od_signed an_signed od_heard an_heard od_lisnear an_lisnear od_unit an_unit od_rays an_rays od_values an_values od_right an_right od_law an_law : Option Addr} {sl_isn sl_aren sl_psum sl_letter sl_cleared sl_swept sl_det sl_turned sl_trow sl_tcol sl_parts sl_index sl_rest sl_near sl_isnear sl_begun sl_draw sl_like sl_ldet sl_signed sl_heard sl_lisnear sl_unit sl_rays sl_values sl_right sl_law : Array (Option Value)}
    {odq_right : Option Addr} {slq_right : Array (Option Value)} {ocq_right : Value} {vsq_right : Array Value}
    {oc_isn kV_isn dc_isn pm_isn cd_isn ct_isn oc_aren kV_aren dc_aren pm_aren cd_aren ct_aren oc_psum kV_psum dc_psum pm_psum cd_psum ct_psum oc_letter kV_letter dc_letter pm_letter cd_letter ct_letter oc_cleared kV_cleared dc_cleared pm_cleared cd_cleared ct_cleared oc_swept kV_swept dc_swept pm_swept cd_swept ct_swept oc_det kV_det dc_det pm_det cd_det ct_det oc_turned kV_turned dc_turned pm_turned cd_turned ct_turned oc_trow kV_trow dc_trow pm_trow cd_trow ct_trow oc_tcol kV_tcol dc_tcol pm_tcol cd_tcol ct_tcol oc_parts kV_parts dc_parts pm_parts cd_parts ct_parts oc_index kV_index dc_index pm_index cd_index ct_index oc_rest kV_rest dc_rest pm_rest cd_rest ct_rest oc_near kV_near dc_near pm_near cd_near ct_near oc_isnear kV_isnear dc_isnear pm_isnear cd_isnear ct_isnear oc_begun kV_begun dc_begun pm_begun cd_begun ct_begun oc_draw kV_draw dc_draw pm_draw cd_draw ct_draw oc_like kV_like dc_like pm_like cd_like ct_like oc_ldet kV_ldet dc_ldet pm_ldet cd_ldet ct_ldet oc_signed kV_signed dc_signed pm_signed cd_signed ct_signed oc_heard kV_heard dc_heard pm_heard cd_heard ct_heard oc_lisnear kV_lisnear dc_lisnear pm_lisnear cd_lisnear ct_lisnear oc_unit kV_unit dc_unit pm_unit cd_unit ct_unit oc_rays kV_rays dc_rays pm_rays cd_rays ct_rays oc_values kV_values dc_values pm_values cd_values ct_values oc_right kV_right dc_right pm_right ct_right oc_law kV_law dc_law pm_law cd_law ct_law : Value}
    (a_CT : PySem.W.nsIn K mainGlobals "TallyError" = some (some (.ref CT)))
    (a_CF : PySem.W.nsIn K mainGlobals "Singular" = some (some (.ref CF)))
    (a_CS : PySem.W.nsIn K mainGlobals "NotFit" = some (some (.ref CS)))
    (e_ex : PySem.W.excIn K CF [.type "ValueError", .type "Exception", .type "BaseException", .type "object"] "ValueError.__new__" = true)
    (e_k : PySem.W.keepIn K (.ref CF) = true)
    (e_b : PySem.W.subIn K (.ref CF) (.type "BaseException") = some true)
    (e_t : PySem.W.typeIn K (.ref CF) = some (.type "type"))
    (x_g : PySem.W.findIn K (.ref CF) "__getattribute__" = some (some (.builtin "BaseException.__getattribute__")))
    (x_k : PySem.W.findIn K (.ref CF) "__getattr__" = some none)
    (x_d : PySem.W.hasDictIn K CF = true)
    (x_a : PySem.W.findIn K (.ref CF) "__class__" = some (some (.builtin "object.__class__")))
    (x_n : PySem.W.specialIn K (.builtin "object.__class__") "__get__" = some (some (.builtin "getset_descriptor.__get__")))
    (x_t : PySem.W.takesIn K (.builtin "object.__class__") = some true)
    (x_m : PySem.W.mroIn K CF (.type "object") = some true)
    (y_e : PySem.W.exmOne K (.ref CF) (.ref CT) = some true)
    (y_V : PySem.W.kitOne K (.ref CF) (.type "ValueError") = some true)
    (y_F : PySem.W.kitOne K (.ref CF) (.ref CF) = some true)
    (y_S : PySem.W.kitOne K (.ref CF) (.ref CS) = some false)
    (a_isn : PySem.W.nsIn K mainGlobals "is_number" = some (some (.ref f_isn)))
    (l_isn : K.lookup f_isn = some ⟨oc_isn, od_isn, .func (PySem.W.fnOf "is_number" "is_number" (defArgs s_isn) (defBody s_isn) (defScope s_isn) .none kV_isn dc_isn pm_isn an_isn (cd_isn) ct_isn), sl_isn⟩)
    (c_isn : PySem.W.codeIn K (cd_isn) "is_number" = true)
    (k_isn : PySem.W.keepIn K (.ref f_isn) = true)
    (a_aren : PySem.W.nsIn K mainGlobals "are_numbers" = some (some (.ref f_aren)))
    (l_aren : K.lookup f_aren = some ⟨oc_aren, od_aren, .func (PySem.W.fnOf "are_numbers" "are_numbers" (defArgs s_aren) (defBody s_aren) (defScope s_aren) .none kV_aren dc_aren pm_aren an_aren (cd_aren) ct_aren), sl_aren⟩)
    (c_aren : PySem.W.codeIn K (cd_aren) "are_numbers" = true)
    (k_aren : PySem.W.keepIn K (.ref f_aren) = true)
    (a_psum : PySem.W.nsIn K mainGlobals "product_sum" = some (some (.ref f_psum)))
    (l_psum : K.lookup f_psum = some ⟨oc_psum, od_psum, .func (PySem.W.fnOf "product_sum" "product_sum" (defArgs s_psum) (defBody s_psum) (defScope s_psum) .none kV_psum dc_psum pm_psum an_psum (cd_psum) ct_psum), sl_psum⟩)
    (c_psum : PySem.W.codeIn K (cd_psum) "product_sum" = true)
    (k_psum : PySem.W.keepIn K (.ref f_psum) = true)
    (a_letter : PySem.W.nsIn K mainGlobals "letter_form" = some (some (.ref f_letter)))
    (l_letter : K.lookup f_letter = some ⟨oc_letter, od_letter, .func (PySem.W.fnOf "letter_form" "letter_form" (defArgs s_letter) (defBody s_letter) (defScope s_letter) .none kV_letter dc_letter pm_letter an_letter (cd_letter) ct_letter), sl_letter⟩)
    (c_letter : PySem.W.codeIn K (cd_letter) "letter_form" = true)
    (k_letter : PySem.W.keepIn K (.ref f_letter) = true)
    (a_cleared : PySem.W.nsIn K mainGlobals "_cleared" = some (some (.ref f_cleared)))
    (l_cleared : K.lookup f_cleared = some ⟨oc_cleared, od_cleared, .func (PySem.W.fnOf "_cleared" "_cleared" (defArgs s_cleared) (defBody s_cleared) (defScope s_cleared) .none kV_cleared dc_cleared pm_cleared an_cleared (cd_cleared) ct_cleared), sl_cleared⟩)
    (c_cleared : PySem.W.codeIn K (cd_cleared) "_cleared" = true)
    (k_cleared : PySem.W.keepIn K (.ref f_cleared) = true)
    (a_swept : PySem.W.nsIn K mainGlobals "swept" = some (some (.ref f_swept)))
    (l_swept : K.lookup f_swept = some ⟨oc_swept, od_swept, .func (PySem.W.fnOf "swept" "swept" (defArgs s_swept) (defBody s_swept) (defScope s_swept) .none kV_swept dc_swept pm_swept an_swept (cd_swept) ct_swept), sl_swept⟩)
    (c_swept : PySem.W.codeIn K (cd_swept) "swept" = true)
    (k_swept : PySem.W.keepIn K (.ref f_swept) = true)
    (a_det : PySem.W.nsIn K mainGlobals "determinant" = some (some (.ref f_det)))
    (l_det : K.lookup f_det = some ⟨oc_det, od_det, .func (PySem.W.fnOf "determinant" "determinant" (defArgs s_det) (defBody s_det) (defScope s_det) .none kV_det dc_det pm_det an_det (cd_det) ct_det), sl_det⟩)
    (c_det : PySem.W.codeIn K (cd_det) "determinant" = true)
    (k_det : PySem.W.keepIn K (.ref f_det) = true)
    (a_turned : PySem.W.nsIn K mainGlobals "turned" = some (some (.ref f_turned)))
    (l_turned : K.lookup f_turned = some ⟨oc_turned, od_turned, .func (PySem.W.fnOf "turned" "turned" (defArgs s_turned) (defBody s_turned) (defScope s_turned) .none kV_turned dc_turned pm_turned an_turned (cd_turned) ct_turned), sl_turned⟩)
    (c_turned : PySem.W.codeIn K (cd_turned) "turned" = true)
    (k_turned : PySem.W.keepIn K (.ref f_turned) = true)
    (a_trow : PySem.W.nsIn K mainGlobals "times_row" = some (some (.ref f_trow)))
    (l_trow : K.lookup f_trow = some ⟨oc_trow, od_trow, .func (PySem.W.fnOf "times_row" "times_row" (defArgs s_trow) (defBody s_trow) (defScope s_trow) .none kV_trow dc_trow pm_trow an_trow (cd_trow) ct_trow), sl_trow⟩)
    (c_trow : PySem.W.codeIn K (cd_trow) "times_row" = true)
    (k_trow : PySem.W.keepIn K (.ref f_trow) = true)
    (a_tcol : PySem.W.nsIn K mainGlobals "times_column" = some (some (.ref f_tcol)))
    (l_tcol : K.lookup f_tcol = some ⟨oc_tcol, od_tcol, .func (PySem.W.fnOf "times_column" "times_column" (defArgs s_tcol) (defBody s_tcol) (defScope s_tcol) .none kV_tcol dc_tcol pm_tcol an_tcol (cd_tcol) ct_tcol), sl_tcol⟩)
    (c_tcol : PySem.W.codeIn K (cd_tcol) "times_column" = true)
    (k_tcol : PySem.W.keepIn K (.ref f_tcol) = true)
    (a_parts : PySem.W.nsIn K mainGlobals "parts_of" = some (some (.ref f_parts)))
    (l_parts : K.lookup f_parts = some ⟨oc_parts, od_parts, .func (PySem.W.fnOf "parts_of" "parts_of" (defArgs s_parts) (defBody s_parts) (defScope s_parts) .none kV_parts dc_parts pm_parts an_parts (cd_parts) ct_parts), sl_parts⟩)
    (c_parts : PySem.W.codeIn K (cd_parts) "parts_of" = true)
    (k_parts : PySem.W.keepIn K (.ref f_parts) = true)
    (a_index : PySem.W.nsIn K mainGlobals "index_of" = some (some (.ref f_index)))
    (l_index : K.lookup f_index = some ⟨oc_index, od_index, .func (PySem.W.fnOf "index_of" "index_of" (defArgs s_index) (defBody s_index) (defScope s_index) .none kV_index dc_index pm_index an_index (cd_index) ct_index), sl_index⟩)
    (c_index : PySem.W.codeIn K (cd_index) "index_of" = true)
    (k_index : PySem.W.keepIn K (.ref f_index) = true)
    (a_rest : PySem.W.nsIn K mainGlobals "_nearest_rest" = some (some (.ref f_rest)))
    (l_rest : K.lookup f_rest = some ⟨oc_rest, od_rest, .func (PySem.W.fnOf "_nearest_rest" "_nearest_rest" (defArgs s_rest) (defBody s_rest) (defScope s_rest) .none kV_rest dc_rest pm_rest an_rest (cd_rest) ct_rest), sl_rest⟩)
    (c_rest : PySem.W.codeIn K (cd_rest) "_nearest_rest" = true)
    (k_rest : PySem.W.keepIn K (.ref f_rest) = true)
    (a_near : PySem.W.nsIn K mainGlobals "near_row" = some (some (.ref f_near)))
    (l_near : K.lookup f_near = some ⟨oc_near, od_near, .func (PySem.W.fnOf "near_row" "near_row" (defArgs s_near) (defBody s_near) (defScope s_near) .none kV_near dc_near pm_near an_near (cd_near) ct_near), sl_near⟩)
    (c_near : PySem.W.codeIn K (cd_near) "near_row" = true)
    (k_near : PySem.W.keepIn K (.ref f_near) = true)
    (a_isnear : PySem.W.nsIn K mainGlobals "is_near_row" = some (some (.ref f_isnear)))
    (l_isnear : K.lookup f_isnear = some ⟨oc_isnear, od_isnear, .func (PySem.W.fnOf "is_near_row" "is_near_row" (defArgs s_isnear) (defBody s_isnear) (defScope s_isnear) .none kV_isnear dc_isnear pm_isnear an_isnear (cd_isnear) ct_isnear), sl_isnear⟩)
    (c_isnear : PySem.W.codeIn K (cd_isnear) "is_near_row" = true)
    (k_isnear : PySem.W.keepIn K (.ref f_isnear) = true)
    (a_begun : PySem.W.nsIn K mainGlobals "_law_begun" = some (some (.ref f_begun)))
    (l_begun : K.lookup f_begun = some ⟨oc_begun, od_begun, .func (PySem.W.fnOf "_law_begun" "_law_begun" (defArgs s_begun) (defBody s_begun) (defScope s_begun) .none kV_begun dc_begun pm_begun an_begun (cd_begun) ct_begun), sl_begun⟩)
    (c_begun : PySem.W.codeIn K (cd_begun) "_law_begun" = true)
    (k_begun : PySem.W.keepIn K (.ref f_begun) = true)
    (a_draw : PySem.W.nsIn K mainGlobals "_law_draw" = some (some (.ref f_draw)))
    (l_draw : K.lookup f_draw = some ⟨oc_draw, od_draw, .func (PySem.W.fnOf "_law_draw" "_law_draw" (defArgs s_draw) (defBody s_draw) (defScope s_draw) .none kV_draw dc_draw pm_draw an_draw (cd_draw) ct_draw), sl_draw⟩)
    (c_draw : PySem.W.codeIn K (cd_draw) "_law_draw" = true)
    (k_draw : PySem.W.keepIn K (.ref f_draw) = true)
    (a_like : PySem.W.nsIn K mainGlobals "_law_like" = some (some (.ref f_like)))
    (l_like : K.lookup f_like = some ⟨oc_like, od_like, .func (PySem.W.fnOf "_law_like" "_law_like" (defArgs s_like) (defBody s_like) (defScope s_like) .none kV_like dc_like pm_like an_like (cd_like) ct_like), sl_like⟩)
    (c_like : PySem.W.codeIn K (cd_like) "_law_like" = true)
    (k_like : PySem.W.keepIn K (.ref f_like) = true)
    (a_ldet : PySem.W.nsIn K mainGlobals "_law_det" = some (some (.ref f_ldet)))
    (l_ldet : K.lookup f_ldet = some ⟨oc_ldet, od_ldet, .func (PySem.W.fnOf "_law_det" "_law_det" (defArgs s_ldet) (defBody s_ldet) (defScope s_ldet) .none kV_ldet dc_ldet pm_ldet an_ldet (cd_ldet) ct_ldet), sl_ldet⟩)
    (c_ldet : PySem.W.codeIn K (cd_ldet) "_law_det" = true)
    (k_ldet : PySem.W.keepIn K (.ref f_ldet) = true)
    (a_signed : PySem.W.nsIn K mainGlobals "_law_signed" = some (some (.ref f_signed)))
    (l_signed : K.lookup f_signed = some ⟨oc_signed, od_signed, .func (PySem.W.fnOf "_law_signed" "_law_signed" (defArgs s_signed) (defBody s_signed) (defScope s_signed) .none kV_signed dc_signed pm_signed an_signed (cd_signed) ct_signed), sl_signed⟩)
    (c_signed : PySem.W.codeIn K (cd_signed) "_law_signed" = true)
    (k_signed : PySem.W.keepIn K (.ref f_signed) = true)
    (a_heard : PySem.W.nsIn K mainGlobals "_law_heard" = some (some (.ref f_heard)))
    (l_heard : K.lookup f_heard = some ⟨oc_heard, od_heard, .func (PySem.W.fnOf "_law_heard" "_law_heard" (defArgs s_heard) (defBody s_heard) (defScope s_heard) .none kV_heard dc_heard pm_heard an_heard (cd_heard) ct_heard), sl_heard⟩)
    (c_heard : PySem.W.codeIn K (cd_heard) "_law_heard" = true)
    (k_heard : PySem.W.keepIn K (.ref f_heard) = true)
    (a_lisnear : PySem.W.nsIn K mainGlobals "_law_is_near" = some (some (.ref f_lisnear)))
    (l_lisnear : K.lookup f_lisnear = some ⟨oc_lisnear, od_lisnear, .func (PySem.W.fnOf "_law_is_near" "_law_is_near" (defArgs s_lisnear) (defBody s_lisnear) (defScope s_lisnear) .none kV_lisnear dc_lisnear pm_lisnear an_lisnear (cd_lisnear) ct_lisnear), sl_lisnear⟩)
    (c_lisnear : PySem.W.codeIn K (cd_lisnear) "_law_is_near" = true)
    (k_lisnear : PySem.W.keepIn K (.ref f_lisnear) = true)
    (a_unit : PySem.W.nsIn K mainGlobals "_law_unit_rays" = some (some (.ref f_unit)))
    (l_unit : K.lookup f_unit = some ⟨oc_unit, od_unit, .func (PySem.W.fnOf "_law_unit_rays" "_law_unit_rays" (defArgs s_unit) (defBody s_unit) (defScope s_unit) .none kV_unit dc_unit pm_unit an_unit (cd_unit) ct_unit), sl_unit⟩)
    (c_unit : PySem.W.codeIn K (cd_unit) "_law_unit_rays" = true)
    (k_unit : PySem.W.keepIn K (.ref f_unit) = true)
    (a_rays : PySem.W.nsIn K mainGlobals "_law_rays" = some (some (.ref f_rays)))
    (l_rays : K.lookup f_rays = some ⟨oc_rays, od_rays, .func (PySem.W.fnOf "_law_rays" "_law_rays" (defArgs s_rays) (defBody s_rays) (defScope s_rays) .none kV_rays dc_rays pm_rays an_rays (cd_rays) ct_rays), sl_rays⟩)
    (c_rays : PySem.W.codeIn K (cd_rays) "_law_rays" = true)
    (k_rays : PySem.W.keepIn K (.ref f_rays) = true)
    (a_values : PySem.W.nsIn K mainGlobals "_law_values_right" = some (some (.ref f_values)))
    (l_values : K.lookup f_values = some ⟨oc_values, od_values, .func (PySem.W.fnOf "_law_values_right" "_law_values_right" (defArgs s_values) (defBody s_values) (defScope s_values) .none kV_values dc_values pm_values an_values (cd_values) ct_values), sl_values⟩)
    (c_values : PySem.W.codeIn K (cd_values) "_law_values_right" = true)
    (k_values : PySem.W.keepIn K (.ref f_values) = true)
    (a_right : PySem.W.nsIn K mainGlobals "_law_right" = some (some (.ref f_right)))
    (l_right : K.lookup f_right = some ⟨oc_right, od_right, .func (PySem.W.fnOf "_law_right" "_law_right" (defArgs s_right) (defBody s_right) (defScope s_right) .none kV_right dc_right pm_right an_right (.ref cd_right) ct_right), sl_right⟩)
    (c_right : PySem.W.codeIn K (.ref cd_right) "_law_right" = true)
    (k_right : PySem.W.keepIn K (.ref f_right) = true)
    (a_law : PySem.W.nsIn K mainGlobals "law" = some (some (.ref f_law)))
    (l_law : K.lookup f_law = some ⟨oc_law, od_law, .func (PySem.W.fnOf "law" "law" (defArgs s_law) (defBody s_law) (defScope s_law) .none kV_law dc_law pm_law an_law (cd_law) ct_law), sl_law⟩)
    (c_law : PySem.W.codeIn K (cd_law) "law" = true)
    (k_law : PySem.W.keepIn K (.ref f_law) = true)
    (m_isinstance : PySem.W.nsIn K mainGlobals "isinstance" = some none)
    (m_ValueError : PySem.W.nsIn K mainGlobals "ValueError" = some none)
    (m_bool : PySem.W.nsIn K mainGlobals "bool" = some none)
    (m_any : PySem.W.nsIn K mainGlobals "any" = some none)
    (m_all : PySem.W.nsIn K mainGlobals "all" = some none)
    (m_int : PySem.W.nsIn K mainGlobals "int" = some none)
    (m_tuple : PySem.W.nsIn K mainGlobals "tuple" = some none)
    (m_len : PySem.W.nsIn K mainGlobals "len" = some none)
    (m_repr : PySem.W.nsIn K mainGlobals "repr" = some none)
    (m_range : PySem.W.nsIn K mainGlobals "range" = some none)
    (m_sum : PySem.W.nsIn K mainGlobals "sum" = some none)
    (m_enumerate : PySem.W.nsIn K mainGlobals "enumerate" = some none)
    (m_zip : PySem.W.nsIn K mainGlobals "zip" = some none)
    (m_list : PySem.W.nsIn K mainGlobals "list" = some none)
    (m_abs : PySem.W.nsIn K mainGlobals "abs" = some none)
    (q_right : K.lookup cd_right = some ⟨ocq_right, odq_right, .fields vsq_right, slq_right⟩)
    (v_right : vsq_right[11]? = some (.ref P_right))
    (n_right : K.lookup P_right = none)
    (r_right : (recsOf q).find? (fun e => e.name == ("_law_right" : Str)) = some dL_right) :
    ∃ (fd : FuncData) (cs : List (Addr × Addr)) (sp : Sp), (∀ p ∈ cs, TabK K h p) ∧ (∀ (s : Shared) (u : Value), BindsTo s fd ⟨[u], []⟩ [("script", u)]) ∧
      (∀ (H : Hp) (a : Addr) (ns : List Int), ns.length ≤ 63 → (∀ p ∈ cs, H p.2 = some (.tbl #[])) → SqL K H a (ns.map V.int) → sp [.ref a] H (fun v _ => v = .bl true) fun _ _ _ => False) ∧
      ∀ base : Heap, K.In base → base.Ns mainGlobals mg → (∀ p ∈ cs, LamX.TabB base mg p.1 p.2) → FnG l.prog w K mg base 12 fa fd ["script"] sp := by
  obtain rfl := Value.ref.inj (Option.some.inj (hfa.symm.trans (PySem.W.mg_of X G a_law)))
  have F_isn := fun_mk (st := s_isn) l_isn c_isn k_isn
  have G_isn := PySem.W.mg_of X G a_isn
  have B_isn := F_isn.binds (ps := ["value"]) fun _ _ _ _ _ _ us hl => match us, hl with | [_], _ => rfl
  have F_aren := fun_mk (st := s_aren) l_aren c_aren k_aren
  have G_aren := PySem.W.mg_of X G a_aren
  have B_aren := F_aren.binds (ps := ["value", "count"]) fun _ _ _ _ _ _ us hl => match us, hl with | [_, _], _ => rfl
  have F_psum := fun_mk (st := s_psum) l_psum c_psum k_psum
  have G_psum := PySem.W.mg_of X G a_psum
  have B_psum := F_psum.binds (ps := ["one", "other"]) fun _ _ _ _ _ _ us hl => match us, hl with | [_, _], _ => rfl
  have F_letter := fun_mk (st := s_letter) l_letter c_letter k_letter
  have G_letter := PySem.W.mg_of X G a_letter
  have B_letter := F_letter.binds (ps := ["i", "n"]) fun _ _ _ _ _ _ us hl => match us, hl with | [_, _], _ => rfl
  have F_cleared := fun_mk (st := s_cleared) l_cleared c_cleared k_cleared
  have G_cleared := PySem.W.mg_of X G a_cleared
  have B_cleared := F_cleared.binds (ps := ["row", "lead", "column", "last"]) fun _ _ _ _ _ _ us hl => match us, hl with | [_, _, _, _], _ => rfl
  have F_swept := fun_mk (st := s_swept) l_swept c_swept k_swept
  have G_swept := PySem.W.mg_of X G a_swept
  have B_swept := F_swept.binds (ps := ["rows"]) fun _ _ _ _ _ _ us hl => match us, hl with | [_], _ => rfl
  have F_det := fun_mk (st := s_det) l_det c_det k_det
  have G_det := PySem.W.mg_of X G a_det
  have B_det := F_det.binds (ps := ["table"]) fun _ _ _ _ _ _ us hl => match us, hl with | [_], _ => rfl
  have F_turned := fun_mk (st := s_turned) l_turned c_turned k_turned
  have G_turned := PySem.W.mg_of X G a_turned
  have B_turned := F_turned.binds (ps := ["rows", "width"]) fun _ _ _ _ _ _ us hl => match us, hl with | [_, _], _ => rfl
  have F_trow := fun_mk (st := s_trow) l_trow c_trow k_trow
  have G_trow := PySem.W.mg_of X G a_trow
  have B_trow := F_trow.binds (ps := ["row", "table"]) fun _ _ _ _ _ _ us hl => match us, hl with | [_, _], _ => rfl
  have F_tcol := fun_mk (st := s_tcol) l_tcol c_tcol k_tcol
  have G_tcol := PySem.W.mg_of X G a_tcol
  have B_tcol := F_tcol.binds (ps := ["table", "column"]) fun _ _ _ _ _ _ us hl => match us, hl with | [_, _], _ => rfl
  have F_parts := fun_mk (st := s_parts) l_parts c_parts k_parts
  have G_parts := PySem.W.mg_of X G a_parts
  have B_parts := F_parts.binds (ps := ["rays", "w"]) fun _ _ _ _ _ _ us hl => match us, hl with | [_, _], _ => rfl
  have F_index := fun_mk (st := s_index) l_index c_index k_index
  have G_index := PySem.W.mg_of X G a_index
  have B_index := F_index.binds (ps := ["rays"]) fun _ _ _ _ _ _ us hl => match us, hl with | [_], _ => rfl
  have F_rest := fun_mk (st := s_rest) l_rest c_rest k_rest
  have G_rest := PySem.W.mg_of X G a_rest
  have B_rest := F_rest.binds (ps := ["number", "size"]) fun _ _ _ _ _ _ us hl => match us, hl with | [_, _], _ => rfl
  have F_near := fun_mk (st := s_near) l_near c_near k_near
  have G_near := PySem.W.mg_of X G a_near
  have B_near := F_near.binds (ps := ["rays"]) fun _ _ _ _ _ _ us hl => match us, hl with | [_], _ => rfl
  have F_isnear := fun_mk (st := s_isnear) l_isnear c_isnear k_isnear
  have G_isnear := PySem.W.mg_of X G a_isnear
  have B_isnear := F_isnear.binds (ps := ["rays", "value"]) fun _ _ _ _ _ _ us hl => match us, hl with | [_, _], _ => rfl
  have F_begun := fun_mk (st := s_begun) l_begun c_begun k_begun
  have G_begun := PySem.W.mg_of X G a_begun
  have B_begun := F_begun.binds (ps := ["script", "k_so"]) fun _ _ _ _ _ _ us hl => match us, hl with | [_, _], _ => rfl
  have F_draw := fun_mk (st := s_draw) l_draw c_draw k_draw
  have G_draw := PySem.W.mg_of X G a_draw
  have B_draw := F_draw.binds (ps := ["m", "bound"]) fun _ _ _ _ _ _ us hl => match us, hl with | [_, _], _ => rfl
  have F_like := fun_mk (st := s_like) l_like c_like k_like
  have G_like := PySem.W.mg_of X G a_like
  have B_like := F_like.binds (ps := ["got", "due"]) fun _ _ _ _ _ _ us hl => match us, hl with | [_, _], _ => rfl
  have F_ldet := fun_mk (st := s_ldet) l_ldet c_ldet k_ldet
  have G_ldet := PySem.W.mg_of X G a_ldet
  have B_ldet := F_ldet.binds (ps := ["table"]) fun _ _ _ _ _ _ us hl => match us, hl with | [_], _ => rfl
  have F_signed := fun_mk (st := s_signed) l_signed c_signed k_signed
  have G_signed := PySem.W.mg_of X G a_signed
  have B_signed := F_signed.binds (ps := ["m", "most"]) fun _ _ _ _ _ _ us hl => match us, hl with | [_, _], _ => rfl
  have F_heard := fun_mk (st := s_heard) l_heard c_heard k_heard
  have G_heard := PySem.W.mg_of X G a_heard
  have B_heard := F_heard.binds (ps := ["call"]) fun _ _ _ _ _ _ us hl => match us, hl with | [_], _ => rfl
  have F_lisnear := fun_mk (st := s_lisnear) l_lisnear c_lisnear k_lisnear
  have G_lisnear := PySem.W.mg_of X G a_lisnear
  have B_lisnear := F_lisnear.binds (ps := ["rays", "value_so"]) fun _ _ _ _ _ _ us hl => match us, hl with | [_, _], _ => rfl
  have F_unit := fun_mk (st := s_unit) l_unit c_unit k_unit
  have G_unit := PySem.W.mg_of X G a_unit
  have B_unit := F_unit.binds (ps := ["m", "size_so"]) fun _ _ _ _ _ _ us hl => match us, hl with | [_, _], _ => rfl
  have F_rays := fun_mk (st := s_rays) l_rays c_rays k_rays
  have G_rays := PySem.W.mg_of X G a_rays
  have B_rays := F_rays.binds (ps := ["m", "size_so"]) fun _ _ _ _ _ _ us hl => match us, hl with | [_, _], _ => rfl
  have F_values := fun_mk (st := s_values) l_values c_values k_values
  have G_values := PySem.W.mg_of X G a_values
  have B_values := F_values.binds (ps := ["m", "rays", "told"]) fun _ _ _ _ _ _ us hl => match us, hl with | [_, _, _], _ => rfl
  have F_right := fun_mk (st := s_right) l_right c_right k_right
  have G_right := PySem.W.mg_of X G a_right
  have B_right := F_right.binds (ps := ["m", "size_so"]) fun _ _ _ _ _ _ us hl => match us, hl with | [_, _], _ => rfl
  have F_law := fun_mk (st := s_law) l_law c_law k_law
  have G_law := PySem.W.mg_of X G a_law
  have B_law := F_law.binds (ps := ["script"]) fun _ _ _ _ _ _ us hl => match us, hl with | [_], _ => rfl
  have M_isinstance := PySem.W.mg_none_of X G m_isinstance
  have M_ValueError := PySem.W.mg_none_of X G m_ValueError
  have M_bool := PySem.W.mg_none_of X G m_bool
  have M_any := PySem.W.mg_none_of X G m_any
  have M_all := PySem.W.mg_none_of X G m_all
  have M_int := PySem.W.mg_none_of X G m_int
  have M_tuple := PySem.W.mg_none_of X G m_tuple
  have M_len := PySem.W.mg_none_of X G m_len
  have M_repr := PySem.W.mg_none_of X G m_repr
  have M_range := PySem.W.mg_none_of X G m_range
  have M_sum := PySem.W.mg_none_of X G m_sum
  have M_enumerate := PySem.W.mg_none_of X G m_enumerate
  have M_zip := PySem.W.mg_none_of X G m_zip
  have M_list := PySem.W.mg_none_of X G m_list
  have M_abs := PySem.W.mg_none_of X G m_abs
  have g_CT := PySem.W.mg_of X G a_CT
  have g_CF := PySem.W.mg_of X G a_CF
  have g_CS := PySem.W.mg_of X G a_CS
  have EB : ExcT K mg "Singular" CF := ⟨g_CF, e_ex, e_k, e_b, e_t⟩
  have EX : Exs K mg CT CF CS := ⟨g_CT, g_CS, EB, ⟨x_g, x_k, e_b, x_d, x_a, x_n, x_t, x_m⟩, y_e, y_V, y_F, y_S⟩
  have HF : HeardF K mg f_heard := ⟨G_heard, F_heard.kp, oc_heard, kV_heard, dc_heard, pm_heard, cd_heard, ct_heard, od_heard, an_heard, sl_heard, l_heard, c_heard, B_heard⟩
  have t_right : PySem.W.tabIn K "_law_right" = some (cd_right, P_right) := tab_in a_right l_right rfl q_right v_right
  have TR := TO _ _ _ _ r_right t_right n_right
  refine ⟨PySem.W.fnOf "law" "law" (defArgs s_law) (defBody s_law) (defScope s_law) .none kV_law dc_law pm_law an_law cd_law ct_law, [(cd_right, P_right)], spLaw [(P_right, "_law_right.<locals>.<lambda>")] K, ?_, fun s v => .of_eq rfl, ?_, ?_⟩
  · intro p hp
    rw [List.mem_singleton] at hp
    subst hp
    exact TR
  · intro H a ns hl hT hS
    exact ⟨a, ns, rfl, hS, hl, tabs_one (hT _ (List.mem_cons_self)), fun _ => rfl⟩
  intro base KB NB TB
  have tR := TB _ (List.mem_cons_self)
  have C_isn := cal_of (P := l.prog) (w := w) (base := base) F_isn G_isn (ok_isn F_isn M_isinstance M_int M_bool) B_isn
  have C_aren := cal_of (P := l.prog) (w := w) (base := base) F_aren G_aren (ok_aren F_aren C_isn M_isinstance M_tuple M_len M_all) B_aren
  have C_psum := cal_of (P := l.prog) (w := w) (base := base) F_psum G_psum (ok_psum F_psum M_sum M_zip) B_psum
  have C_letter := cal_of (P := l.prog) (w := w) (base := base) F_letter G_letter (ok_letter F_letter M_tuple M_range M_int) B_letter
  have C_cleared := cal_of (P := l.prog) (w := w) (base := base) F_cleared G_cleared (ok_cleared F_cleared M_zip) B_cleared
  have C_swept := cal_of (P := l.prog) (w := w) (base := base) F_swept G_swept (ok_swept F_swept C_cleared M_list M_len M_range M_enumerate) B_swept
  have C_det := cal_of (P := l.prog) (w := w) (base := base) F_det G_det (ok_det F_det C_swept M_len) B_det
  have C_turned := cal_of (P := l.prog) (w := w) (base := base) F_turned G_turned (ok_turnedT F_turned M_tuple M_range) B_turned
  have C_tcol := cal_of (P := l.prog) (w := w) (base := base) F_tcol G_tcol (ok_tcol F_tcol C_psum M_tuple) B_tcol
  have C_trow := cal_of (P := l.prog) (w := w) (base := base) F_trow G_trow (ok_trow F_trow C_tcol C_turned M_len) B_trow
  have C_parts := cal_of (P := l.prog) (w := w) (base := base) F_parts G_parts (ok_parts F_parts C_det M_tuple M_range M_len M_abs) B_parts
  have C_index := cal_of (P := l.prog) (w := w) (base := base) F_index G_index (ok_index F_index C_det M_abs) B_index
  have C_rest := cal_of (P := l.prog) (w := w) (base := base) F_rest G_rest (ok_rest F_rest) B_rest
  have C_near := cal_of (P := l.prog) (w := w) (base := base) F_near G_near (ok_near F_near C_index C_parts C_letter C_rest C_trow M_tuple M_range M_len M_any) B_near
  have C_isnear := cal_of (P := l.prog) (w := w) (base := base) F_isnear G_isnear (ok_isnear F_isnear C_index C_aren C_parts M_len M_any M_all M_abs) B_isnear
  have C_begun := cal_of (P := l.prog) (w := w) (base := base) F_begun G_begun (ok_begun F_begun M_int) B_begun
  have C_draw := cal_of (P := l.prog) (w := w) (base := base) F_draw G_draw (ok_draw F_draw M_int M_len) B_draw
  have C_like := calG_of (P := l.prog) (w := w) (base := base) F_like G_like (ok_like F_like M_repr) B_like
  have C_signed := cal_of (P := l.prog) (w := w) (base := base) F_signed G_signed (ok_signedB F_signed C_draw) B_signed
  have L0 := cal_of (P := l.prog) (w := w) (base := base) F_ldet G_ldet (ok_ldetB F_ldet) B_ldet
  have L1 := cal_of (P := l.prog) (w := w) (base := base) F_ldet G_ldet (ok_ldet (m := 0) (by decide) F_ldet L0 M_len M_range M_tuple) B_ldet
  have L2 := cal_of (P := l.prog) (w := w) (base := base) F_ldet G_ldet (ok_ldet (m := 1) (by decide) F_ldet L1 M_len M_range M_tuple) B_ldet
  have L3 := cal_of (P := l.prog) (w := w) (base := base) F_ldet G_ldet (ok_ldet (m := 2) (by decide) F_ldet L2 M_len M_range M_tuple) B_ldet
  have L4 := cal_of (P := l.prog) (w := w) (base := base) F_ldet G_ldet (ok_ldet (m := 3) (by decide) F_ldet L3 M_len M_range M_tuple) B_ldet
  have L5 := cal_of (P := l.prog) (w := w) (base := base) F_ldet G_ldet (ok_ldet (m := 4) (by decide) F_ldet L4 M_len M_range M_tuple) B_ldet
  have L6 := cal_of (P := l.prog) (w := w) (base := base) F_ldet G_ldet (ok_ldet (m := 5) (by decide) F_ldet L5 M_len M_range M_tuple) B_ldet
  have L7 := cal_of (P := l.prog) (w := w) (base := base) F_ldet G_ldet (ok_ldet (m := 6) (by decide) F_ldet L6 M_len M_range M_tuple) B_ldet
  have C_lisnear := cal_of (P := l.prog) (w := w) (base := base) F_lisnear G_lisnear (ok_lisnear F_lisnear L7 M_isinstance M_tuple M_int M_bool M_len M_abs M_range) B_lisnear
  have C_unit := cal_of (P := l.prog) (w := w) (base := base) F_unit G_unit (ok_unit F_unit C_draw C_signed M_tuple M_range) B_unit
  have C_rays := cal_of (P := l.prog) (w := w) (base := base) F_rays G_rays (ok_rays F_rays C_draw C_signed C_unit M_tuple M_range) B_rays
  have C_values := calG_of (P := l.prog) (w := w) (base := base) F_values G_values (ok_values F_values C_draw C_signed C_like C_isnear C_lisnear M_tuple M_list M_len M_range) B_values
  have O_indexX := ok_indexX (P := l.prog) (w := w) (base := base) F_index C_det M_abs EB
  have X_index : CalX l.prog w K mg base 4 "index_of" ["rays"] (spIndexX CF) := ⟨_, _, O_indexX, G_index, F_index.kp, B_index⟩
  have X_near : CalX l.prog w K mg base 5 "near_row" ["rays"] (spIndexX CF) := ⟨_, _, ok_nearX F_near O_indexX G_index F_index.kp B_index, G_near, F_near.kp, B_near⟩
  have X_isnear : CalX l.prog w K mg base 5 "is_near_row" ["rays", "value"] (spIsNearX CF) := ⟨_, _, ok_isnearX F_isnear O_indexX G_index F_index.kp B_index, G_isnear, F_isnear.kp, B_isnear⟩
  have O_right := ok_right (P := l.prog) (w := w) (base := base) l_right c_right tR (List.mem_cons_self) one_tab HF EX C_rays L7 C_like C_near C_index C_lisnear C_values X_index X_near X_isnear M_isinstance M_ValueError M_abs
  have C_right : CalG l.prog w K mg base 11 "_law_right" ["m", "size_so"] (spRight [(P_right, "_law_right.<locals>.<lambda>")]) := ⟨_, _, O_right, G_right, F_right.kp, B_right⟩
  exact ok_law F_law C_begun C_draw C_right C_near C_index C_isnear C_like M_range
end
end K16
open PySem PySem.W PyProof.Rows
set_option maxHeartbeats 0 in
theorem PySem.Challenge.cw_pointtally_k16_whole_near_rows_holds : PySem.Challenge.rw_pointtally_k16_whole_near_rows.Holds := by
  w_on; o_law; k_head; (case hw => w_witness2)
  k_fill
  refine Vk.walk_ofT (l := PySem.Challenge.rw_pointtally_k16_whole_near_rows) (n := 63) (k := 12) (x := "script") rfl (by decide) rfl ⟨rfl, by decide, by decide⟩ (fun w h Y => PySem.W.km_in_of Y) ?F
  case F =>
    intro w mg fa h KX G hmg TO
    refine' K16.all_mk KX G hmg TO ?a_CT ?a_CF ?a_CS ?e_ex ?e_k ?e_b ?e_t ?x_g ?x_k ?x_d ?x_a ?x_n ?x_t ?x_m ?y_e ?y_V ?y_F ?y_S ?a_isn ?l_isn ?c_isn ?k_isn ?a_aren ?l_aren ?c_aren ?k_aren ?a_psum ?l_psum ?c_psum ?k_psum ?a_letter ?l_letter ?c_letter ?k_letter ?a_cleared ?l_cleared ?c_cleared ?k_cleared ?a_swept ?l_swept ?c_swept ?k_swept ?a_det ?l_det ?c_det ?k_det ?a_turned ?l_turned ?c_turned ?k_turned ?a_trow ?l_trow ?c_trow ?k_trow ?a_tcol ?l_tcol ?c_tcol ?k_tcol ?a_parts ?l_parts ?c_parts ?k_parts ?a_index ?l_index ?c_index ?k_index ?a_rest ?l_rest ?c_rest ?k_rest ?a_near ?l_near ?c_near ?k_near ?a_isnear ?l_isnear ?c_isnear ?k_isnear ?a_begun ?l_begun ?c_begun ?k_begun ?a_draw ?l_draw ?c_draw ?k_draw ?a_like ?l_like ?c_like ?k_like ?a_ldet ?l_ldet ?c_ldet ?k_ldet ?a_signed ?l_signed ?c_signed ?k_signed ?a_heard ?l_heard ?c_heard ?k_heard ?a_lisnear ?l_lisnear ?c_lisnear ?k_lisnear ?a_unit ?l_unit ?c_unit ?k_unit ?a_rays ?l_rays ?c_rays ?k_rays ?a_values ?l_values ?c_values ?k_values ?a_right ?l_right ?c_right ?k_right ?a_law ?l_law ?c_law ?k_law ?m_isinstance ?m_ValueError ?m_bool ?m_any ?m_all ?m_int ?m_tuple ?m_len ?m_repr ?m_range ?m_sum ?m_enumerate ?m_zip ?m_list ?m_abs ?q_right ?v_right ?n_right ?r_right
    (case a_CT => k_is)
    (case a_CF => k_is)
    (case a_CS => k_is)
    (case e_ex => kernel_rfl)
    (case e_k => k_is)
    (case e_b => k_is)
    (case e_t => k_is)
    (case x_g => k_is)
    (case x_k => k_is)
    (case x_d => k_is)
    (case x_a => k_is)
    (case x_n => k_is)
    (case x_t => k_is)
    (case x_m => k_is)
    (case y_e => kernel_rfl)
    (case y_V => kernel_rfl)
    (case y_F => kernel_rfl)
    (case y_S => kernel_rfl)
    (case a_isn => k_is)
    (case l_isn => k_is)
    (case c_isn => k_is)
    (case k_isn => k_is)
    (case a_aren => k_is)
    (case l_aren => k_is)
    (case c_aren => k_is)
    (case k_aren => k_is)
    (case a_psum => k_is)
    (case l_psum => k_is)
    (case c_psum => k_is)
    (case k_psum => k_is)
    (case a_letter => k_is)
    (case l_letter => k_is)
    (case c_letter => k_is)
    (case k_letter => k_is)
    (case a_cleared => k_is)
    (case l_cleared => k_is)
    (case c_cleared => k_is)
    (case k_cleared => k_is)
    (case a_swept => k_is)
    (case l_swept => k_is)
    (case c_swept => k_is)
    (case k_swept => k_is)
    (case a_det => k_is)
    (case l_det => k_is)
    (case c_det => k_is)
    (case k_det => k_is)
    (case a_turned => k_is)
    (case l_turned => k_is)
    (case c_turned => k_is)
    (case k_turned => k_is)
    (case a_trow => k_is)
    (case l_trow => k_is)
    (case c_trow => k_is)
    (case k_trow => k_is)
    (case a_tcol => k_is)
    (case l_tcol => k_is)
    (case c_tcol => k_is)
    (case k_tcol => k_is)
    (case a_parts => k_is)
    (case l_parts => k_is)
    (case c_parts => k_is)
    (case k_parts => k_is)
    (case a_index => k_is)
    (case l_index => k_is)
    (case c_index => k_is)
    (case k_index => k_is)
    (case a_rest => k_is)
    (case l_rest => k_is)
    (case c_rest => k_is)
    (case k_rest => k_is)
    (case a_near => k_is)
    (case l_near => k_is)
    (case c_near => k_is)
    (case k_near => k_is)
    (case a_isnear => k_is)
    (case l_isnear => k_is)
    (case c_isnear => k_is)
    (case k_isnear => k_is)
    (case a_begun => k_is)
    (case l_begun => k_is)
    (case c_begun => k_is)
    (case k_begun => k_is)
    (case a_draw => k_is)
    (case l_draw => k_is)
    (case c_draw => k_is)
    (case k_draw => k_is)
    (case a_like => k_is)
    (case l_like => k_is)
    (case c_like => k_is)
    (case k_like => k_is)
    (case a_ldet => k_is)
    (case l_ldet => k_is)
    (case c_ldet => k_is)
    (case k_ldet => k_is)
    (case a_signed => k_is)
    (case l_signed => k_is)
    (case c_signed => k_is)
    (case k_signed => k_is)
    (case a_heard => k_is)
    (case l_heard => k_is)
    (case c_heard => k_is)
    (case k_heard => k_is)
    (case a_lisnear => k_is)
    (case l_lisnear => k_is)
    (case c_lisnear => k_is)
    (case k_lisnear => k_is)
    (case a_unit => k_is)
    (case l_unit => k_is)
    (case c_unit => k_is)
    (case k_unit => k_is)
    (case a_rays => k_is)
    (case l_rays => k_is)
    (case c_rays => k_is)
    (case k_rays => k_is)
    (case a_values => k_is)
    (case l_values => k_is)
    (case c_values => k_is)
    (case k_values => k_is)
    (case a_right => k_is)
    (case l_right => k_is)
    (case c_right => k_is)
    (case k_right => k_is)
    (case a_law => k_is)
    (case l_law => k_is)
    (case c_law => k_is)
    (case k_law => k_is)
    (case m_isinstance => k_is)
    (case m_ValueError => k_is)
    (case m_bool => k_is)
    (case m_any => k_is)
    (case m_all => k_is)
    (case m_int => k_is)
    (case m_tuple => k_is)
    (case m_len => k_is)
    (case m_repr => k_is)
    (case m_range => k_is)
    (case m_sum => k_is)
    (case m_enumerate => k_is)
    (case m_zip => k_is)
    (case m_list => k_is)
    (case m_abs => k_is)
    (case q_right => k_is)
    (case v_right => rfl)
    (case n_right => kernel_rfl)
    (case r_right => rfl)
