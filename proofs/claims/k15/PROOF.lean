import PyProof.Rows.All
import Wide.All
import OpenK.AllK
import Wide.FinOn
import HandS.Base
import HandS.Call
import HandS.List
import HandS.Comp
import HandS.Ends
import HandS.Dict
import HandS.Iter
import HandS.Words
import HandS.WordsList
import HandS.WordsDict
import HandS.Exc
import HandS.TryOnly
import HandS.ExcOwn
import HandS.Lambda
import HandS.IsInst
import HandS.Wide
import PyProof.ReprRoads
import PyProof.ReprBulk
import PyProof.FitsInt
import HandS.Walk
import KE.GoesZip
import KE.GoesMore
import KE.GoesEnum
import HandS.Star
import HandS.TupAny
import KE.KEqDeep
import HandS.ExcIs
import HandS.ExcField
import HandS.ExcInit
import KE.KExcIs
import HandS.TupMul
import HandS.WordsExc
import HandS.EndTab
import KE.KNest
import PySem.Challenge.RW_pointtally_k15_whole_other_cosets
set_option Elab.async false
set_option linter.all false
set_option maxRecDepth 100000
set_option maxHeartbeats 4000000
set_option exponentiation.threshold 20000
/-! Promises that know that nothing is being shown around them (so that repr tells its whole text). -/
namespace Vk
open PySem PySem.Spec PyProof.Rows L2

/-- nothing is being shown -/
def Quiet (A : Around) : Prop := A.guards = some []
theorem Quiet.deeper {A : Around} (q : Quiet A) (env : Env) : Quiet (A.deeper env) := by
  unfold Quiet at q ⊢
  first
    | exact q
    | (show pushGuards _ A.guards = some []; rw [q]; rfl)
    | simpa [Around.deeper, Around.under, q] using q

/-- a def's promise where nothing is being shown -/
structure FnG (P : Program) (w : World) (K : PySem.W.Frag) (mg : Str → Option Value) (base : Heap) (k : Nat) (f : Addr) (fd : FuncData) (ps : List Str) (sp : Sp) : Prop where
  len : ∀ vs H Q E, sp vs H Q E → vs.length = ps.length
  run : ∀ (A : Around) (outer : List Env) (s : Shared) (H : Hp) (args : Args) (us : List Value) (vs : List V) (Q : VK) (E : XK),
    Quiet A → Room k A → Env0 P w K mg base A outer s H → BindsTo s fd args (ps.zip us) → Vals vs us → sp vs H Q E →
      codeAny (model P w) A (.call (.ref f) args) (CR CX0 outer P w H s Q E) s

section
variable {P : Program} {w : World} {K : PySem.W.Frag} {mg : Str → Option Value} {base : Heap}
/-- a body's end is the call's end -/
theorem endsG {N : List Str} {qual : Str} {scope : Scope} {f : Addr} {cdv : Value} {A : Around} {outer : List Env} {s s' : Shared} {H : Hp} {Q : VK} {E : XK} {fl : Flow}
    (h : SP (cxOf CX0 P w K mg base N qual scope f cdv A outer s H E) [] { nx := fun _ H' => Q .non H', rt := Q } fl s') :
    ∃ u, (match fl with | .ret v => v | _ => Value.none) = u ∧ CE outer P w H s Q u s' ∧ (fl = .next ∨ ∃ v, fl = .ret v) := by
  cases fl with
  | next =>
    obtain ⟨σ', H', J, q⟩ := h
    exact ⟨_, rfl, ⟨.non, H', J.os, J.bare, J.base, J.hok, rfl, q⟩, .inl rfl⟩
  | ret v =>
    obtain ⟨x, σ', H', J, rv, q⟩ := h
    exact ⟨_, rfl, ⟨x, H', J.os, J.bare, J.base, J.hok, rv, q⟩, .inr ⟨v, rfl⟩⟩
  | brk =>
    obtain ⟨_, _, _, q⟩ := h
    exact q.elim
  | cont =>
    obtain ⟨_, _, _, q⟩ := h
    exact q.elim
/-- a def, by its body: its code object is told -/
theorem fnG_of {x qual : Str} {st : Stmt} {f : Addr} {N ps : List Str} {k : Nat} {sp : Sp} {oc kV doc pm cdv ct : Value} {od an : Option Addr} {osl : Array (Option Value)}
    (lk : K.lookup f = some ⟨oc, od, .func (PySem.W.fnOf x qual (defArgs st) (defBody st) (defScope st) .none kV doc pm an cdv ct), osl⟩) (hcd : PySem.W.codeIn K cdv qual = true) (S : FnScope N ps (defScope st))
    (len : ∀ vs H Q E, sp vs H Q E → vs.length = ps.length)
    (hbody : ∀ (A : Around) (outer : List Env) (s : Shared) (H : Hp) (vs : List V) (Q : VK) (E : XK),
      Quiet A → Room k (A.deeper (envOfC qual (defScope st) s.heap.objs.size f cdv)) → sp vs H Q E →
        ∃ t, PSs (cxOf CX0 P w K mg base N qual (defScope st) f cdv A outer s H E).nox (defBody st) t ∧ t { nx := fun _ H' => Q .non H', rt := Q } (start N vs) H) :
    FnG P w K mg base (k + 1) f (PySem.W.fnOf x qual (defArgs st) (defBody st) (defScope st) .none kV doc pm an cdv ct) ps sp := by
  refine ⟨len, fun A outer s H args us vs Q E hG hr e0 hb r hsp => ?_⟩
  have inK : K.In s.heap := e0.mod.kin.keeps fun b o e => (e0.bs b o e).left
  have noL : s.heap.NoLimit := e0.mod.nolimit.keeps fun b o e => (e0.bs b o e).left
  have hpar : ∀ y ∈ ps.zip us, (defScope st).names.lookup y.1 = some .local ∨
      ((defScope st).names.lookup y.1 = some .cell ∧ ((cellsFrom (s.heap.objs.size + 1) (defScope st).names []).lookup y.1).isSome = true) := by
    rintro ⟨n, v⟩ hy
    cases S.par n (List.of_mem_zip hy).left with
    | inl q => exact .inl q
    | inr q => exact .inr ⟨q, PySem.W.cellsFrom_some _ _ _ (.inl q)⟩
  have bnd := hb
  refine codeAny_call_function hr.depth (inK _ _ lk) rfl S.co S.gen rfl
    (PySem.W.codeRec_of inK hcd) (bnd _ _ _ _ ?_)
  refine wpAny_newFunctionEnv_cells S.kind hpar
    fun env he s1 x => ?_
  subst he
  refine ⟨noL.keeps x.toInCall.keep,
    codeAny_func ?_⟩
  obtain ⟨t, ht, hq⟩ := hbody A outer s H vs Q E hG (hr.deeper _) hsp
  have J := inv_start (CX := CX0) (P := P) (w := w) (K := K) (mg := mg) (base := base) (qual := qual) (f := f) (cd := cdv) (E := E) S hr.hd e0 (len _ _ _ _ hsp) r x
  refine wpAny_mono (ht.nox.run [] s1 _ H _ J hq) (fun fl s' hs => ?_)
    (fun e s' hs => hs)
  obtain ⟨u, hu, hce, hfl⟩ := endsG hs
  rcases hfl with rfl | ⟨v, rfl⟩
  · obtain rfl := hu
    exact hce
  · obtain rfl := hu
    exact hce
/-- a def of the text, by its body -/
theorem okG {x qual : Str} {st : Stmt} {f : Addr} {fd : FuncData} {N ps : List Str} {k : Nat} {sp : Sp} (F : Fun K x qual st f fd) (S : FnScope N ps (defScope st))
    (len : ∀ vs H Q E, sp vs H Q E → vs.length = ps.length)
    (hbody : ∀ (cdv : Value) (A : Around) (outer : List Env) (s : Shared) (H : Hp) (vs : List V) (Q : VK) (E : XK),
      Quiet A → Room k (A.deeper (envOfC qual (defScope st) s.heap.objs.size f cdv)) → sp vs H Q E →
        ∃ t, PSs (cxOf CX0 P w K mg base N qual (defScope st) f cdv A outer s H E).nox (defBody st) t ∧ t { nx := fun _ H' => Q .non H', rt := Q } (start N vs) H) :
    FnG P w K mg base (k + 1) f fd ps sp := by
  obtain ⟨oc, od, kV, doc, pm, an, cdv, ct, osl, rfl, lk, hcd⟩ := F.ex
  exact fnG_of lk hcd S len fun A outer s H vs Q E => hbody cdv A outer s H vs Q E
end

section
variable {X : Cx} {k : Nat} {f : Addr} {fd : FuncData} {ps : List Str} {sp : Sp} {E : XK} {x : Str} {p pos : Pos} {e : Expr} {es : List Expr} {t : TA}
/-- a call of such a def -/
theorem pe_callG (hG : Quiet X.A) (F : FnG X.prog X.w X.K X.mg X.base k f fd ps sp) (hr : Room k X.A) (hg : Gl X x) (hm : X.mg x = some (.ref f)) (hk : PySem.W.keepIn X.K (.ref f) = true) (hb : Binds X.K fd ps [])
    (ha : PA X (e :: es) t) (hdb : (x == ("__debug__" : Str)) = false := by decide) (he : starEach (e :: es) X.env = (false, eval e X.env) :: starEach es X.env := by rfl)
    (hpl : (backTo pos (starEach es X.env)).any (·.1) = false := by rfl) :
    PE X (.Call (.Name x p) (e :: es) [] pos) (fun σ H Q => t σ H fun vs H1 => sp vs H1 Q E) := by
  refine ⟨fun pins s σ H Q I h => wpAny_Call_Name_kw (ld_glob I hg hm ?_ hdb)⟩
  refine PySem.W.callWith_K (h₀ := X.base) I.ok.mod.kin hk (thn (ha.run pos pins s σ H _ I h) ?_) he hpl
  rintro us s1 ⟨vs, H1, I1, r, q⟩
  refine ⟨I1.kIn, ?_⟩
  have hl : us.length = ps.length := r.length.symm.trans (F.len _ _ _ _ q)
  have hbt := hb s1 us I1.kIn (by rw [List.append_nil]; exact hl)
  rw [List.append_nil] at hbt
  refine wpAny_call (codeAny_mono (F.run X.A X.stack s1 H1 ⟨us, []⟩ us vs Q E hG hr I1.env0 hbt r q) ?_)
  intro r2 s2 hq
  match r2, hq with
  | .error e, hq => exact False.elim hq
  | .ok (.ret u), hq => exact I1.after hq
end

/-! ### repr -/
/-- the text of a value's data -/
def rRep (K : PySem.W.Frag) : List V → Hp → VK → Prop := fun xs H Q => ∃ x d, xs = [x] ∧ Dp K H x d ∧ d.showable = true ∧ d.hasDict = false ∧ d.depth ≤ 60 ∧ d.shown.length ≤ sizeLine ∧ Q (.str d.shown) H
theorem call_rep {X : Cx} (hG : Quiet X.A) (hu : X.A.units + 64 < cLine) : CallR X (.builtin "repr") (rRep X.K) := by
  intro pins s σ H xs us Q I r h
  obtain ⟨x, d, rfl, hD, hs, hd, hdep, hz, q⟩ := h
  obtain ⟨u, rfl, ru⟩ := vals1 r
  obtain ⟨as, hr⟩ := Dp.reads I d x u hD ru
  cases hD with
  | non =>
    cases ru
    exact PySem.P.repr_of_none ⟨.str _, H, I.tok _, ⟨_, rfl⟩, by simpa only [PyData.shown] using q⟩
  | bl b =>
    cases ru
    exact PySem.P.repr_of_bool ⟨.str _, H, I.tok _, ⟨_, rfl⟩, by simpa only [PyData.shown] using q⟩
  | int i =>
    obtain ⟨t, rfl⟩ := ru
    exact PySem.P.repr_of_int (by simpa [PyData.showable] using hs) ⟨.str _, H, I.tok _, ⟨_, rfl⟩, by simpa only [PyData.shown] using q⟩
  | str z =>
    obtain ⟨t, rfl⟩ := ru
    exact PySem.P.repr_of_str ⟨.str _, H, I.tok _, ⟨_, rfl⟩, by simpa only [PyData.shown] using q⟩ (by simpa only [PyData.shown] using hz)
  | lst h1 h2 =>
    cases ru
    exact repr_of_reads' hr hs (PyData.noDict_hsm hd) hG (by omega) (fun _ _ e => e) (fun h' u tk hk => ⟨.str _, H, I.kept hk, ⟨_, rfl⟩, q⟩) hz
  | tup h1 h2 =>
    cases ru
    exact repr_of_reads' hr hs (PyData.noDict_hsm hd) hG (by omega) (fun _ _ e => e) (fun h' u tk hk => ⟨.str _, H, I.kept hk, ⟨_, rfl⟩, q⟩) hz
end Vk

namespace Vk
open PySem PySem.Spec PyProof.Rows L2
/-! ### defs by their names -/
/-- the def of this name keeps the promise -/
def Cal (P : Program) (w : World) (K : PySem.W.Frag) (mg : Str → Option Value) (base : Heap) (k : Nat) (x : Str) (ps : List Str) (sp : Sp) : Prop :=
  ∃ f fd, FnOk P w K mg base CX0 k f fd ps sp ∧ mg x = some (.ref f) ∧ PySem.W.keepIn K (.ref f) = true ∧ Binds K fd ps []
def CalG (P : Program) (w : World) (K : PySem.W.Frag) (mg : Str → Option Value) (base : Heap) (k : Nat) (x : Str) (ps : List Str) (sp : Sp) : Prop :=
  ∃ f fd, FnG P w K mg base k f fd ps sp ∧ mg x = some (.ref f) ∧ PySem.W.keepIn K (.ref f) = true ∧ Binds K fd ps []
/-- the reading of a call -/
def tCal (sp : Sp) (t : TA) : TE := fun σ H Q => t σ H fun vs H1 => sp vs H1 Q E0
section
variable {X : Cx} {k : Nat} {ps : List Str} {sp : Sp} {x : Str} {p pos : Pos} {e : Expr} {es : List Expr} {t : TA}
theorem call_ (C : Cal X.prog X.w X.K X.mg X.base k x ps sp) (hr : Room k X.A) (hg : Gl X x) (ha : PA X (e :: es) t) (hdb : (x == ("__debug__" : Str)) = false := by decide)
    (he : starEach (e :: es) X.env = (false, eval e X.env) :: starEach es X.env := by rfl) (hpl : (backTo pos (starEach es X.env)).any (·.1) = false := by rfl) :
    PE X (.Call (.Name x p) (e :: es) [] pos) (tCal sp t) := by
  obtain ⟨f, fd, F, hm, hk, hb⟩ := C
  refine ⟨fun pins s σ H Q I h => ?_⟩
  refine (pe_call F hr hg hm hk hb .nil pass0 ha hdb he hpl).run pins s σ H Q I ?_
  show t σ H fun vs H1 => sp (vs ++ []) H1 Q E0
  have e0 : (fun vs H1 => sp (vs ++ []) H1 Q E0) = fun vs H1 => sp vs H1 Q E0 := by
    funext vs H1
    rw [List.append_nil]
  rw [e0]
  exact h
theorem callG (hG : Quiet X.A) (C : CalG X.prog X.w X.K X.mg X.base k x ps sp) (hr : Room k X.A) (hg : Gl X x) (ha : PA X (e :: es) t) (hdb : (x == ("__debug__" : Str)) = false := by decide)
    (he : starEach (e :: es) X.env = (false, eval e X.env) :: starEach es X.env := by rfl) (hpl : (backTo pos (starEach es X.env)).any (·.1) = false := by rfl) :
    PE X (.Call (.Name x p) (e :: es) [] pos) (tCal sp t) := by
  obtain ⟨f, fd, F, hm, hk, hb⟩ := C
  exact ⟨fun pins s σ H Q I h => (pe_callG hG F hr hg hm hk hb ha hdb he hpl).run pins s σ H Q I h⟩
end
/-! ### ints of any size -/
def CDivX (_ j : Int) : Prop := j ≠ 0 ∧ j.natAbs.log2 < 9000
theorem op_fdivX {X : Cx} : OpR X (binaryOp .FloorDiv) (rI CDivX fun i j => .int (i.fdiv j)) :=
  opI fun _ _ _ _ _ _ _ hc q => floordiv_int hc.1 q (.inl (PyProof.noPylong_of_log2 hc.2))
/-! ### heaps -/
/-- all but what stands at m stays -/
def SameBut (m : Addr) (H H' : Hp) : Prop := ∀ b o, b ≠ m → H b = some o → H' b = some o
theorem SameBut.refl (m : Addr) (H : Hp) : SameBut m H H := fun _ _ _ h => h
theorem SameBut.trans {m : Addr} {H H1 H2 : Hp} (a : SameBut m H H1) (b : SameBut m H1 H2) : SameBut m H H2 := fun c o n h => b c o n (a c o n h)
theorem SameBut.of {m : Addr} {H H1 : Hp} (a : Same H H1) : SameBut m H H1 := fun c o _ h => a c o h
theorem same_new {H : Hp} {p : Addr} {o : HO} (h : H p = none) : Same H (upd H p o) := fun b x e => by
  rw [upd_ne (ne_of_none e h)]
  exact e
theorem but_put {H : Hp} {m : Addr} {o : HO} : SameBut m H (upd H m o) := fun b x n e => by
  rw [upd_ne n]
  exact e
end Vk

namespace Vk
open PySem PySem.Spec PyProof.Rows L2
theorem same_put {H H1 : Hp} {q : Addr} {o : HO} (s : Same H H1) (hq : H q = none) : Same H (upd H1 q o) := fun b x e => by
  rw [upd_ne (ne_of_none e hq)]
  exact s b x e
theorem cut_ints (ns : List Int) (a b : Option Int) : ∃ l : List Int, cutV (ns.map V.int) a b = l.map V.int ∧ l.length ≤ ns.length := by
  refine ⟨(ns.drop (HT.sIx (ns.map V.int).length 0 a)).take (HT.sIx (ns.map V.int).length (ns.map V.int).length b - HT.sIx (ns.map V.int).length 0 a), ?_, ?_⟩
  · unfold cutV
    rw [← List.map_drop, ← List.map_take]
  · rw [List.length_take, List.length_drop]
    omega
/-- a list of ints as data -/
theorem dp_ints {K : PySem.W.Frag} {H : Hp} : ∀ ns : List Int, DpAll K H (ns.map V.int) (ns.map PyData.int)
  | [] => .nil
  | n :: r => .cons (.int n) (dp_ints r)
theorem lay_ints : ∀ ns : List Int, PyData.canLayAll0 (ns.map PyData.int) = true ∧ PyData.depthAll (ns.map PyData.int) = 0
  | [] => ⟨by simp [PyData.canLayAll0], by simp [PyData.depthAll]⟩
  | n :: r => by
    obtain ⟨h1, h2⟩ := lay_ints r
    exact ⟨by simp [PyData.canLayAll0, PyData.canLay0, h1], by simp [PyData.depthAll, PyData.depth, h2]⟩
theorem shaped_ints (ns : List Int) : SeqAt.shaped (.list (ns.map PyData.int)) = true := by
  obtain ⟨h1, h2⟩ := lay_ints ns
  simp [SeqAt.shaped, PyData.canLay0, PyData.depth, h1, h2]
end Vk

namespace Vk
open PySem PySem.Spec PyProof.Rows L2
/-- both ways of a conditional expression lead to what follows -/
theorem tif_both {c : Bool} {ta tb : TE} {σ : L2.St} {H : Hp} {Q : VK} (Good : V → Prop) (hQ : ∀ v, Good v → Q v H) (ha : c = true → (∀ v, Good v → Q v H) → ta σ H Q) (hb : c = false → (∀ v, Good v → Q v H) → tb σ H Q) :
    if c = true then ta σ H Q else tb σ H Q := by
  cases c with
  | true => exact iteT (ha rfl hQ)
  | false => exact iteF (hb rfl hQ)
end Vk
/-! The end of a law row for a promise of the quiet kind. -/
namespace Vk
open PySem PySem.Spec PyProof.Rows L2

section
variable {P : Program} {w : World} {K : PySem.W.Frag} {mg mb : Str → Option Value} {k : Nat} {fa a : Addr} {fd : FuncData} {x : Str} {sp : Sp} {s₁ : Shared} {vs : List Value} {ns : List Int}
/-- from one abstract heap that holds -/
theorem law_coreG (H : Hp) (KX : K.In s₁.heap) (hns : s₁.heap.Ns mainGlobals mg) (hb : s₁.heap.Ns builtinsNs mb) (hbb : ∀ x : Str, x ≠ "__name__" → mb x = bootBuiltins x) (hlim : s₁.heap.NoLimit) (hg : s₁.gens = #[])
    (ha : s₁.heap.get? a = some { cls := .type "list", data := .seq vs.toArray }) (hr : Room k callerA)
    (F : ∀ base : Heap, K.In base → base.Ns mainGlobals mg → FnG P w K mg base k fa fd [x] sp) (hbind : ∀ (s : Shared) (u : Value), BindsTo s fd ⟨[u], []⟩ [(x, u)])
    (hO : Only H) (hsp : sp [.ref a] H (fun v _ => v = .bl true) fun _ _ _ => False) (hok : HOk P w H s₁.heap) (hA : ∀ b u, H b = some u → b = a) (hK : ∀ u, H a = some u → K.lookup a = none) :
    codeAny (model P w) callerA (.call (.ref fa) ⟨[.ref a], []⟩) (fun r s' => r = .ok (.ret (.bool true)) ∧ OldK s₁.heap s'.heap ∧ s'.os = s₁.os ∧ AllBare s'.gens) s₁ := by
  have free : ∀ {b : Addr} {o : Obj}, s₁.heap.get? b = some o → (∀ n, o.data ≠ .seq vs.toArray n) → H b = none := fun {b o} e d => by
    cases q : H b with
    | none => rfl
    | some u =>
      obtain rfl := hA b u q
      rw [ha] at e
      exact absurd rfl (by have := Option.some.inj e; subst this; exact d _)
  have nsK : ∀ {b : Addr} {m : Str → Option Value}, s₁.heap.Ns b m → (hidT s₁.heap H).Ns b m := by
    rintro b m ⟨o, es, ep, e, d, r⟩
    exact ⟨o, es, ep, hidT_get e (free e fun n z => by rw [d] at z; cases z), d, r⟩
  have inB : K.In (hidT s₁.heap H) := fun b o e => by
    refine hidT_get (KX b o e) ?_
    cases q : H b with
    | none => rfl
    | some u =>
      obtain rfl := hA b u q
      rw [hK u q] at e
      cases e
  have lim : (hidT s₁.heap H).NoLimit := by
    obtain ⟨mc, h1, h2⟩ := hlim
    exact ⟨mc, nsK h1, h2⟩
  have M : Mod K mg (hidT s₁.heap H) := { kin := inB, glob := nsK hns, blt := ⟨mb, nsK hb, hbb⟩, nolimit := lim }
  have E : Env0 P w K mg (hidT s₁.heap H) callerA [] s₁ H := by
    refine { frames := rfl, mod := M, bs := fun b o e => of_hidT e, bsz := Nat.le_of_eq (hidT_size _ _), funs := trivial, frf := ?_, hok := hok, bare := .of_eq hg }
    intro b z
    cases (show b ∈ ([] : List Addr) from z)
  have R := (F _ inB (nsK hns)).run callerA [] s₁ H ⟨[.ref a], []⟩ [.ref a] [.ref a] _ _ rfl hr E (hbind s₁ (.ref a)) (.cons rfl .nil) hsp
  refine codeAny_mono R ?_
  intro r s' h
  match r, h with
  | .error e, h => exact False.elim h
  | .ok (.ret u), ⟨v, H', os, bare, un, hok', rv, q⟩ =>
    obtain rfl : v = .bl true := q
    obtain rfl : u = Value.bool true := rv
    refine ⟨rfl, OldK.of_keep fun b o e => ?_, os, bare⟩
    rcases hO b with z | ⟨ob, xs, z⟩
    · refine un.keep b o e z (fun m => ?_) (fun m => ?_)
      · cases (show b ∈ ([] : List Addr) from m)
      · cases m
    · have p1 := (hok b _ z).1
      have p2 := (hok' b _ (un.frzs b ob _ z)).1
      exact p2.trans (p1.symm.trans e)
/-- the law's promise, at the heap behind the top -/
theorem law_callG (KX : K.In s₁.heap) (hns : s₁.heap.Ns mainGlobals mg) (hb : s₁.heap.Ns builtinsNs mb) (hbb : ∀ x : Str, x ≠ "__name__" → mb x = bootBuiltins x) (hlim : s₁.heap.NoLimit) (hg : s₁.gens = #[])
    (ha : s₁.heap.get? a = some { cls := .type "list", data := .seq vs.toArray }) (hi : IntsAre vs ns) (hl : ns.length ≤ sizeLine) (hr : Room k callerA)
    (F : ∀ base : Heap, K.In base → base.Ns mainGlobals mg → FnG P w K mg base k fa fd [x] sp) (hbind : ∀ (s : Shared) (u : Value), BindsTo s fd ⟨[u], []⟩ [(x, u)])
    (hsp : ∀ H : Hp, Only H → SqL K H a (ns.map V.int) → sp [.ref a] H (fun v _ => v = .bl true) fun _ _ _ => False) :
    codeAny (model P w) callerA (.call (.ref fa) ⟨[.ref a], []⟩) (fun r s' => r = .ok (.ret (.bool true)) ∧ OldK s₁.heap s'.heap ∧ s'.os = s₁.os ∧ AllBare s'.gens) s₁ := by
  have rv := vals_ints hi
  cases hk : K.lookup a with
  | some o =>
    have e := (KX a o hk).symm.trans ha
    obtain rfl := Option.some.inj e
    have hO : Only (fun _ => none) := fun _ => .inl rfl
    refine law_coreG (fun _ => none) KX hns hb hbb hlim hg ha hr F hbind hO (hsp _ hO (.inr ⟨_, vs.toArray, _, hk, rfl, rfl, rfl, ?_, ?_⟩)) ?_ ?_ ?_
    · rw [List.size_toArray, hi.length]
      exact hl
    · simpa using rv
    · intro b u z
      cases (show (none : Option HO) = some u from z)
    · intro b u z
      cases (show (none : Option HO) = some u from z)
    · intro u z
      cases (show (none : Option HO) = some u from z)
  | none =>
    let fz : HO := .frz { cls := .type "list", data := .seq vs.toArray } (.lst (ns.map V.int))
    have only : ∀ b u, upd (fun _ => none) a fz b = some u → b = a ∧ u = fz := fun b u z => by
      by_cases e : b = a
      · subst e
        rw [upd_same] at z
        exact ⟨rfl, (Option.some.inj z).symm⟩
      · rw [upd_ne e] at z
        cases z
    have hO : Only (upd (fun _ => none) a fz) := fun b => by
      cases q : upd (fun _ => none) a fz b with
      | none => exact .inl rfl
      | some u =>
        obtain ⟨_, rfl⟩ := only b u q
        exact .inr ⟨_, _, rfl⟩
    refine law_coreG _ KX hns hb hbb hlim hg ha hr F hbind hO (hsp _ hO (.inl (.inr ⟨_, upd_same⟩))) ?_ (fun b u z => (only b u z).1) (fun _ _ => hk)
    intro b u z
    obtain ⟨rfl, rfl⟩ := only b u z
    refine ⟨ha, ?_, vs, _, rv, ha⟩
    rw [List.length_map]
    exact hl
end

/-- the end of the row -/
theorem walk_ofG {l : PySem.W.OpenLaw} {n k : Nat} {q : Program} {loose : List Str} {XP : (Str → Option Value) → Heap → Prop} {YP : World → Heap → Prop} {d : DefRec} {K : Params → PySem.W.Frag} {sp : PySem.W.Frag → Sp} {x : Str}
    (hn : l.most = some n) (hn2 : n ≤ sizeLine) (hdf : d.params.defaults = []) (hr : Room k callerA)
    (hY : ∀ (w : World) (h : Heap), YP w h → (K w.params).In h)
    (F : ∀ (w : World) (mg : Str → Option Value) (fa : Addr) (h : Heap), (K w.params).In h → h.Ns mainGlobals mg → mg d.name = some (.ref fa) →
      ∃ fd : FuncData, (∀ (s : Shared) (u : Value), BindsTo s fd ⟨[u], []⟩ [(x, u)]) ∧
        ∀ base : Heap, (K w.params).In base → base.Ns mainGlobals mg → FnG l.prog w (K w.params) mg base k fa fd [x] (sp (K w.params)))
    (hsp : ∀ (K : PySem.W.Frag) (H : Hp) (a : Addr) (ns : List Int), ns.length ≤ n → Only H → SqL K H a (ns.map V.int) → sp K [.ref a] H (fun v _ => v = .bl true) fun _ _ _ => False) :
    PySem.W.WalkO q loose XP YP l.row.toRowW d [] (fun f vs => PySem.call f vs) := by
  refine Att.attach_call hn hdf ?_
  intro w s₀ s₁ mg mb fa o pm cd doc a vs ns G Y ho hd hcd hmg hobj hints hlen hg
  obtain ⟨fd, hb, hF⟩ := F w mg fa _ (hY w _ Y) G.T.g hmg
  exact law_callG (hY w _ Y) G.T.g G.T.b G.T.builtins G.T.nolimit hg hobj hints (Nat.le_trans hlen hn2) hr hF hb fun H hO hS => hsp _ H a ns hlen hO hS
end Vk
namespace K15
open PySem PySem.Spec PyProof.Rows L2 Vk
def topS (i : Nat) : Stmt := PySem.Challenge.pw_pointtally_k15_whole_other_cosets.main.body.getD i (.Pass ⟨0, 0, 0, 0⟩)
/-! ### the state of the draws -/
def mkv (L sd : Int) (c : Addr) (sp : Int) : List (Key × V) := [(.inr "left", .int L), (.inr "seed", .int sd), (.inr "cells", .ref c), (.inr "spot", .int sp)]
theorem val_left {L sd sp : Int} {c : Addr} : valV (mkv L sd c sp) (.inr "left") = some (.int L) := by rfl
theorem val_seed {L sd sp : Int} {c : Addr} : valV (mkv L sd c sp) (.inr "seed") = some (.int sd) := by rfl
theorem val_cells {L sd sp : Int} {c : Addr} : valV (mkv L sd c sp) (.inr "cells") = some (.ref c) := by rfl
theorem val_spot {L sd sp : Int} {c : Addr} : valV (mkv L sd c sp) (.inr "spot") = some (.int sp) := by rfl
theorem put_left {L sd sp i : Int} {c : Addr} : putK (mkv L sd c sp) (.inr "left") (.int i) = mkv i sd c sp := by rfl
theorem put_spot {L sd sp i : Int} {c : Addr} : putK (mkv L sd c sp) (.inr "spot") (.int i) = mkv L sd c i := by rfl
theorem get_m {H : Hp} {m : Addr} {kvs : List (Key × V)} {x : Str} {v : V} (hm : H m = some (.dK kvs)) (h : valV kvs (.inr x) = some v) : DGet H m (.str x) (some v) := by
  have q := DGet.k (k := Sum.inr x) hm
  rw [h] at q
  exact q
theorem put_m {H : Hp} {m : Addr} {L sd sp : Int} {c : Addr} {kvs : List (Key × V)} {x : Str} {v : V} (hm : H m = some (.dK (mkv L sd c sp))) (h : putK (mkv L sd c sp) (.inr x) v = kvs) : DPut H m (.str x) v (upd H m (.dK kvs)) := by
  have q := DPut.k (k := Sum.inr x) (v := v) hm (small1000 (show 4 ≤ 1000 by decide))
  rw [h] at q
  exact q
/-- the state of the draws stands at m; at most n draws were made -/
def MOk (H : Hp) (m c : Addr) (n : Nat) : Prop := ∃ (L sd sp : Int) (cells : List Int), H m = some (.dK (mkv L sd c sp)) ∧ H c = some (.lst (cells.map V.int)) ∧ 0 < cells.length ∧ 0 ≤ sp ∧ sp ≤ n
theorem MOk.but {H H' : Hp} {m c q : Addr} {n : Nat} (h : MOk H m c n) (hq : q ≠ m) (hl : ∀ xs, H q ≠ some (.lst xs)) (s : SameBut q H H') : MOk H' m c n := by
  obtain ⟨L, sd, sp, cells, h1, h2, h3⟩ := h
  refine ⟨L, sd, sp, cells, s _ _ (Ne.symm hq) h1, s _ _ (fun z => hl _ (by rw [← z]; exact h2)) h2, h3⟩
theorem MOk.same {H H' : Hp} {m c : Addr} {n : Nat} (h : MOk H m c n) (s : Same H H') : MOk H' m c n := by
  obtain ⟨L, sd, sp, cells, h1, h2, h3⟩ := h
  exact ⟨L, sd, sp, cells, s _ _ h1, s _ _ h2, h3⟩
abbrev s_draw : Stmt := topS 10
theorem sc_draw : FnScope ["m", "bound", "found", "spot", "cells", "extra", "cell", "blend"] ["m", "bound"] (defScope s_draw) := ⟨rfl, rfl, rfl, by decide +kernel, rfl, by decide +kernel, by decide +kernel⟩
def spDraw : Sp := fun vs H Q _ => ∃ (m c : Addr) (n : Nat) (b : Int), vs = [.ref m, .int b] ∧ MOk H m c n ∧ n ≤ 100000 ∧ 0 < b ∧ b.natAbs < 2 ^ 200 ∧
  ∀ H' v, SameBut m H H' → MOk H' m c (n + 1) → 0 ≤ v → v < b → Q (.int v) H'
section
variable {P : Program} {w : World} {K : PySem.W.Frag} {mg : Str → Option Value} {base : Heap}
theorem ok_draw {f : Addr} {fd : FuncData} (F : Fun K "_law_draw" "_law_draw" s_draw f fd) (m_int : mg "int" = none) (m_len : mg "len" = none) : FnOk P w K mg base CX0 1 f fd ["m", "bound"] spDraw := by
  have sc := sc_draw
  refine F.ok sc (fun vs H Q E h => ?_) (fun cdv A outer s H vs Q E hr h => ?_)
  · obtain ⟨m, c, n, b, rfl, _⟩ := h
    rfl
  · obtain ⟨m, c, n, b, rfl, hM, hn, hb0, hb1, q⟩ := h
    refine ⟨_, (pss_cons (ps_if (pt_cmpR op_gt (pe_dget (hu_of hr) (pv 0) pe_str (fun _ _ => rfl)) pe_int (nomark _))
      (pss_cons (ps_set (i := 2) sc.nd rfl (Or.inl rfl) (pe_op op_modN (pe_callTy call_int1 (by rfl) m_int (by decide +kernel) (pa_cons (pe_dget (hu_of hr) (pv 0) pe_str (fun _ _ => rfl)) pa_nil)) (pv 1)))
    (pss_cons (ps_dput (hu_of hr) (pv 0) pe_str (pe_op op_fdivX (pe_dget (hu_of hr) (pv 0) pe_str (fun _ _ => rfl)) (pv 1)) rfl)
    (pss_one (ps_ret (pv 2)))))
      pss_nil)
    (pss_cons (ps_set (i := 3) sc.nd rfl (Or.inl rfl) (pe_dget (hu_of hr) (pv 0) pe_str (fun _ _ => rfl)))
    (pss_cons (ps_dput (hu_of hr) (pv 0) pe_str (pe_op op_add (pv 3) pe_int) rfl)
    (pss_cons (ps_par (i := 4) (j := 5) (by rfl) sc.nd rfl rfl (by decide) rfl rfl (pa_cons (pe_dget (hu_of hr) (pv 0) pe_str (fun _ _ => rfl)) (pa_cons (pe_op op_add (pe_dget (hu_of hr) (pv 0) pe_str (fun _ _ => rfl)) (pe_op op_mul (pe_op op_mul pe_int (pv 3)) (pv 3))) pa_nil)) (by rfl))
    (pss_cons (ps_set (i := 6) sc.nd rfl (Or.inl rfl) (pe_ix ix_list (pv 4) (pe_op op_modN (pe_callTy call_int1 (by rfl) m_int (by decide +kernel) (pa_cons (pv 3) pa_nil)) (pe_callB call_len_seq (by rfl) m_len (by decide +kernel) (pa_cons (pv 4) pa_nil))) (fun _ _ => rfl)))
    (pss_cons (ps_set (i := 7) sc.nd rfl (Or.inl rfl) (pe_op op_modN (pe_callTy call_int1 (by rfl) m_int (by decide +kernel) (pa_cons (pe_op op_add (pe_op op_mul (pv 6) (pe_op op_add (pe_op op_mul pe_int (pv 3)) pe_int)) (pv 5)) pa_nil)) pe_int))
    (pss_cons (ps_set (i := 7) sc.nd rfl (Or.inl rfl) (pe_op op_modN (pe_callTy call_int1 (by rfl) m_int (by decide +kernel) (pa_cons (pe_op op_add (pe_op op_add (pe_op op_mul (pv 7) (pv 7)) (pe_op op_mul pe_int (pv 3))) (pe_dget (hu_of hr) (pv 0) pe_str (fun _ _ => rfl))) pa_nil)) pe_int))
    (pss_one (ps_ret (pe_op op_modN (pe_op op_fdivN (pe_op op_modN (pe_callTy call_int1 (by rfl) m_int (by decide +kernel) (pa_cons (pe_op op_add (pe_op op_mul (pv 7) pe_int) (pv 3)) pa_nil)) pe_int) pe_int) (pv 1))))))))))), ?_⟩
    obtain ⟨L, sd, sp, cells, h1, h2, h3, h4, h5⟩ := hM
    have ncm : c ≠ m := ne_of h2 h1 (by intro z; cases z)
    refine ⟨.ref m, rfl, m, .int L, rfl, get_m h1 val_left, L, 0, rfl, rfl, _, rfl, ite2 (fun hL => ?_) (fun hL => ?_)⟩
    · -- the first way
      refine ⟨.ref m, rfl, m, .int L, rfl, get_m h1 val_left, .inl ⟨L, rfl, .int b, rfl, L, b, rfl, rfl, by omega, ?_⟩⟩
      refine ⟨.ref m, rfl, m, .int L, rfl, get_m h1 val_left, .int b, rfl, L, b, rfl, rfl, ⟨by omega, Nat.lt_trans (PySem.Flt.log2_lt_of (by decide) hb1) (by decide)⟩, .ref m, rfl, m, _, rfl, put_m h1 put_left, ?_⟩
      refine ⟨.int (L.fmod b), rfl, q _ _ but_put ⟨_, sd, sp, cells, upd_same, ?_, h3, h4, by omega⟩ (Int.fmod_nonneg_of_pos _ hb0) (Int.fmod_lt_of_pos _ hb0)⟩
      rw [upd_ne ncm]
      exact h2
    · -- the second way
      refine ⟨.ref m, rfl, m, .int sp, rfl, get_m h1 val_spot, ?_⟩
      refine ⟨.int sp, rfl, sp, 1, rfl, rfl, .ref m, rfl, m, _, rfl, put_m h1 put_spot, ?_⟩
      have g1 : (upd H m (.dK (mkv L sd c (sp + 1)))) m = some (.dK (mkv L sd c (sp + 1))) := upd_same
      have g2 : (upd H m (.dK (mkv L sd c (sp + 1)))) c = some (.lst (cells.map V.int)) := by
        rw [upd_ne ncm]
        exact h2
      refine ⟨.ref m, rfl, m, .ref c, rfl, get_m g1 val_cells, .ref m, rfl, m, .int sd, rfl, get_m g1 val_seed, .int sp, rfl, 40503, sp, rfl, rfl, .inl ⟨by decide, by decide⟩, .int sp, rfl, 40503 * sp, sp, rfl, rfl, .inr ⟨by omega, by omega⟩, sd, 40503 * sp * sp, rfl, rfl, .ref c, .int (sd + 40503 * sp * sp), rfl, ?_⟩
      have hj : (sp.toNat % cells.length) < cells.length := Nat.mod_lt _ h3
      have e1 : Int.fmod sp ((cells.map V.int).length : Int) = ((sp.toNat % cells.length : Nat) : Int) := by
        rw [List.length_map, Int.fmod_eq_emod_of_nonneg _ (by omega), Int.natCast_emod, Int.toNat_of_nonneg h4]
      have e2 : (cells.map V.int)[sp.toNat % cells.length]? = some (.int cells[sp.toNat % cells.length]) := by
        rw [List.getElem?_map, List.getElem?_eq_getElem hj]
        rfl
      refine ⟨.ref c, rfl, .int sp, rfl, .inl ⟨sp, rfl, .ref c, rfl, c, _, rfl, .inl (SqL.of g2), sp, _, rfl, rfl, ?_, c, _, _, .int cells[sp.toNat % cells.length], rfl, rfl, SqL.of g2, ?_, ?_⟩⟩
      · rw [List.length_map]
        omega
      · rw [e1]
        exact atI_nat e2
      refine ⟨_, rfl, .int sp, rfl, 2, sp, rfl, rfl, .inl ⟨by decide, by decide⟩, 2 * sp, 3, rfl, rfl, _, 2 * sp + 3, rfl, rfl, .inr ⟨by omega, by omega⟩, _, rfl, _, _, rfl, rfl, .inl ⟨_, rfl, _, 2147483647, rfl, rfl, (by show (2147483647 : Int) ≠ 0; decide), ?_⟩⟩
      dsimp only
      generalize hB : Int.fmod (cells[sp.toNat % cells.length] * (2 * sp + 3) + (sd + 40503 * sp * sp)) 2147483647 = B
      have b0 : 0 ≤ B := by
        rw [← hB]
        exact Int.fmod_nonneg_of_pos _ (by decide)
      have b1 : B < 2147483647 := by
        rw [← hB]
        exact Int.fmod_lt_of_pos _ (by decide)
      refine ⟨.int B, rfl, .int B, rfl, B, B, rfl, rfl, .inl ⟨by omega, by omega⟩, .int sp, rfl, 69621, sp, rfl, rfl, .inl ⟨by decide, by decide⟩, B * B, 69621 * sp, rfl, rfl, .ref m, rfl, m, .int sd, rfl, get_m g1 val_seed, _, sd, rfl, rfl, .inl ⟨_, rfl, _, 2147483629, rfl, rfl, (by show (2147483629 : Int) ≠ 0; decide), ?_⟩⟩
      dsimp only
      generalize hB2 : Int.fmod (B * B + 69621 * sp + sd) 2147483629 = B2
      have c0 : 0 ≤ B2 := by
        rw [← hB2]
        exact Int.fmod_nonneg_of_pos _ (by decide)
      have c1 : B2 < 2147483629 := by
        rw [← hB2]
        exact Int.fmod_lt_of_pos _ (by decide)
      refine ⟨.int B2, rfl, B2, 48271, rfl, rfl, .inl ⟨by omega, by omega⟩, .int sp, rfl, _, sp, rfl, rfl, .inl ⟨_, rfl, _, 2147483647, rfl, rfl, (by show (2147483647 : Int) ≠ 0; decide), _, 11, rfl, rfl, (by show (11 : Int) ≠ 0 ∧ (11 : Int).natAbs < 1073741824; decide), .int b, rfl, _, b, rfl, rfl, by omega, ?_⟩⟩
      exact q _ _ but_put ⟨L, sd, sp + 1, cells, g1, g2, h3, by omega, by omega⟩ (Int.fmod_nonneg_of_pos _ hb0) (Int.fmod_lt_of_pos _ hb0)
end
end K15
namespace K15
open PySem PySem.Spec PyProof.Rows L2 Vk
abbrev s_begun : Stmt := topS 9
theorem sc_begun : FnScope ["script", "k_so", "cells", "cell", "great", "seed"] ["script", "k_so"] (defScope s_begun) := ⟨rfl, rfl, rfl, by decide +kernel, rfl, by decide +kernel, by decide +kernel⟩
def spBegun (K : PySem.W.Frag) : Sp := fun vs H Q _ => ∃ (a : Addr) (k : Int) (ns : List Int), vs = [.ref a, .int k] ∧ SqL K H a (ns.map V.int) ∧ ns.length ≤ 63 ∧ 0 ≤ k ∧ k ≤ 100 ∧
  ∀ H' p r, Same H H' → H p = none → MOk H' p r 0 → Q (.ref p) H'
section
variable {P : Program} {w : World} {K : PySem.W.Frag} {mg : Str → Option Value} {base : Heap}
theorem ok_begun {f : Addr} {fd : FuncData} (F : Fun K "_law_begun" "_law_begun" s_begun f fd) (m_int : mg "int" = none) : FnOk P w K mg base CX0 1 f fd ["script", "k_so"] (spBegun K) := by
  have sc := sc_begun
  refine F.ok sc (fun vs H Q E h => ?_) (fun cdv A outer s H vs Q E hr h => ?_)
  · obtain ⟨a, k, ns, rfl, _⟩ := h
    rfl
  · obtain ⟨a, k, ns, rfl, hS, hl, hk0, hk1, q⟩ := h
    refine ⟨_, (pss_cons (ps_set (i := 2) sc.nd rfl (Or.inl rfl) (pe_op op_cat (pe_slice sl_list (pv 0) (po_some (pv 1)) po_none) (pe_slice sl_list (pv 0) po_none (po_some (pv 1)))))
    (pss_cons (ps_setLc (i := 4) (own := [("cell", 3)]) (g := gName 3) (by rfl) sc.nd rfl rfl (sw_true rfl rfl rfl (by decide +kernel)) (pi_list (pv 2)) (blkOk_by (own := [("cell", 3)]) (N := ["script", "k_so", "cells", "cell", "great", "seed"]) (sc := defScope s_begun) (by decide +kernel)) (fun _ _ _ _ _ => pg_name (i := 3) sc.nd rfl (Or.inl rfl)) (fun _ _ _ _ _ => (pts_one (pt_cmpR op_ge (pv 3) (pe_op op_pow pe_int pe_int) (nomark _)))) (fun _ _ _ _ _ => (pv 3)))
    (pss_cons (ps_set (i := 5) sc.nd rfl (Or.inl rfl) (pe_op op_add pe_int (pv 1)))
    (pss_cons (ps_for PassesOwn.never rfl (pi_list (pv 2)) (pg_name (i := 3) sc.nd rfl (Or.inl rfl))
      (pss_one (ps_set (i := 5) sc.nd rfl (Or.inl rfl) (pe_op op_modN (pe_callTy call_int1 (by rfl) m_int (by decide +kernel) (pa_cons (pe_op op_add (pe_op op_mul (pv 5) pe_int) (pv 3)) pa_nil)) pe_int))))
    (pss_one (ps_ret (pe_disp (pps_cons pe_str (pe_ifExp (pt_cmpR (op_neD hr.units) (pv 4) (pe_lst pa_nil) (nomark _)) (pe_ix ix_list (pv 4) pe_int (fun _ _ => rfl)) pe_int) (pps_cons pe_str (pv 5) (pps_cons pe_str (pe_op op_cat (pv 2) (pe_lst (pa_cons (pe_op op_add (pe_op op_mul pe_int (pv 1)) pe_int) pa_nil))) (pps_cons pe_str pe_int pps_nil)))) (by rfl) (by rfl) (fun z => by cases z) (by decide)))))))), ?_⟩
    obtain ⟨l1, e1, b1⟩ := cut_ints ns (some k) none
    obtain ⟨l2, e2, b2⟩ := cut_ints ns none (some k)
    refine ⟨.ref a, rfl, .int k, rfl, k, rfl, a, _, rfl, hS, fun p1 n1 => ?_⟩
    rw [e1]
    have s1 : Same H (upd H p1 (.lst (l1.map V.int))) := same_new n1
    refine ⟨.ref a, rfl, .int k, rfl, k, rfl, a, _, rfl, s1.seq hS, fun p2 n2 => ?_⟩
    rw [e2]
    have n12 : p1 ≠ p2 := fun z => by
      rw [← z, upd_same] at n2
      cases n2
    have h2 : H p2 = none := s1.free n2
    refine ⟨p1, p2, l1.map V.int, l2.map V.int, rfl, rfl, ?_, upd_same, ?_, fun p np => ?_⟩
    · rw [upd_ne n12, upd_same]
    · rw [List.length_map, List.length_map]
      exact Nat.le_of_lt (small1000 (by omega))
    rw [← List.map_append]
    have s2 : Same H (upd (upd H p1 (.lst (l1.map V.int))) p2 (.lst (l2.map V.int))) := same_put s1 h2
    have hp : H p = none := s2.free np
    have s3 := same_put (o := .lst ((l1 ++ l2).map V.int)) s2 hp
    have hH3 : upd (upd (upd H p1 (.lst (l1.map V.int))) p2 (.lst (l2.map V.int))) p (.lst ((l1 ++ l2).map V.int)) p = some (.lst ((l1 ++ l2).map V.int)) := upd_same
    generalize upd (upd (upd H p1 (.lst (l1.map V.int))) p2 (.lst (l2.map V.int))) p (.lst ((l1 ++ l2).map V.int)) = H3 at s3 hH3 ⊢
    have g3 : H3 p = some (.lst ((l1 ++ l2).map V.int)) := hH3
    generalize hcs : l1 ++ l2 = cs at g3
    have bcs : cs.length ≤ 126 := by
      rw [← hcs, List.length_append]
      omega
    refine ⟨.ref p, rfl, p, rfl, ⟨_, SqL.of g3⟩, fun D nD => ?_⟩
    have hD : H D = none := s3.free nD
    have nDp : p ≠ D := ne_of_none g3 nD
    refine lc_list (K := K) (a := p) (xs := cs.map V.int) (fun i H' => ∃ acc : List Int, H' = upd H3 D (.lst (acc.map V.int)) ∧ acc.length ≤ i) ⟨[], rfl, Nat.le_refl _⟩ ?_ ?_ ?_
    · rintro i H' _ ⟨acc, rfl, _⟩
      refine SqL.of ?_
      rw [upd_ne nDp]
      exact g3
    · rintro i x H' hx ⟨acc, rfl, hacc⟩
      obtain ⟨z, hz, rfl⟩ : ∃ z, cs[i]? = some z ∧ x = V.int z := by
        rw [List.getElem?_map] at hx
        cases hc : cs[i]? with
        | none => rw [hc] at hx; cases hx
        | some z => rw [hc] at hx; exact ⟨z, rfl, (Option.some.inj hx).symm⟩
      have hi : i < cs.length := (List.getElem?_eq_some_iff.mp hz).1
      refine ⟨rfl, .int z, rfl, 10, 18, rfl, rfl, ⟨by decide, by decide, by decide⟩, z, _, rfl, rfl, _, rfl, ite2 (fun h => ?_) (fun h => ?_)⟩
      · refine ⟨.int z, rfl, _, upd_same, ?_, acc ++ [z], ?_, ?_⟩
        · rw [List.length_map]
          exact small1000 (by omega)
        · rw [upd_upd, List.map_append]
          rfl
        · rw [List.length_append]
          show acc.length + 1 ≤ i + 1
          omega
      · exact ⟨acc, rfl, by omega⟩
    rintro H' ⟨acc, rfl, hacc⟩
    have s4 : Same H (upd H3 D (.lst (acc.map V.int))) := same_put s3 hD
    have g4 : upd H3 D (.lst (acc.map V.int)) p = some (.lst (cs.map V.int)) := by
      rw [upd_ne nDp]
      exact g3
    have d4 : upd H3 D (.lst (acc.map V.int)) D = some (.lst (acc.map V.int)) := upd_same
    generalize upd H3 D (.lst (acc.map V.int)) = H4 at s4 g4 d4
    refine ⟨.int k, rfl, 71, k, rfl, rfl, .ref p, rfl, p, rfl, ⟨_, SqL.of g4⟩, ?_⟩
    refine for_list (K := K) (a := p) (xs := cs.map V.int) (fun i σ H' => ∃ (sd : Int) (y : Option V), σ = [some (.ref a), some (.int k), some (.ref p), y, some (.ref D), some (.int sd)] ∧ H' = H4 ∧ 0 ≤ sd ∧ sd < 2147483648) ⟨71 + k, none, rfl, rfl, by omega, by omega⟩ ?_ ?_ ?_
    · rintro i σ H' _ ⟨sd, y, rfl, rfl, _⟩
      exact SqL.of g4
    · rintro i x σ H' hx ⟨sd, y, rfl, rfl, h0, h1⟩
      obtain ⟨z, hz, rfl⟩ : ∃ z, cs[i]? = some z ∧ x = V.int z := by
        rw [List.getElem?_map] at hx
        cases hc : cs[i]? with
        | none => rw [hc] at hx; cases hx
        | some z => rw [hc] at hx; exact ⟨z, rfl, (Option.some.inj hx).symm⟩
      refine ⟨.int sd, rfl, sd, 48271, rfl, rfl, .inl ⟨by omega, by omega⟩, .int z, rfl, _, z, rfl, rfl, .inl ⟨_, rfl, _, 2147483647, rfl, rfl, (by show (2147483647 : Int) ≠ 0; decide), ?_⟩⟩
      have q1 := Int.fmod_lt_of_pos (sd * 48271 + z) (show (0 : Int) < 2147483647 by decide)
      exact ⟨_, _, rfl, rfl, Int.fmod_nonneg_of_pos _ (by decide), by omega⟩
    rintro σ H' ⟨sd, y, rfl, rfl, h0, h1⟩
    intro r nr
    have hr0 : H r = none := s4.free nr
    have s5 : Same H (upd H' r (.dK [])) := same_put s4 hr0
    have prn : p ≠ r := ne_of_none g4 nr
    have drn : D ≠ r := ne_of_none d4 nr
    have g5 : upd H' r (.dK []) p = some (.lst (cs.map V.int)) := by
      rw [upd_ne prn]
      exact g4
    have d5 : upd H' r (.dK []) D = some (.lst (acc.map V.int)) := by
      rw [upd_ne drn]
      exact d4
    have r5 : upd H' r (.dK []) r = some (.dK []) := upd_same
    generalize upd H' r (.dK []) = H5 at s5 g5 d5 r5 ⊢
    refine ⟨.ref D, rfl, Nat.zero_le _, fun e0 ne0 => ?_⟩
    have p0 : p ≠ e0 := ne_of_none g5 ne0
    have d0 : D ≠ e0 := ne_of_none d5 ne0
    have r0 : r ≠ e0 := ne_of_none r5 ne0
    have s6 : Same H (upd H5 e0 (.lst [])) := same_put s5 (s5.free ne0)
    have g6 : upd H5 e0 (.lst []) p = some (.lst (cs.map V.int)) := by
      rw [upd_ne p0]
      exact g5
    have d6 : upd H5 e0 (.lst []) D = some (.lst (acc.map V.int)) := by
      rw [upd_ne d0]
      exact d5
    have r6 : upd H5 e0 (.lst []) r = some (.dK []) := by
      rw [upd_ne r0]
      exact r5
    have l6 : upd H5 e0 (.lst []) e0 = some (.lst ([] : List V)) := upd_same
    generalize upd H5 e0 (.lst []) = H6 at s6 g6 d6 r6 l6 ⊢
    refine ⟨.list (acc.map PyData.int), .list [], .lst (SqL.of d6) (dp_ints acc), .lst (SqL.of l6) .nil, shaped_ints acc, shaped_ints [], _, rfl, ?_⟩
    refine tif_both (fun v => ∃ L : Int, v = .int L) ?_ ?_ ?_
    · rintro _ ⟨L, rfl⟩
      refine ⟨.int sd, rfl, .ref p, rfl, .int k, rfl, 53, k, rfl, rfl, .inl ⟨by decide, by decide⟩, _, 11, rfl, rfl, (by show 1 ≤ sizeLine; decide), fun e1 ne1 => ?_⟩
      have p1' : p ≠ e1 := ne_of_none g6 ne1
      have r1' : r ≠ e1 := ne_of_none r6 ne1
      have s7 : Same H (upd H6 e1 (.lst [.int (53 * k + 11)])) := same_put s6 (s6.free ne1)
      refine ⟨p, e1, cs.map V.int, [.int (53 * k + 11)], rfl, rfl, ?_, upd_same, ?_, fun c nc => ?_⟩
      · rw [upd_ne p1']
        exact g6
      · rw [List.length_map]
        exact Nat.le_of_lt (small1000 (show cs.length + 1 ≤ 1000 by omega))
      have r7 : upd H6 e1 (.lst [.int (53 * k + 11)]) r = some (.dK []) := by
        rw [upd_ne r1']
        exact r6
      have rc : r ≠ c := ne_of_none r7 nc
      have s8 := same_put (o := .lst (cs.map V.int ++ [.int (53 * k + 11)])) s7 (s7.free nc)
      refine ⟨?_, mkv L sd c 0, rfl, (by show 4 ≤ 15; decide), ?_⟩
      · rw [upd_ne rc]
        exact r7
      refine q _ _ _ (same_put s8 hr0) hr0 ⟨L, sd, 0, cs ++ [53 * k + 11], upd_same, ?_, ?_, by omega, by omega⟩
      · rw [upd_ne (Ne.symm rc), upd_same, List.map_append]
        rfl
      · rw [List.length_append]
        exact Nat.succ_pos _
    · intro hc hQ
      cases acc with
      | nil => exact absurd hc (by decide)
      | cons z zs => exact ⟨.ref D, rfl, D, _, 0, .int z, rfl, rfl, SqL.of d6, atI_nat (j := 0) rfl, hQ _ ⟨z, rfl⟩⟩
    · intro hc hQ
      exact hQ _ ⟨0, rfl⟩
end
end K15
/-! Data that is shown by a short text. -/
namespace Vk
open PySem PySem.Spec PyProof.Rows L2
/-- levels at most k, items at most n, each int of few bits -/
structure FitN (k n : Nat) (d : PyData) : Prop where
  s : d.showable = true
  h : d.hasDict = false
  dp : d.depth ≤ k
  l : d.leavesShort 2000 = true
  b : d.bulk ≤ n
structure FitLN (k n : Nat) (ds : List PyData) : Prop where
  s : PyData.showableAll ds = true
  h : PyData.hasDictAll ds = false
  dp : PyData.depthAll ds ≤ k
  l : PyData.leavesShortAll 2000 ds = true
  b : PyData.bulkAll ds ≤ n
theorem FitLN.nil {k n : Nat} : FitLN k n [] := ⟨by simp [PyData.showableAll], by simp [PyData.hasDictAll], by simp [PyData.depthAll], by simp [PyData.leavesShortAll], by simp [PyData.bulkAll]⟩
theorem FitLN.cons {k a b n : Nat} {d : PyData} {ds : List PyData} (x : FitN k a d) (y : FitLN k b ds) (hn : a + 1 + b ≤ n) : FitLN k n (d :: ds) :=
  ⟨by simp [PyData.showableAll, x.s, y.s], by simp [PyData.hasDictAll, x.h, y.h], by have := x.dp; have := y.dp; simp only [PyData.depthAll]; omega, by simp [PyData.leavesShortAll, x.l, y.l], by have := x.b; have := y.b; simp only [PyData.bulkAll]; omega⟩
theorem FitN.list {k n : Nat} {ds : List PyData} (y : FitLN k n ds) : FitN (k + 1) n (.list ds) :=
  ⟨by simp [PyData.showable, y.s], by simp [PyData.hasDict, y.h], by have := y.dp; simp only [PyData.depth]; omega, by simp [PyData.leavesShort, y.l], by have := y.b; simp only [PyData.bulk]; omega⟩
theorem FitN.tup {k n : Nat} {ds : List PyData} (y : FitLN k n ds) : FitN (k + 1) n (.tuple ds) :=
  ⟨by simp [PyData.showable, y.s], by simp [PyData.hasDict, y.h], by have := y.dp; simp only [PyData.depth]; omega, by simp [PyData.leavesShort, y.l], by have := y.b; simp only [PyData.bulk]; omega⟩
theorem FitN.non {k n : Nat} : FitN k n .none := ⟨by simp [PyData.showable], by simp [PyData.hasDict], by simp [PyData.depth], by simp [PyData.leavesShort], by simp [PyData.bulk]⟩
theorem FitN.bl {k n : Nat} (b : Bool) : FitN k n (.bool b) := ⟨by simp [PyData.showable], by simp [PyData.hasDict], by simp [PyData.depth], by simp [PyData.leavesShort], by simp [PyData.bulk]⟩
theorem FitN.int {k n : Nat} {i : Int} (hi : i.natAbs < 2 ^ 1900) : FitN k n (.int i) := by
  have lg : i.natAbs.log2 < 1900 := PySem.Flt.log2_lt_of (by decide) hi
  refine ⟨by simp only [PyData.showable, decide_eq_true_eq]; omega, by simp [PyData.hasDict], by simp [PyData.depth], ?_, by simp [PyData.bulk]⟩
  have h1 := int_text_length_le (by decide) lg
  have h2 : (PyData.shown (.int i)).length = (Str.ofString (toString i)).length := by simp only [PyData.shown]
  rw [PySem.ofString_length] at h2
  have h3 : (PyData.shown (.int i)).length ≤ 2000 := by omega
  simpa only [PyData.leavesShort, decide_eq_true_eq] using h3
theorem FitN.str {k n : Nat} (x : Str) (h : (x.cps.toList.all fun c => decide (c < 16 ^ 8)) = true) (hn : x.cps.size ≤ n) : FitN k n (.str x) :=
  ⟨by simp [PyData.showable], by simp [PyData.hasDict], by simp [PyData.depth], by simpa only [PyData.leavesShort] using h, by simp only [PyData.bulk]; omega⟩
theorem FitN.mono {k n k' n' : Nat} {d : PyData} (x : FitN k n d) (h1 : k ≤ k') (h2 : n ≤ n') : FitN k' n' d := ⟨x.s, x.h, Nat.le_trans x.dp h1, x.l, Nat.le_trans x.b h2⟩
/-- the text is not too long -/
theorem FitN.len {k n : Nat} {d : PyData} (x : FitN k n d) (hn : n ≤ 8000) : d.shown.length ≤ sizeLine := by
  have h := PyData.shown_le_bulk 2000 (by decide) d x.l
  have h2 : (2000 + 2) * d.bulk ≤ 2002 * 8000 := Nat.mul_le_mul_left _ (Nat.le_trans x.b hn)
  rw [sizeLine_eq]
  omega
/-- the text of a short value -/
def Fit (d : PyData) : Prop := FitN 60 8000 d
theorem rep_ {K : PySem.W.Frag} {H : Hp} {x : V} {d : PyData} {Q : VK} (hD : Dp K H x d) (f : Fit d) (q : Q (.str d.shown) H) : rRep K [x] H Q := ⟨x, d, rfl, hD, f.s, f.h, f.dp, f.len (Nat.le_refl _), q⟩
end Vk
namespace Vk
open PySem PySem.Spec PyProof.Rows L2
/-- both ways of an if lead to what follows -/
theorem tifs_both {c : Bool} {t u : TS} {D : Ends} {σ : L2.St} {H : Hp} (Good : L2.St → Hp → Prop) (hQ : ∀ σ' H', Good σ' H' → D.nx σ' H') (ht : c = true → (∀ σ' H', Good σ' H' → D.nx σ' H') → t D σ H)
    (hu : c = false → (∀ σ' H', Good σ' H' → D.nx σ' H') → u D σ H) : if c = true then t D σ H else u D σ H := by
  cases c with
  | true => exact iteT (ht rfl hQ)
  | false => exact iteF (hu rfl hQ)
theorem SameBut.free {m p : Addr} {H H' : Hp} (s : SameBut m H H') (hm : ∃ o, H' m = some o) (h : H' p = none) : H p = none := by
  cases q : H p with
  | none => rfl
  | some o =>
    by_cases e : p = m
    · subst e
      obtain ⟨o', z⟩ := hm
      rw [h] at z
      cases z
    · have z := s p o e q
      rw [h] at z
      cases z
end Vk
namespace Vk
open PySem PySem.Spec PyProof.Rows L2
/-- both ways of a conditional expression lead to what follows, where they make things -/
theorem tif_bothH {c : Bool} {ta tb : TE} {σ : L2.St} {H : Hp} {Q : VK} (Good : V → Hp → Prop) (hQ : ∀ v H', Good v H' → Q v H') (ha : c = true → (∀ v H', Good v H' → Q v H') → ta σ H Q) (hb : c = false → (∀ v H', Good v H' → Q v H') → tb σ H Q) :
    if c = true then ta σ H Q else tb σ H Q := by
  cases c with
  | true => exact iteT (ha rfl hQ)
  | false => exact iteF (hb rfl hQ)
end Vk
namespace Vk
open PySem PySem.Spec PyProof.Rows L2
/-- a value of one of seven kinds -/
inductive Oky (H : Hp) : V → String → Prop where
  | non : Oky H .non "NoneType"
  | bl (b : Bool) : Oky H (.bl b) "bool"
  | int (i : Int) : Oky H (.int i) "int"
  | str (x : Str) : Oky H (.str x) "str"
  | lst {a : Addr} {xs : List V} (e : H a = some (.lst xs)) : Oky H (.ref a) "list"
  | tup {a : Addr} {xs : List V} (e : H a = some (.tup xs)) : Oky H (.ref a) "tuple"
  | dK {a : Addr} {kvs : List (Key × V)} (e : H a = some (.dK kvs)) : Oky H (.ref a) "dict"
theorem Oky.ty {K : PySem.W.Frag} {H : Hp} {x : V} {t : String} (h : Oky H x t) : TyX K H x (.type t) := by
  cases h with
  | non => exact .base .non
  | bl b => exact .base (.bl b)
  | int i => exact .base (.int i)
  | str x => exact .base (.str x)
  | lst e => exact .base (.lst e)
  | tup e => exact .base (.tup e)
  | dK e => exact .base (.dK e)
theorem Oky.same {H H' : Hp} {x : V} {t : String} (h : Oky H x t) (s : Same H H') : Oky H' x t := by
  cases h with
  | non => exact .non
  | bl b => exact .bl b
  | int i => exact .int i
  | str x => exact .str x
  | lst e => exact .lst (s _ _ e)
  | tup e => exact .tup (s _ _ e)
  | dK e => exact .dK (s _ _ e)
theorem Oky.kTup {H : Hp} {x : V} {t : String} (h : Oky H x t) : kitB t "tuple" = some (decide (t = "tuple")) := by
  cases h <;> decide +kernel
theorem Oky.kInt {H : Hp} {x : V} {t : String} (h : Oky H x t) : kitB t "int" = some (decide (t = "int" ∨ t = "bool")) := by
  cases h <;> decide +kernel
theorem Oky.kBool {H : Hp} {x : V} {t : String} (h : Oky H x t) : kitB t "bool" = some (decide (t = "bool")) := by
  cases h <;> decide +kernel
def isInt : V → Bool
  | .int _ => true
  | _ => false
theorem Oky.isInt {H : Hp} {x : V} {t : String} (h : Oky H x t) : isInt x = decide (t = "int") := by
  cases h <;> simp [Vk.isInt]
/-- the reading of isinstance(x, T) -/
theorem isi_ {K : PySem.W.Frag} {H : Hp} {x : V} {t T : String} {b : Bool} {Q : VK} (h : Oky H x t) (k : kitB t T = some b) (q : Q (.bl b) H) : rIsi K [x, .ty T] H Q :=
  ⟨x, .ty T, _, _, b, rfl, .ty T, h.ty, kit_ty k, q⟩
end Vk
/-! zip of a list and a tuple in any mix, enumerate of a tuple. -/
namespace Vk
open PySem PySem.Spec PyProof.Rows L2
/-- a list (true) or a tuple (false) -/
def SqK : Bool → PySem.W.Frag → Hp → Addr → List V → Prop
  | true => SqL
  | false => SqT
def ItA : Bool → Heap → Addr → Addr → Nat → Prop
  | true => Heap.IsListIter
  | false => Heap.IsTupleIter
def AtA : Bool → Heap → Addr → Array Value → Prop
  | true => Heap.IsList
  | false => Heap.IsTuple
/-- a new iterator's object -/
def itO : Bool → Addr → Obj
  | true, l => { cls := .type "list_iterator", data := .fields #[.ref l, .int 0 0] }
  | false, l => { cls := .type "tuple_iterator", data := .fields #[.ref l, .int 0 0] }
section
variable {X : Cx} {pins : List (Addr × Obj)} {σ : L2.St} {H : Hp} {s : Shared} {b : Bool} {a : Addr} {xs ys : List V} {h h' : Heap} {it l : Addr} {i : Nat}
theorem seqK (I : Inv X pins σ H s) (q : SqK b X.K H a xs) : ∃ its : List Value, Vals xs its ∧ AtA b s.heap a its.toArray := by
  cases b with
  | true =>
    obtain ⟨its, r, p, _⟩ := I.list q
    exact ⟨its, r, p.isList⟩
  | false =>
    obtain ⟨its, r, p, _⟩ := I.tuple q
    exact ⟨its, r, p⟩
theorem injK (I : Inv X pins σ H s) (q : SqK b X.K H a xs) (q' : SqK b X.K H a ys) : xs = ys := by
  cases b with
  | true => exact I.list_inj q q'
  | false => exact I.tuple_inj q q'
theorem ItA.at (q : ItA b h it l i) (k : ∀ o, h.get? it = some o → h'.get? it = some o) : ItA b h' it l i := by
  cases b with
  | true => exact Heap.IsListIter.at q k
  | false => exact Heap.IsTupleIter.at q k
theorem ItA.obj (q : ItA b h it l i) : ∃ o, h.get? it = some o ∧ ∀ v, o.data ≠ .cell v := by
  cases b with
  | true =>
    obtain ⟨o, e, _, d⟩ := q
    exact ⟨o, e, fun v z => by rw [d] at z; cases z⟩
  | false =>
    obtain ⟨o, e, _, d⟩ := q
    exact ⟨o, e, fun v z => by rw [d] at z; cases z⟩
theorem ItA.new (q : h.get? it = some (itO b l)) : ItA b h it l 0 := by
  cases b with
  | true => exact ⟨_, q, rfl, rfl⟩
  | false => exact ⟨_, q, rfl, rfl⟩
theorem drawsK {prog : Program} {w : World} {A : Around} (hh : A.handled = none) (hne : l ≠ it) (items : Array Value) :
    Draws prog w A it [it, l] items.size (fun i v => items[i]? = some v) (fun i h => ItA b h it l i ∧ AtA b h l items) := by
  cases b with
  | true => exact Draws.list hh it l hne items
  | false => exact Draws.tuple hh it l hne items
theorem beginsK (l : Addr) (items : Array Value) : Begins (.ref l) (itO b l) fun h => AtA b h l items := by
  cases b with
  | true => exact begins_list l items
  | false => exact begins_tuple l items
theorem AtA.lt {items : Array Value} (q : AtA b h l items) : l < h.objs.size := by
  cases b with
  | true =>
    obtain ⟨o, e, _⟩ := q
    exact Heap.lt_size e
  | false =>
    obtain ⟨o, e, _⟩ := q
    exact Heap.lt_size e
end
/-- two of either kind, the items in new pairs -/
def ItzK (b1 b2 : Bool) (K : PySem.W.Frag) (a b : Addr) : It :=
  ⟨fun i H => ∃ (xs ys : List V) (x y : V), SqK b1 K H a xs ∧ SqK b2 K H b ys ∧ xs[i]? = some x ∧ ys[i]? = some y,
    fun i H v H' => ∃ T x y, v = .ref T ∧ H T = none ∧ H' = upd H T (.tup [x, y]) ∧ (∀ xs, SqK b1 K H a xs → xs[i]? = some x) ∧ ∀ ys, SqK b2 K H b ys → ys[i]? = some y,
    fun i H => ∃ xs ys : List V, SqK b1 K H a xs ∧ SqK b2 K H b ys ∧ i ≤ xs.length ∧ i ≤ ys.length ∧ (i = xs.length ∨ i = ys.length)⟩
theorem walk_zipK {b1 b2 : Bool} {K : PySem.W.Frag} {a b : Addr} {xs ys : List V} {n : Nat} (hn : n = min xs.length ys.length) : Walk (ItzK b1 b2 K a b) n (fun H => SqK b1 K H a xs ∧ SqK b2 K H b ys) (YPair (fun i => xs[i]?) (fun i => ys[i]?)) where
  goes := fun i H hi ⟨q1, q2⟩ => by
    have l1 : i < xs.length := by omega
    have l2 : i < ys.length := by omega
    exact ⟨xs, ys, xs[i], ys[i], q1, q2, List.getElem?_eq_getElem l1, List.getElem?_eq_getElem l2⟩
  stops := fun H ⟨q1, q2⟩ => ⟨xs, ys, q1, q2, by omega, by omega, by omega⟩
  yields := fun i H v H' hi ⟨q1, q2⟩ ⟨T, x, y, e1, e2, e3, f1, f2⟩ => ⟨T, x, y, e1, e2, e3, f1 _ q1, f2 _ q2⟩
section
variable {P : Program} {w : World} {K : PySem.W.Frag} {elts : List Expr} {kk : Nat} {tpos : Pos}
theorem five {c z TI TO i1 i2 : Addr} (h : c ∈ [z, TI, TO, i1, i2]) : c = z ∨ c = TI ∨ c = TO ∨ c = i1 ∨ c = i2 := by simpa using h
theorem turn_zipK {b1 b2 : Bool} {a b z TI TO i1 i2 : Addr} (S : ZipSep2 z TI TO i1 i2 [i1, a] [i2, b]) (ha : a ≠ i1) (hb : b ≠ i2) :
    Turn P w K (.Tuple elts kk tpos) (ItzK b1 b2 K a b) [z, TI, TO, i1, i2] z (fun i h => IsZip h z TI TO .none ∧ IsPair h TI (.ref i1) (.ref i2) ∧ (∃ x y, IsPair h TO x y) ∧ ItA b1 h i1 a i ∧ ItA b2 h i2 b i) where
  mem := List.mem_cons_self
  obj := fun i h st c hc => by
    obtain ⟨hz, hTI, ⟨x, y, hTO⟩, q1, q2⟩ := st
    rcases five hc with rfl | rfl | rfl | rfl | rfl
    · exact ⟨_, hz, fun v q => nomatch q⟩
    · exact ⟨_, hTI, fun v q => nomatch q⟩
    · exact ⟨_, hTO, fun v q => nomatch q⟩
    · exact q1.obj
    · exact q2.obj
  keep := fun i h h' st k => by
    obtain ⟨hz, hTI, ⟨x, y, hTO⟩, q1, q2⟩ := st
    exact ⟨k z (by simp) _ hz, k TI (by simp) _ hTI, ⟨x, y, k TO (by simp) _ hTO⟩, q1.at (k i1 (by simp)), q2.at (k i2 (by simp))⟩
  item := by
    intro X hP hw hK hc i pins s σ H E I hf st hg
    subst hP hw hK
    obtain ⟨hz, hTI, ⟨x0, y0, hTO⟩, q1, q2⟩ := st
    obtain ⟨xs, ys, x, y, sx, sy, hx, hy⟩ := hg
    obtain ⟨its1, r1, p1⟩ := seqK I sx
    obtain ⟨its2, r2, p2⟩ := seqK I sy
    obtain ⟨u, hu, ru⟩ := r1.get hx
    obtain ⟨u2, hu2, ru2⟩ := r2.get hy
    have hd : X.A.in1.handled = none := I.ok.hd hc
    have l1 : i < its1.toArray.size := by
      have := (List.getElem?_eq_some_iff.mp hu).1
      simpa using this
    have l2 : i < its2.toArray.size := by
      have := (List.getElem?_eq_some_iff.mp hu2).1
      simpa using this
    have zl : z < s.heap.objs.size := Heap.lt_size hz
    refine wpAny_pyNext_zipD2_item S (drawsK (prog := X.prog) (w := X.w) (b := b1) hd ha its1.toArray) (drawsK (prog := X.prog) (w := X.w) (b := b2) hd hb its2.toArray) hz hTI hTO ⟨q1, p1⟩ ⟨q2, p2⟩ l1 l2 fun v1 v2 h' tk e1 e2 z' TO' s1' s2' hT hsz hk => ?_
    have ev1 : v1 = u := by
      have : its1[i]? = some v1 := by simpa using e1
      rw [hu] at this
      exact (Option.some.inj this).symm
    have ev2 : v2 = u2 := by
      have : its2[i]? = some v2 := by simpa using e2
      rw [hu2] at this
      exact (Option.some.inj this).symm
    subst ev1 ev2
    refine ⟨_, rfl, wpAny_letOwnedTupleGo_zip (s := { s with heap := h', toks := tk }) z' fun h'' z'' sb => ?_⟩
    have hT2 : h''.get? s.heap.objs.size = some { cls := .type "tuple", data := .seq #[v1, v2] } := (sb.2 _ (Nat.ne_of_gt zl)).trans hT
    have new : ObjOk X.prog X.w (upd H s.heap.objs.size (.tup [x, y])) h'' s.heap.objs.size (.tup [x, y]) :=
      ⟨by show 2 ≤ sizeLine; decide, [v1, v2], .cons ru (.cons ru2 .nil), ⟨_, hT2, rfl, _, rfl⟩⟩
    have I1 : Inv X pins σ (upd H s.heap.objs.size (.tup [x, y])) { s with heap := h'', toks := tk } :=
      I.turnedNew (t' := tk) (ch := [z, TI, TO, i1, i2]) (fun c o hc q => (sb.2 c fun q' => hc (by simp [q'])).trans (hk c o (fun q' => hc (by simp [q'])) (fun q' => hc (by simp [q'])) (fun q' => hc (by simp [q'])) (fun q' => hc (by simp [q'])) q)) hf (Nat.le_refl _) new
    have nz1 : i1 ≠ z := fun e => S.zf1 (by rw [e]; exact List.mem_cons_self)
    have nz2 : i2 ≠ z := fun e => S.zf2 (by rw [e]; exact List.mem_cons_self)
    refine ⟨.ref s.heap.objs.size, _, I1, rfl, ⟨_, x, y, rfl, I.hok.fresh (Nat.le_refl _), rfl, fun l hl => by rw [injK I hl sx]; exact hx, fun l hl => by rw [injK I hl sy]; exact hy⟩, ⟨z'', ?_, ⟨v1, v2, ?_⟩, ?_, ?_⟩, fun c hcm => ?_⟩
    · exact (sb.2 _ S.TIz).trans (hk _ _ S.TIz S.TITO S.TIi1 S.TIi2 hTI)
    · exact (sb.2 _ S.TOz).trans TO'
    · exact s1'.1.at fun o q => (sb.2 _ nz1).trans q
    · exact s2'.1.at fun o q => (sb.2 _ nz2).trans q
    · have lt : c < s.heap.objs.size := by
        rcases five hcm with rfl | rfl | rfl | rfl | rfl
        · exact zl
        · exact Heap.lt_size hTI
        · exact Heap.lt_size hTO
        · obtain ⟨o, e, _⟩ := q1.obj
          exact Heap.lt_size e
        · obtain ⟨o, e, _⟩ := q2.obj
          exact Heap.lt_size e
      rw [upd_ne (Nat.ne_of_lt lt)]
      exact (hf c hcm).1
  done := by
    intro X hP hw hK hc i pins s σ H E I hf st hg
    subst hP hw hK
    obtain ⟨hz, hTI, ⟨x0, y0, hTO⟩, q1, q2⟩ := st
    obtain ⟨xs, ys, sx, sy, l1, l2, le⟩ := hg
    obtain ⟨its1, r1, p1⟩ := seqK I sx
    obtain ⟨its2, r2, p2⟩ := seqK I sy
    have hd : X.A.in1.handled = none := I.ok.hd hc
    have m1 := r1.length
    have m2 := r2.length
    refine wpAny_pyNext_zipD2_end S (drawsK (prog := X.prog) (w := X.w) (b := b1) hd ha its1.toArray) (drawsK (prog := X.prog) (w := X.w) (b := b2) hd hb its2.toArray) hz hTI hTO ⟨q1, p1⟩ ⟨q2, p2⟩ (by simp; omega) (by simp; omega) (by simp; omega) fun h' tk hk => ⟨rfl, ?_⟩
    exact I.turnedL (t' := tk) (ch := [z, TI, TO, i1, i2]) (fun c o hc q => hk c o (fun q' => hc (by simp [q'])) (fun q' => hc (by simp [q'])) (fun q' => hc (by simp [q'])) (fun q' => hc (by simp [q'])) q) hf
  self := fun A i s Q E st h => wpAny_pyIter_zip st.1 h
def iZipK (K : PySem.W.Frag) (ta : TA) : TI := fun σ H R => ta σ H fun vs H1 => ∃ b1 b2 a b xs ys, vs = [.ref a, .ref b] ∧ SqK b1 K H1 a xs ∧ SqK b2 K H1 b ys ∧ R (ItzK b1 b2 K a b) H1
theorem pi_zipK {X : Cx} {e e2 : Expr} {ta : TA} {p pos : Pos} (hg : Gl X "zip") (hm : X.mg "zip" = none) (ha : PA X [e, e2] ta)
    (hs : starEach [e, e2] X.env = (false, eval e X.env) :: starEach [e2] X.env := by rfl) (hpl : (backTo pos (starEach [e2] X.env)).any (·.1) = false := by rfl) :
    PI X (.Tuple elts kk tpos) (.Call (.Name "zip" p) [e, e2] [] pos) (iZipK X.K ta) := by
  refine ⟨fun pins s σ H R I h => ?_⟩
  refine Call_ (ld_blt I hg hm PyProof.Rows.boot_zip (PyProof.Rows.callWith_type1 (thn (ha.run pos pins s σ H _ I h) fun us s1 q => ?_) hs hpl))
  obtain ⟨vs, H1, I1, r1, b1, b2, a, b, xs, ys, rfl, sx, sy, q⟩ := q
  obtain ⟨u1, u2, rfl, e1, e2⟩ := vals2 r1
  cases e1
  cases e2
  obtain ⟨its1, _, p1⟩ := seqK I1 sx
  obtain ⟨its2, _, p2⟩ := seqK I1 sy
  refine zip_begins2 (beginsK (b := b1) a its1.toArray) (beginsK (b := b2) b its2.toArray) p1 p2 fun h' hz hTI hTO g1 g2 hsz hk => wpAny_pyIter_zip hz ?_
  have I2 : Inv X pins σ H1 { s1 with heap := h' } := I1.kept (t' := s1.toks) hk
  have na : a < s1.heap.objs.size := p1.lt
  have nb : b < s1.heap.objs.size := p2.lt
  have S : ZipSep2 (s1.heap.objs.size + 4) (s1.heap.objs.size + 2) (s1.heap.objs.size + 3) s1.heap.objs.size (s1.heap.objs.size + 1) [s1.heap.objs.size, a] [s1.heap.objs.size + 1, b] :=
    zip_sep2 (fun c hc => by rw [List.mem_singleton.mp hc]; exact na) (fun c hc => by rw [List.mem_singleton.mp hc]; exact nb)
  refine ⟨s1.heap.objs.size + 4, [s1.heap.objs.size + 4, s1.heap.objs.size + 2, s1.heap.objs.size + 3, s1.heap.objs.size, s1.heap.objs.size + 1], _, _, H1, rfl, I2, turn_zipK S (Nat.ne_of_lt na) (Nat.ne_of_lt (Nat.lt_succ_of_lt nb)), ⟨hz, hTI, ⟨_, _, hTO⟩, .new g1, .new g2⟩, fun c hc => ?_, q⟩
  have le : s1.heap.objs.size ≤ c := by
    rcases five hc with rfl | rfl | rfl | rfl | rfl <;> omega
  exact I1.fpOk le (I1.hok.fresh le)
theorem meets_enum1 {v : Value} {o : Obj} {H : Heap → Prop} (B : Begins v o H) :
    Meets (Builtin.«enumerate.__new__» ⟨[.type "enumerate", v], []⟩) (fun _ R s => H s.heap ∧
      R (.ok (.ret (.ref (s.heap.push o).objs.size))) { s with heap := (s.heap.push o).push { cls := .type "enumerate", data := .fields #[.none, .bool false, .ref s.heap.objs.size, rawInt 0, .none, .none] } }) :=
  .of_wp fun prog w A R s h => by
    obtain ⟨hp, g, d, tk, os⟩ := s
    obtain ⟨h1, h⟩ := h
    have sub := sub_enumerate
    have it : ∀ {A' : Around} {E : Value → Shared → Prop} {Q : Value → Shared → Prop}, Q (.ref hp.objs.size) ⟨hp.push o, g, d, tk, os⟩ → wpAny (model prog w) A' (pyIter v) Q E ⟨hp, g, d, tk, os⟩ :=
      fun q => B.iter prog w _ _ ⟨hp, g, d, tk, os⟩ _ h1 q
    wp_walk using it
    refine wpAny_stack_any fun st => wpAny_pure ?_
    split
    · rename_i c _ _ _ _ _
      cases (c == Value.type "enumerate") <;> (wp_walk using it; exact ⟨_, rfl, h⟩)
    · wp_walk using it
      exact ⟨_, rfl, h⟩
theorem call_enum1 {prog : Program} {A : Around} {E : Value → Shared → Prop} {s : Shared} {v : Value} {o : Obj} {H : Heap → Prop} {Q : Value → Shared → Prop} (B : Begins v o H) (h1 : H s.heap)
    (h : ∀ h', IsEnum h' (s.heap.objs.size + 1) s.heap.objs.size 0 .none → h'.get? s.heap.objs.size = some o → (∀ b u, s.heap.get? b = some u → h'.get? b = some u) → Q (.ref (s.heap.objs.size + 1)) { s with heap := h' }) :
    wpAny (model prog w) A (call (.type "enumerate") [v]) Q E s := by
  refine callType_new F.called_enumerate (by decide) (F.typeCall_enumerate_1 _) (F.newCall_enumerate_1 _) (fun obj => F.args_object_init_2 obj _) F.entry_enumerate_new (meets_enum1 B) ⟨h1, ?_⟩
  have z : (s.heap.push o).objs.size = s.heap.objs.size + 1 := Heap.size_push ..
  show _ ∧ _
  rw [z]
  have e : IsEnum ((s.heap.push o).push { cls := .type "enumerate", data := .fields #[.none, .bool false, .ref s.heap.objs.size, rawInt 0, .none, .none] }) (s.heap.objs.size + 1) s.heap.objs.size 0 .none := by
    have y := Heap.get?_push_size (s.heap.push o) (o := { cls := .type "enumerate", data := .fields #[.none, .bool false, .ref s.heap.objs.size, rawInt 0, .none, .none] }) rfl
    rw [z] at y
    exact y
  exact ⟨⟨_, e, rfl⟩, h _ e (Heap.get?_push_of_some _ (Heap.get?_push_size _ B.free)) fun b u x => Heap.get?_push_of_some _ (Heap.get?_push_of_some _ x)⟩
/-- one of either kind, each item in a new pair behind its number -/
def IteK (b : Bool) (K : PySem.W.Frag) (a : Addr) : It :=
  ⟨fun i H => ∃ (xs : List V) (x : V), SqK b K H a xs ∧ xs[i]? = some x, fun i H v H' => ∃ T x, v = .ref T ∧ H T = none ∧ H' = upd H T (.tup [.int (i : Nat), x]) ∧ ∀ xs, SqK b K H a xs → xs[i]? = some x,
    fun i H => ∃ xs : List V, SqK b K H a xs ∧ xs.length = i⟩
theorem walk_enumK {b : Bool} {a : Addr} {xs : List V} : Walk (IteK b K a) xs.length (fun H => SqK b K H a xs) (YPair (fun i => some (.int (i : Nat))) (fun i => xs[i]?)) where
  goes := fun i H hi q => ⟨xs, xs[i], q, List.getElem?_eq_getElem hi⟩
  stops := fun H q => ⟨xs, q, rfl⟩
  yields := fun i H v H' hi q ⟨T, x, e1, e2, e3, f⟩ => ⟨T, _, x, e1, e2, e3, rfl, f _ q⟩
theorem turn_enumK {b : Bool} {a e it : Addr} (ha : a ≠ it) (hea : e ≠ a) (hei : e ≠ it) :
    Turn P w K (.Tuple elts kk tpos) (IteK b K a) [e, it] e (fun i h => (∃ old, IsEnum h e it ((i : Nat) : Int) old) ∧ ItA b h it a i) where
  mem := List.mem_cons_self
  obj := fun i h st c hc => by
    obtain ⟨⟨old, he⟩, q⟩ := st
    rcases List.mem_cons.mp hc with rfl | hc
    · exact ⟨_, he, fun v z => nomatch z⟩
    · rw [List.mem_singleton.mp hc]
      exact q.obj
  keep := fun i h h' st k => by
    obtain ⟨⟨old, he⟩, q⟩ := st
    exact ⟨⟨old, k e (by simp) _ he⟩, q.at (k it (by simp))⟩
  item := by
    intro X hP hw hK hc i pins s σ H E I hf st hg
    subst hP hw hK
    obtain ⟨⟨old, he⟩, q⟩ := st
    obtain ⟨xs, x, sx, hx⟩ := hg
    obtain ⟨its, r, p⟩ := seqK I sx
    obtain ⟨u, hu, ru⟩ := r.get hx
    have hd : X.A.in1.handled = none := I.ok.hd hc
    have l1 : i < its.toArray.size := by
      have := (List.getElem?_eq_some_iff.mp hu).1
      simpa using this
    have el : e < s.heap.objs.size := Heap.lt_size he
    have il : it < s.heap.objs.size := by
      obtain ⟨o, z, _⟩ := q.obj
      exact Heap.lt_size z
    refine wpAny_pyNext_enum_itemD (drawsK (prog := X.prog) (w := X.w) (b := b) hd ha its.toArray) he ⟨q, p⟩ l1 hei (by simp [hei, hea]) fun v h' tk e1 ho st' hT hsz hk => ?_
    have ev : v = u := by
      have : its[i]? = some v := by simpa using e1
      rw [hu] at this
      exact (Option.some.inj this).symm
    subst ev
    refine ⟨_, rfl, wpAny_letOwnedTupleGo_enum (s := { s with heap := h', toks := tk + 1 }) ho fun h'' he' sb => ?_⟩
    have hT2 : h''.get? s.heap.objs.size = some { cls := .type "tuple", data := .seq #[.int i tk, v] } := (sb.2 _ (Nat.ne_of_gt el)).trans hT
    have new : ObjOk X.prog X.w (upd H s.heap.objs.size (.tup [.int (i : Nat), x])) h'' s.heap.objs.size (.tup [.int (i : Nat), x]) :=
      ⟨by show 2 ≤ sizeLine; decide, [.int i tk, v], .cons ⟨_, rfl⟩ (.cons ru .nil), ⟨_, hT2, rfl, _, rfl⟩⟩
    have I1 : Inv X pins σ (upd H s.heap.objs.size (.tup [.int (i : Nat), x])) { s with heap := h'', toks := tk + 1 } :=
      I.turnedNew (ch := [e, it]) (fun c o hc z => (sb.2 c fun y => hc (by simp [y])).trans (hk c o (fun y => hc (by simp [y])) (fun y => hc (by simp [y])) z)) hf (Nat.le_refl _) new
    refine ⟨.ref s.heap.objs.size, _, I1, rfl, ⟨_, x, rfl, I.hok.fresh (Nat.le_refl _), rfl, fun ys hy => by rw [injK I hy sx]; exact hx⟩, ⟨⟨v, ?_⟩, st'.1.at fun o z => (sb.2 it (Ne.symm hei)).trans z⟩, fun c hc => ?_⟩
    · have e2 : ((i + 1 : Nat) : Int) = (i : Int) + 1 := by omega
      rw [e2]
      exact he'
    · have lt : c < s.heap.objs.size := by
        rcases List.mem_cons.mp hc with rfl | z
        · exact el
        · rw [List.mem_singleton.mp z]
          exact il
      rw [upd_ne (Nat.ne_of_lt lt)]
      exact (hf c hc).1
  done := by
    intro X hP hw hK hc i pins s σ H E I hf st hg
    subst hP hw hK
    obtain ⟨⟨old, he⟩, q⟩ := st
    obtain ⟨xs, sx, rfl⟩ := hg
    obtain ⟨its, r, p⟩ := seqK I sx
    have hd : X.A.in1.handled = none := I.ok.hd hc
    obtain ⟨f0, f1, f2, f3, f4, f5⟩ := hf it (by simp)
    have hl : xs.length = its.toArray.size := by
      rw [List.size_toArray]
      exact r.length
    refine wpAny_pyNext_enum_endD (drawsK (prog := X.prog) (w := X.w) (b := b) hd ha its.toArray) he (by rw [hl] at q; exact ⟨q, p⟩) fun h' eb => ⟨rfl, I.turned (t' := s.toks) (fun b o hb z => eb b o hb z) f0 f1 f3 f4 f5⟩
  self := fun A i s Q E st h => by
    obtain ⟨⟨old, he⟩, _⟩ := st
    exact wpAny_pyIter_enum he h
def iEnumK (K : PySem.W.Frag) (ta : TA) : TI := fun σ H R => ta σ H fun vs H1 => ∃ b a xs, vs = [.ref a] ∧ SqK b K H1 a xs ∧ R (IteK b K a) H1
theorem pi_enumK {X : Cx} {e : Expr} {ta : TA} {p pos : Pos} (hg : Gl X "enumerate") (hm : X.mg "enumerate" = none) (ha : PA X [e] ta) (hs : starEach [e] X.env = [(false, eval e X.env)] := by rfl) :
    PI X (.Tuple elts kk tpos) (.Call (.Name "enumerate" p) [e] [] pos) (iEnumK X.K ta) := by
  refine ⟨fun pins s σ H R I h => ?_⟩
  refine Call_ (ld_blt I hg hm boot_enumerate (PyProof.Rows.callWith_type1 (thn (ha.run pos pins s σ H _ I h) fun us s1 q => ?_) hs rfl))
  obtain ⟨vs, H1, I1, r1, b, a, xs, rfl, sx, q⟩ := q
  obtain ⟨u, rfl, e1⟩ := vals1 r1
  cases e1
  obtain ⟨its, _, p1⟩ := seqK I1 sx
  refine call_enum1 (beginsK (b := b) a its.toArray) p1 fun h' he g hk => wpAny_pyIter_enum he ?_
  have I2 : Inv X pins σ H1 { s1 with heap := h' } := I1.kept (t' := s1.toks) hk
  have na : a < s1.heap.objs.size := p1.lt
  refine ⟨s1.heap.objs.size + 1, [s1.heap.objs.size + 1, s1.heap.objs.size], _, _, H1, rfl, I2, turn_enumK (Nat.ne_of_lt na) (Nat.ne_of_gt (Nat.lt_succ_of_lt na)) (Nat.succ_ne_self _), ⟨⟨.none, he⟩, .new g⟩, fun c hc => ?_, q⟩
  have le : s1.heap.objs.size ≤ c := by
    rcases List.mem_cons.mp hc with rfl | z
    · exact Nat.le_succ _
    · rw [List.mem_singleton.mp z]
      exact Nat.le_refl _
  exact I1.fpOk le (I1.hok.fresh le)
end
end Vk
/-! Readings by what stands afterwards. -/
namespace Vk
open PySem PySem.Spec PyProof.Rows L2
theorem Same.seqT {K : PySem.W.Frag} {H H' : Hp} {a : Addr} {xs : List V} (s : Same H H') (h : SqT K H a xs) : SqT K H' a xs := by
  rcases h with (h | ⟨o, h⟩) | h
  · exact .inl (.inl (s _ _ h))
  · exact .inl (.inr ⟨o, s _ _ h⟩)
  · exact .inr h
theorem Same.seqK {b : Bool} {K : PySem.W.Frag} {H H' : Hp} {a : Addr} {xs : List V} (s : Same H H') (h : SqK b K H a xs) : SqK b K H' a xs := by
  cases b with
  | true => exact s.seq h
  | false => exact Same.seqT s h
/-- t + u -/
theorem cat_any {K : PySem.W.Frag} {H : Hp} {a b : Addr} {xs ys : List V} {Q : VK} (ha : SqT K H a xs) (hb : SqT K H b ys) (hl : xs.length + ys.length ≤ sizeLine) (q : ∀ r H', Same H H' → SqT K H' r (xs ++ ys) → Q (.ref r) H') : rCatA K (.ref a) (.ref b) H Q := by
  refine ⟨a, b, xs, ys, rfl, rfl, ha, hb, hl, fun e => ?_, fun _ e => ?_, fun _ _ p np => q p _ (same_new np) (SqT.of upd_same)⟩
  · subst e
    exact q b H (Same.refl _) hb
  · subst e
    exact q a H (Same.refl _) (by rw [List.append_nil]; exact ha)
theorem cutV_whole (xs : List V) (lo hi : Option Int) (h : HT.sIx xs.length 0 lo = 0 ∧ HT.sIx xs.length xs.length hi = xs.length) : cutV xs lo hi = xs := by
  unfold cutV
  rw [h.1, h.2, List.drop_zero, Nat.sub_zero, List.take_length]
/-- t[lo:hi] -/
theorem slice_any {K : PySem.W.Frag} {H : Hp} {a : Addr} {xs : List V} {lo hi : Option Int} {Q : VK} (ha : SqT K H a xs) (q : ∀ r H', Same H H' → SqT K H' r (cutV xs lo hi) → Q (.ref r) H') : rSlA K (.ref a) lo hi H Q :=
  ⟨a, xs, rfl, ha, fun h => q a H (Same.refl _) (by rw [cutV_whole xs lo hi h]; exact ha), fun _ p np => q p _ (same_new np) (SqT.of upd_same)⟩
/-- from one on -/
theorem cut1 {xs : List V} {x : V} : cutV (x :: xs) (some 1) none = xs := by
  unfold cutV
  have e1 : HT.sIx (x :: xs).length 0 (some 1) = 1 := by
    have h := HT.sIx_nat (x :: xs).length 0 1
    rw [List.length_cons] at h ⊢
    exact h.trans (by omega)
  have e2 : HT.sIx (x :: xs).length (x :: xs).length none = xs.length + 1 := by
    rw [HT.sIx_none, List.length_cons]
  rw [e1, e2, List.drop_succ_cons, List.drop_zero, Nat.add_sub_cancel, List.take_length]
/-- a comprehension without a test, over any walk, whose items are those of R -/
theorem lc_to {J : It} {n : Nat} {G : Hp → Prop} {Y : Nat → Hp → V → Hp → Prop} (w : Walk J n G Y) {g : TG} {te : TE} {vs : List Nat} {σ : L2.St} {H1 : Hp} {D : Addr} {Qd : Hp → Prop} (R : List V) (hn : R.length = n) (hz : n < sizeLine) (nD : H1 D = none)
    (hG : ∀ H, Same H1 H → G H)
    (hs : ∀ (i : Nat) (x y : V) (H H' : Hp) (Qy : VK), R[i]? = some y → i < n → Same H1 H → Y i H x H' → (∀ H4, Same H H4 → Qy y H4) → g x (wipe σ vs) H' fun σ2 H2 => wipe σ2 vs = wipe σ vs ∧ te σ2 H2 Qy)
    (hd : ∀ H, Same H1 H → H D = some (.lst R) → Qd H) :
    ∃ W : Nat → Nat → Hp → Prop, (∃ m, W 0 m (upd H1 D (.lst []))) ∧ ∀ i m H, W i m H →
      (J.stop i H ∧ Qd H) ∨ (J.go i H ∧ ∃ Nx : Hp → Prop, (∀ H', Nx H' → ∃ m', m' < m ∧ W (i + 1) m' H') ∧ ∀ x H', J.yld i H x H' → g x (wipe σ vs) H' fun σ2 H2 => wipe σ2 vs = wipe σ vs ∧ tYes σ2 H2 fun b H3 =>
        if b = true then te σ2 H3 fun y H4 => ∃ acc, H4 D = some (.lst acc) ∧ acc.length < sizeLine ∧ Nx (upd H4 D (.lst (acc ++ [y]))) else Nx H3) := by
  refine lc_it w (tt := tYes) (fun i H => Same H1 H ∧ H D = some (.lst (R.take i))) ⟨same_new nD, by rw [upd_same]; rfl⟩ (fun i H _ p => hG H p.1) ?_ ?_
  · rintro i x H H' hi ⟨s, d⟩ y
    have hiR : i < R.length := by omega
    obtain ⟨v, hv⟩ : ∃ v, R[i]? = some v := ⟨_, List.getElem?_eq_getElem hiR⟩
    exact hs i x v H H' (fun y H4 => ∃ acc, H4 D = some (.lst acc) ∧ acc.length < sizeLine ∧ Same H1 (upd H4 D (.lst (acc ++ [y]))) ∧ upd H4 D (.lst (acc ++ [y])) D = some (.lst (R.take (i + 1)))) hv hi s y fun H4 s4 => by
      refine ⟨R.take i, s4 _ _ d, ?_, same_put (s.trans s4) nD, ?_⟩
      · rw [List.length_take]
        omega
      · rw [upd_same, List.take_add_one, hv]
        rfl
  · rintro H ⟨s, d⟩
    refine hd H s ?_
    rw [d, ← hn, List.take_length]
/-- a tuple that stands in the heap -/
def Tp (H : Hp) (a : Addr) (xs : List V) : Prop := H a = some (.tup xs)
theorem Tp.same {H H' : Hp} {a : Addr} {xs : List V} (h : Tp H a xs) (s : Same H H') : Tp H' a xs := s _ _ h
theorem Tp.t {K : PySem.W.Frag} {H : Hp} {a : Addr} {xs : List V} (h : Tp H a xs) : SqT K H a xs := SqT.of h
theorem Tp.but {m : Addr} {H H' : Hp} {a : Addr} {xs : List V} {kvs : List (Key × V)} (h : Tp H a xs) (hm : H m = some (.dK kvs)) (s : SameBut m H H') : Tp H' a xs := s _ _ (ne_of h hm (by intro z; cases z)) h
theorem cat_tp {K : PySem.W.Frag} {H : Hp} {a b : Addr} {xs ys : List V} {Q : VK} (ha : Tp H a xs) (hb : Tp H b ys) (hl : xs.length + ys.length ≤ sizeLine) (q : ∀ r H', Same H H' → Tp H' r (xs ++ ys) → Q (.ref r) H') : rCatA K (.ref a) (.ref b) H Q := by
  refine ⟨a, b, xs, ys, rfl, rfl, ha.t, hb.t, hl, fun e => ?_, fun _ e => ?_, fun _ _ p np => q p _ (same_new np) upd_same⟩
  · subst e
    exact q b H (Same.refl _) hb
  · subst e
    exact q a H (Same.refl _) (by rw [List.append_nil]; exact ha)
theorem slice_tp {K : PySem.W.Frag} {H : Hp} {a : Addr} {xs : List V} {lo hi : Option Int} {Q : VK} (ha : Tp H a xs) (q : ∀ r H', Same H H' → Tp H' r (cutV xs lo hi) → Q (.ref r) H') : rSlA K (.ref a) lo hi H Q :=
  ⟨a, xs, rfl, ha.t, fun h => q a H (Same.refl _) (by rw [cutV_whole xs lo hi h]; exact ha), fun _ p np => q p _ (same_new np) upd_same⟩
end Vk
namespace Vk
/-- |a| < 2 ^ n -/
def SmZ (n : Nat) (a : Int) : Prop := a.natAbs < 2 ^ n
end Vk
namespace K15
open PySem PySem.Spec PyProof.Rows L2 Vk
def dot (xs ys : List Int) : Int := (List.zipWith (· * ·) xs ys).sum
/-- rows of few and small numbers -/
def Row (H : Hp) (a : Addr) (xs : List Int) : Prop := Tp H a (xs.map V.int) ∧ xs.length ≤ 100 ∧ ∀ x ∈ xs, SmZ 300 x
theorem Row.same {H H' : Hp} {a : Addr} {xs : List Int} (h : Row H a xs) (s : Same H H') : Row H' a xs := ⟨h.1.same s, h.2⟩
theorem small {n : Nat} (h : n ≤ 100) : n < sizeLine := Nat.lt_of_le_of_lt h (by decide)
theorem zip_get {α : Type} {f : Int → Int → α} {xs ys : List Int} {i : Nat} {y : α} (h : (List.zipWith f xs ys)[i]? = some y) : ∃ a b, xs[i]? = some a ∧ ys[i]? = some b ∧ y = f a b := by
  rw [List.getElem?_zipWith] at h
  cases h1 : xs[i]? with
  | none => rw [h1] at h; cases h
  | some a =>
    cases h2 : ys[i]? with
    | none => rw [h1, h2] at h; cases h
    | some b => rw [h1, h2] at h; exact ⟨a, b, rfl, rfl, (Option.some.inj h).symm⟩
theorem map_get {α β : Type} {f : α → β} {xs : List α} {i : Nat} {y : β} (h : (xs.map f)[i]? = some y) : ∃ a, xs[i]? = some a ∧ y = f a := by
  rw [List.getElem?_map] at h
  cases h1 : xs[i]? with
  | none => rw [h1] at h; cases h
  | some a => rw [h1] at h; exact ⟨a, rfl, (Option.some.inj h).symm⟩
theorem wide {a b : Int} (h1 : SmZ 300 a) (h2 : SmZ 300 b) : a.natAbs.log2 + b.natAbs.log2 < 700 := by
  have := PySem.Flt.log2_lt_of (by decide) h1
  have := PySem.Flt.log2_lt_of (by decide) h2
  omega
/-- several rows of n numbers -/
def Rws (H : Hp) (ps : List Addr) (rows : List (List Int)) (n : Nat) : Prop := ps.length = rows.length ∧ ∀ (i : Nat) (p : Addr) (r : List Int), ps[i]? = some p → rows[i]? = some r → Row H p r ∧ r.length = n
theorem Rws.same {H H' : Hp} {ps : List Addr} {rows : List (List Int)} {n : Nat} (h : Rws H ps rows n) (s : Same H H') : Rws H' ps rows n := ⟨h.1, fun i p r h1 h2 => ⟨(h.2 i p r h1 h2).1.same s, (h.2 i p r h1 h2).2⟩⟩
theorem ix_tupK {X : Cx} {K : PySem.W.Frag} (h : X.K = K) : IxR X (rIxT K) := by
  subst h
  exact ix_tup
theorem atI_at {xs : List V} {j : Int} {i : Nat} {v : V} (e : j = ((i : Nat) : Int)) (h : xs[i]? = some v) : atI xs j = some v := by
  rw [e]
  exact atI_nat h
theorem get_map {α β : Type} {f : α → β} {xs : List α} {i : Nat} {x : α} (h : xs[i]? = some x) : (xs.map f)[i]? = some (f x) := by
  rw [List.getElem?_map, h]
  rfl
theorem Row.but {m a : Addr} {H H' : Hp} {xs : List Int} {kvs : List (Key × V)} (h : Row H a xs) (hm : H m = some (.dK kvs)) (s : SameBut m H H') : Row H' a xs := ⟨h.1.but hm s, h.2⟩
theorem Rws.but {m : Addr} {H H' : Hp} {ps : List Addr} {rows : List (List Int)} {n : Nat} {kvs : List (Key × V)} (h : Rws H ps rows n) (hm : H m = some (.dK kvs)) (s : SameBut m H H') : Rws H' ps rows n :=
  ⟨h.1, fun i p r h1 h2 => ⟨(h.2 i p r h1 h2).1.but hm s, (h.2 i p r h1 h2).2⟩⟩
theorem sb_put {m D : Addr} {H1 H4 : Hp} {o : HO} (nD : H1 D = none) (s : SameBut m H1 H4) : SameBut m H1 (upd H4 D o) := fun b u hb e => by
  rw [upd_ne (ne_of_none e nD)]
  exact s _ _ hb e
theorem MOk.m_some {H : Hp} {m c : Addr} {n : Nat} (h : MOk H m c n) : ∃ kvs, H m = some (.dK kvs) := by
  obtain ⟨L, sd, sp, cells, h1, _⟩ := h
  exact ⟨_, h1⟩
theorem MOk.c_some {H : Hp} {m c : Addr} {n : Nat} (h : MOk H m c n) : ∃ xs, H c = some (.lst xs) := by
  obtain ⟨L, sd, sp, cells, _, h2, _⟩ := h
  exact ⟨_, h2⟩
theorem MOk.mono {H : Hp} {m c : Addr} {n n' : Nat} (h : MOk H m c n) (l : n ≤ n') : MOk H m c n' := by
  obtain ⟨L, sd, sp, cells, h1, h2, h3, h4, h5⟩ := h
  exact ⟨L, sd, sp, cells, h1, h2, h3, h4, by omega⟩
theorem MOk.put {H : Hp} {m c D : Addr} {n : Nat} {o : HO} (h : MOk H m c n) (dm : D ≠ m) (dc : D ≠ c) : MOk (upd H D o) m c n := by
  obtain ⟨L, sd, sp, cells, h1, h2, h3, h4, h5⟩ := h
  exact ⟨L, sd, sp, cells, by rw [upd_ne (Ne.symm dm)]; exact h1, by rw [upd_ne (Ne.symm dc)]; exact h2, h3, h4, h5⟩
theorem smz_of {a b : Int} {n : Nat} (h0 : -b ≤ a) (h1 : a ≤ b) (hb : b.natAbs < 2 ^ n) : SmZ n a := by
  unfold SmZ
  have : a.natAbs ≤ b.natAbs := by omega
  omega
theorem smz_mono {a : Int} {n m : Nat} (h : SmZ n a) (l : n ≤ m) : SmZ m a := Nat.lt_of_lt_of_le h (Nat.pow_le_pow_right (by decide) l)
/-- a grid in the heap: its table's rows and its start -/
def Gr (H : Hp) (g : Addr) (B : List (List Int)) (s : List Int) : Prop := ∃ tb ts ps, Tp H g [.ref tb, .ref ts] ∧ Tp H tb (ps.map V.ref) ∧ Rws H ps B B.length ∧ Row H ts s ∧ s.length = B.length
theorem Gr.same {H H' : Hp} {g : Addr} {B : List (List Int)} {s : List Int} (h : Gr H g B s) (e : Same H H') : Gr H' g B s := by
  obtain ⟨tb, ts, ps, h1, h2, h3, h4, h5⟩ := h
  exact ⟨tb, ts, ps, h1.same e, h2.same e, h3.same e, h4.same e, h5⟩
def dg (B : List (List Int)) (i : Nat) : Int := (B.getD i []).getD i 0
def sizeP (B : List (List Int)) : Nat → Int
  | 0 => 1
  | i + 1 => sizeP B i * dg B i
abbrev s_size : Stmt := topS 6
theorem sc_size : FnScope ["grid", "size", "i", "row"] ["grid"] (defScope s_size) := ⟨rfl, rfl, rfl, by decide +kernel, rfl, by decide +kernel, by decide +kernel⟩
abbrev s_place : Stmt := topS 17
theorem sc_place : FnScope ["grid_so", "t", "found", "i", "table", "s", "left", "j"] ["grid_so", "t"] (defScope s_place) := ⟨rfl, rfl, rfl, by decide +kernel, rfl, by decide +kernel, by decide +kernel⟩
def spSize : Sp := fun vs H Q _ => ∃ (g : Addr) (B : List (List Int)) (s : List Int), vs = [.ref g] ∧ Gr H g B s ∧ B.length ≤ 9 ∧ (∀ i, SmZ 300 (dg B i)) ∧ ∀ H', Same H H' → Q (.int (sizeP B B.length)) H'
/-- the place of t, step by step -/
def placeI (B : List (List Int)) (s t : List Int) : Nat → Option (List Int)
  | 0 => some []
  | i + 1 => (placeI B s t i).bind fun y => if (t.getD i 0 - s.getD i 0 - dot (B.getD i []) y).fmod (dg B i) = 0 then some (y ++ [(t.getD i 0 - s.getD i 0 - dot (B.getD i []) y).fdiv (dg B i)]) else none
def spPlace : Sp := fun vs H Q _ => ∃ (g a : Addr) (B : List (List Int)) (s t : List Int), vs = [.ref g, .ref a] ∧ Gr H g B s ∧ Row H a t ∧ t.length = B.length ∧ B.length ≤ 9 ∧ (∀ i, i < B.length → 0 < dg B i) ∧ (∀ i y, i ≤ B.length → placeI B s t i = some y → ∀ x ∈ y, SmZ 300 x) ∧
  (placeI B s t B.length = none → ∀ H', Same H H' → Q .non H') ∧ (∀ y, placeI B s t B.length = some y → ∀ r H', Same H H' → Q (.ref r) H')
theorem smz_mul {a b : Int} {n m : Nat} (h1 : SmZ n a) (h2 : SmZ m b) : SmZ (n + m) (a * b) := by
  unfold SmZ at *
  rw [Int.natAbs_mul, Nat.pow_add]
  exact Nat.mul_lt_mul'' h1 h2
theorem sizeP_small {B : List (List Int)} (h : ∀ i, SmZ 300 (dg B i)) : ∀ i, SmZ (300 * i + 1) (sizeP B i)
  | 0 => by
    show (1 : Int).natAbs < 2 ^ (300 * 0 + 1)
    decide
  | i + 1 => by
    have k := smz_mul (sizeP_small h i) (h i)
    have e : 300 * i + 1 + 300 = 300 * (i + 1) + 1 := by omega
    rw [e] at k
    exact k
section
variable {P : Program} {w : World} {K : PySem.W.Frag} {mg : Str → Option Value} {base : Heap}
theorem ok_size {f : Addr} {fd : FuncData} (F : Fun K "size_of" "size_of" s_size f fd) (m_enumerate : mg "enumerate" = none) : FnOk P w K mg base CX0 1 f fd ["grid"] spSize := by
  have sc := sc_size
  refine F.ok sc (fun vs H Q E h => ?_) (fun cdv A outer s H vs Q E hr h => ?_)
  · obtain ⟨g, B, s, rfl, _⟩ := h
    rfl
  · obtain ⟨g, B, st, rfl, ⟨tb, ts, ps, h1, h2, hR, h4, h5⟩, hB, zd, q⟩ := h
    refine ⟨_, (pss_cons (ps_set (i := 1) sc.nd rfl (Or.inl rfl) pe_int)
    (pss_cons (ps_for PassesOwn.never rfl (pi_enumK (by rfl) m_enumerate (pa_cons (pe_ix ix_tup (pv 0) pe_int (fun _ _ => rfl)) pa_nil)) (pg_tup (n := 2) (by rfl) (pgs_cons (pg_name (i := 2) sc.nd rfl (Or.inl rfl)) (pgs_cons (pg_name (i := 3) sc.nd rfl (Or.inl rfl)) pgs_nil)))
      (pss_one (ps_set (i := 1) sc.nd rfl (Or.inl rfl) (pe_op op_mulW (pv 1) (pe_ix ix_tup (pv 3) (pv 2) (fun _ _ => rfl))))))
    (pss_one (ps_ret (pv 1))))), ?_⟩
    refine ⟨.ref g, rfl, g, _, 0, .ref tb, rfl, rfl, h1.t, atI_nat (j := 0) rfl, false, tb, ps.map V.ref, rfl, h2.t, ?_⟩
    have lps : (ps.map V.ref).length = B.length := by rw [List.length_map, hR.1]
    refine for_it (walk_enumK (K := K) (b := false) (a := tb) (xs := ps.map V.ref)) (fun i σ H' => (∃ y2 y3, σ = [some (.ref g), some (.int (sizeP B i)), y2, y3]) ∧ Same H H') ⟨⟨none, none, rfl⟩, Same.refl _⟩ (fun i σ H' _ p => (h2.same p.2).t) ?_ ?_
    · rintro i x σ H' H6 hi ⟨⟨y2, y3, rfl⟩, sH⟩ ⟨T, u, v, rfl, nT, rfl, hu, hv⟩
      obtain rfl := Option.some.inj hu
      obtain ⟨p, hp, rfl⟩ := map_get hv
      have hiB : i < B.length := by omega
      have hrow : B[i]? = some B[i] := List.getElem?_eq_getElem hiB
      obtain ⟨Rp, lp⟩ := hR.2 i p _ hp hrow
      have sT := sH.trans (same_new (o := .tup [.int (i : Nat), .ref p]) nT)
      have hd : B[i][i]? = some (dg B i) := by
        have e : B[i][i]? = some B[i][i] := List.getElem?_eq_getElem (by omega)
        have e1 : B.getD i [] = B[i] := by
          rw [List.getD_eq_getElem?_getD, hrow]
          rfl
        have e2 : B[i].getD i 0 = B[i][i] := by
          rw [List.getD_eq_getElem?_getD, e]
          rfl
        rw [e]
        unfold dg
        rw [e1, e2]
      refine ⟨T, [.int (i : Nat), .ref p], rfl, SqT.of upd_same, rfl, .int (i : Nat), [.ref p], rfl, .ref p, [], rfl, rfl, .int (sizeP B i), rfl, .ref p, rfl, .int (i : Nat), rfl, p, _, ((i : Nat) : Int), .int (dg B i), rfl, rfl, (Rp.same sT).1.t, atI_nat (get_map hd), sizeP B i, dg B i, rfl, rfl, ?_, ⟨_, _, rfl⟩, sT⟩
      have q1 := PySem.Flt.log2_lt_of (by omega) (sizeP_small zd i)
      have q2 := PySem.Flt.log2_lt_of (by decide) (zd i)
      show _ + _ < 1000000
      omega
    · rintro σ H' ⟨⟨y2, y3, rfl⟩, sH⟩
      rw [lps]
      exact ⟨_, rfl, q H' sH⟩
end
end K15
namespace K15
open PySem PySem.Spec PyProof.Rows L2 Vk
theorem ix_listK {X : Cx} {K : PySem.W.Frag} (h : X.K = K) : IxR X (rIxL K) := by
  subst h
  exact ix_list
/-- row i of the table, and what stands on its diagonal -/
theorem row_at {H : Hp} {ps : List Addr} {B : List (List Int)} (hR : Rws H ps B B.length) {i : Nat} (hi : i < B.length) : ∃ p, ps[i]? = some p ∧ Row H p (B.getD i []) ∧ (B.getD i []).length = B.length ∧ (B.getD i [])[i]? = some (dg B i) := by
  have hrow : B[i]? = some B[i] := List.getElem?_eq_getElem hi
  have hp : i < ps.length := by rw [hR.1]; exact hi
  have e1 : B.getD i [] = B[i] := by
    rw [List.getD_eq_getElem?_getD, hrow]
    rfl
  obtain ⟨Rp, lp⟩ := hR.2 i ps[i] _ (List.getElem?_eq_getElem hp) hrow
  refine ⟨ps[i], List.getElem?_eq_getElem hp, by rw [e1]; exact Rp, by rw [e1]; exact lp, ?_⟩
  have e : B[i][i]? = some B[i][i] := List.getElem?_eq_getElem (by omega)
  unfold dg
  rw [e1, e]
  congr 1
  rw [List.getD_eq_getElem?_getD, e]
  rfl
theorem getD_at {xs : List Int} {i : Nat} (hi : i < xs.length) : xs[i]? = some (xs.getD i 0) := by
  rw [List.getD_eq_getElem?_getD, List.getElem?_eq_getElem hi]
  rfl
theorem placeI_len {B : List (List Int)} {s t : List Int} : ∀ i y, placeI B s t i = some y → y.length = i
  | 0, y, h => by
    cases h
    rfl
  | i + 1, y, h => by
    unfold placeI at h
    cases hp : placeI B s t i with
    | none =>
      rw [hp] at h
      cases h
    | some z =>
      rw [hp] at h
      have lz := placeI_len i z hp
      have h : (if (t.getD i 0 - s.getD i 0 - dot (B.getD i []) z).fmod (dg B i) = 0 then some (z ++ [(t.getD i 0 - s.getD i 0 - dot (B.getD i []) z).fdiv (dg B i)]) else none) = some y := h
      split at h
      · cases h
        rw [List.length_append, lz]
        rfl
      · cases h
theorem placeI_none {B : List (List Int)} {s t : List Int} {i : Nat} (h : placeI B s t i = none) : ∀ k, i ≤ k → placeI B s t k = none := by
  intro k hk
  induction k with
  | zero =>
    obtain rfl : i = 0 := by omega
    exact h
  | succ k ih =>
    by_cases e : i = k + 1
    · rw [← e]
      exact h
    · unfold placeI
      rw [ih (by omega)]
      rfl
section
variable {P : Program} {w : World} {K : PySem.W.Frag} {mg : Str → Option Value} {base : Heap}
theorem ok_place {f : Addr} {fd : FuncData} (F : Fun K "_law_place" "_law_place" s_place f fd) (m_len : mg "len" = none) (m_range : mg "range" = none) (m_sum : mg "sum" = none) (m_int : mg "int" = none) (m_tuple : mg "tuple" = none) : FnOk P w K mg base CX0 1 f fd ["grid_so", "t"] spPlace := by
  have sc := sc_place
  refine F.ok sc (fun vs H Q E h => ?_) (fun cdv A outer s H vs Q E hr h => ?_)
  · obtain ⟨g, a, B, s, t, rfl, _⟩ := h
    rfl
  · obtain ⟨g, a, B, st, t, rfl, ⟨tb, ts, ps, h1, h2, hR, h4, h5⟩, ht, lt, hB, hd, zy, qn, qs⟩ := h
    refine ⟨_, (pss_cons (ps_asg (pv 0) (pg_tup (n := 2) (by rfl) (pgs_cons (pg_name (i := 4) sc.nd rfl (Or.inr rfl)) (pgs_cons (pg_name (i := 5) sc.nd rfl (Or.inl rfl)) pgs_nil))))
    (pss_cons (ps_set (i := 2) sc.nd rfl (Or.inr rfl) (pe_lst pa_nil))
    (pss_cons (ps_for PassesOwn.never rfl (pi_range1 rfl m_range (pa_cons (pe_callB call_len_seq (by rfl) m_len (by decide +kernel) (pa_cons (pv 1) pa_nil)) pa_nil)) (pg_name (i := 3) sc.nd rfl (Or.inr rfl))
      (pss_cons (ps_set (i := 6) sc.nd rfl (Or.inl rfl) (pe_op op_sub (pe_op op_sub (pe_ix ix_tup (pv 1) (pv 3) (fun _ _ => rfl)) (pe_ix ix_tup (pv 5) (pv 3) (fun _ _ => rfl))) (pe_callB (cr_sum rfl) (by rfl) m_sum (by decide +kernel) (pa_cons (pe_lc (own := [("j", 7)]) (g := gName 7) (by rfl) sc.nd (pi_range1 rfl m_range (pa_cons (pv 3) pa_nil)) (blkOk_by (own := [("j", 7)]) (N := ["grid_so", "t", "found", "i", "table", "s", "left", "j"]) (sc := defScope s_place) (by decide +kernel)) (fun _ _ _ _ _ => pg_name (i := 7) sc.nd rfl (Or.inl rfl)) (fun _ _ _ _ _ => pts_nil) (fun _ _ _ _ _ => (pe_op op_mulW (pe_ix (ix_tupK (K := K) rfl) (pe_ix (ix_tupK (K := K) rfl) (pv 4) (pv 3) (fun _ _ => rfl)) (pv 7) (fun _ _ => rfl)) (pe_ix (ix_listK (K := K) rfl) (pv 2) (pv 7) (fun _ _ => rfl))))) pa_nil))))
    (pss_cons (ps_if (pt_cmpR op_ne (pe_op op_modN (pe_callTy call_int1 (by rfl) m_int (by decide +kernel) (pa_cons (pv 6) pa_nil)) (pe_ix ix_tup (pe_ix ix_tup (pv 4) (pv 3) (fun _ _ => rfl)) (pv 3) (fun _ _ => rfl))) pe_int (nomark _))
      (pss_one (ps_ret pe_non))
      pss_nil)
    (pss_one (ps_expr (pe_bm PySem.F.plainAttrs_list PySem.F.slot_list_append PySem.F.type_list_append mt_append (pv 2) (pa_cons (pe_op op_fdivX (pv 6) (pe_ix ix_tup (pe_ix ix_tup (pv 4) (pv 3) (fun _ _ => rfl)) (pv 3) (fun _ _ => rfl))) pa_nil)))))))
    (pss_one (ps_ret (pe_callTy call_tuple_of (by rfl) m_tuple (by decide +kernel) (pa_cons (pv 2) pa_nil))))))), ?_⟩
    refine ⟨.ref g, rfl, g, _, rfl, h1.t, rfl, .ref tb, [.ref ts], rfl, .ref ts, [], rfl, rfl, by show 0 ≤ sizeLine; decide, fun D nD => ?_⟩
    have s1 : Same H (upd H D (.lst [])) := same_new nD
    have g1 : upd H D (.lst []) D = some (.lst ([] : List V)) := upd_same
    refine ⟨.ref a, rfl, a, _, rfl, .inr (ht.same s1).1.t, ((t.map V.int).length : Int), rfl, by omega, ?_, ?_⟩
    · rw [List.length_map]
      omega
    have e0 : ((t.map V.int).length : Int).toNat = B.length := by
      rw [List.length_map]
      omega
    rw [e0]
    refine for_range (lo := 0) (n := B.length) (fun i σ H' => ∃ y, placeI B st t i = some y ∧ (∃ y3 y6 y7, σ = [some (.ref g), some (.ref a), some (.ref D), y3, some (.ref tb), some (.ref ts), y6, y7]) ∧ Same H H' ∧ H' D = some (.lst (y.map V.int))) ⟨[], rfl, ⟨none, none, none, rfl⟩, s1, g1⟩ ?_ ?_
    · rintro i σ H' hi ⟨y, hy, ⟨y3, y6, y7, rfl⟩, sH, gD⟩
      have ly := placeI_len i y hy
      obtain ⟨p, hp, Rp, lp, hdi⟩ := row_at hR hi
      have ei : (0 + (i : Int)) = ((i : Nat) : Int) := by omega
      have gT := getD_at (xs := t) (i := i) (by omega)
      have gS := getD_at (xs := st) (i := i) (by omega)
      refine ⟨.ref a, rfl, .int (0 + i), rfl, a, _, 0 + i, .int (t.getD i 0), rfl, rfl, (ht.same sH).1.t, atI_at ei (get_map gT), .ref ts, rfl, .int (0 + i), rfl, ts, _, 0 + i, .int (st.getD i 0), rfl, rfl, (h4.same sH).1.t, atI_at ei (get_map gS), _, _, rfl, rfl, .int (0 + i), rfl, 0 + i, rfl, by omega, by omega, fun D2 nD2 => ?_⟩
      have ei2 : (0 + (i : Int)).toNat = i := by omega
      rw [ei2]
      refine lc_to (walk_range (lo := 0) (n := i)) ((List.zipWith (· * ·) (B.getD i []) y).map V.int) (by rw [List.length_map, List.length_zipWith]; omega) (small (by omega)) nD2 (fun H' s => True.intro) ?_ ?_
      · rintro j x z H0 H1 Qy hz hj s0 ⟨rfl, rfl⟩ hq
        obtain ⟨zz, hzz, rfl⟩ := map_get hz
        obtain ⟨u, v, hu, hv, rfl⟩ := zip_get hzz
        have ej : (0 + (j : Int)) = ((j : Nat) : Int) := by omega
        have sx := sH.trans s0
        refine ⟨rfl, .ref tb, rfl, .int (0 + i), rfl, tb, _, 0 + i, .ref p, rfl, rfl, (h2.same sx).t, atI_at ei (get_map hp), .int (0 + j), rfl, p, _, 0 + j, .int u, rfl, rfl, (Rp.same sx).1.t, atI_at ej (get_map hu), .ref D, rfl, .int (0 + j), rfl, D, _, 0 + j, .int v, rfl, rfl, SqL.of (s0 _ _ gD), atI_at ej (get_map hv), u, v, rfl, rfl, ?_, hq _ (Same.refl _)⟩
        exact Nat.lt_trans (wide (Rp.2.2 _ (List.mem_of_getElem? hu)) (zy i y (by omega) hy _ (List.mem_of_getElem? hv))) (by decide)
      intro H2 s2 d2
      have sx := sH.trans s2
      have hpos := hd i hi
      have zd : SmZ 300 (dg B i) := Rp.2.2 _ (List.mem_of_getElem? hdi)
      refine ⟨D2, List.zipWith (· * ·) (B.getD i []) y, rfl, SqL.of d2, _, _, rfl, rfl, ?_⟩
      have dd : dot (B.getD i []) y = (List.zipWith (· * ·) (B.getD i []) y).sum := rfl
      obtain ⟨lf, hlf⟩ : ∃ lf, lf = t.getD i 0 - st.getD i 0 - dot (B.getD i []) y := ⟨_, rfl⟩
      show gName 6 (.int (t.getD i 0 - st.getD i 0 - dot (B.getD i []) y)) _ H2 _
      rw [← hlf]
      have step : placeI B st t (i + 1) = if lf.fmod (dg B i) = 0 then some (y ++ [lf.fdiv (dg B i)]) else none := by
        rw [hlf]
        show (placeI B st t i).bind _ = _
        rw [hy]
        rfl
      refine ⟨.int lf, rfl, .inl ⟨lf, rfl, .ref tb, rfl, .int (0 + i), rfl, tb, _, 0 + i, .ref p, rfl, rfl, (h2.same sx).t, atI_at ei (get_map hp), .int (0 + i), rfl, p, _, 0 + i, .int (dg B i), rfl, rfl, (Rp.same sx).1.t, atI_at ei (get_map hdi), lf, dg B i, rfl, rfl, (by show dg B i ≠ 0; omega), rfl, _, rfl, ite2 (fun hne => ?_) (fun hne => ?_)⟩⟩
      · have hne : (!decide (V.int (lf.fmod (dg B i)) = V.int 0)) = true := hne
        have m0 : lf.fmod (dg B i) ≠ 0 := fun z => by
          rw [z] at hne
          exact absurd hne (by decide)
        rw [if_neg m0] at step
        exact qn (placeI_none step _ (by omega)) H2 sx
      · have m0 : lf.fmod (dg B i) = 0 := by
          by_cases z : lf.fmod (dg B i) = 0
          · exact z
          · refine absurd ?_ hne
            rw [decide_eq_false (fun w => z (V.int.inj w))]
            rfl
        rw [if_pos m0] at step
        refine ⟨.ref D, rfl, .inl ⟨rfl, _, SqL.of (s2 _ _ gD)⟩, .int lf, rfl, .ref tb, rfl, .int (0 + i), rfl, tb, _, 0 + i, .ref p, rfl, rfl, (h2.same sx).t, atI_at ei (get_map hp), .int (0 + i), rfl, p, _, 0 + i, .int (dg B i), rfl, rfl, (Rp.same sx).1.t, atI_at ei (get_map hdi), lf, dg B i, rfl, rfl, ⟨by omega, Nat.lt_trans (PySem.Flt.log2_lt_of (by decide) zd) (by decide)⟩, D, _, _, rfl, rfl, s2 _ _ gD, ?_, ?_⟩
        · rw [List.length_map]
          exact small (by omega)
        · refine ⟨_, step, ⟨_, _, _, rfl⟩, same_put sx nD, ?_⟩
          rw [upd_same, List.map_append]
          rfl
    · rintro σ H' ⟨y, hy, ⟨y3, y6, y7, rfl⟩, sH, gD⟩
      exact ⟨.ref D, rfl, D, _, rfl, .inl ⟨SqL.of gD, fun l nl => qs y hy l _ (sH.trans (same_new nl))⟩⟩
end
end K15
namespace Vk
open PySem PySem.Spec PyProof.Rows L2
/-- a run over any walk, whatever a turn's form -/
theorem walk_run {J : It} {n : Nat} {G : Hp → Prop} {Y : Nat → Hp → V → Hp → Prop} (w : Walk J n G Y) (B : (Hp → Prop) → V → Hp → Prop) (Pv : Nat → Hp → Prop) {H0 : Hp} {Z : Hp → Prop} (h0 : Pv 0 H0) (hG : ∀ i H, i ≤ n → Pv i H → G H)
    (hs : ∀ i x H H', i < n → Pv i H → Y i H x H' → B (Pv (i + 1)) x H') (hd : ∀ H, Pv n H → Z H) :
    ∃ W : Nat → Nat → Hp → Prop, (∃ m, W 0 m H0) ∧ ∀ i m H, W i m H → (J.stop i H ∧ Z H) ∨ (J.go i H ∧ ∃ Nx : Hp → Prop, (∀ H', Nx H' → ∃ m', m' < m ∧ W (i + 1) m' H') ∧ ∀ x H', J.yld i H x H' → B Nx x H') := by
  refine ⟨fun i m H => m = n - i ∧ i ≤ n ∧ Pv i H, ⟨n - 0, rfl, Nat.zero_le _, h0⟩, ?_⟩
  rintro i m H ⟨rfl, hi, p⟩
  by_cases lt : i < n
  · exact .inr ⟨w.goes i H lt (hG i H hi p), Pv (i + 1), fun H' p' => ⟨n - (i + 1), by omega, rfl, lt, p'⟩, fun x H' y => hs i x H H' lt p (w.yields i H x H' lt (hG i H hi p) y)⟩
  · obtain rfl : i = n := by omega
    exact .inl ⟨w.stops H (hG _ H hi p), hd H p⟩
end Vk
namespace K15
open PySem PySem.Spec PyProof.Rows L2 Vk
/-- several tuples of numbers -/
def Rw (H : Hp) (ps : List Addr) (ss : List (List Int)) : Prop := ps.length = ss.length ∧ ∀ (i : Nat) (p : Addr) (r : List Int), ps[i]? = some p → ss[i]? = some r → Tp H p (r.map V.int)
theorem Rw.same {H H' : Hp} {ps : List Addr} {ss : List (List Int)} (h : Rw H ps ss) (s : Same H H') : Rw H' ps ss := ⟨h.1, fun i p r h1 h2 => (h.2 i p r h1 h2).same s⟩
theorem Rw.snoc {H : Hp} {ps : List Addr} {ss : List (List Int)} {p : Addr} {r : List Int} (h : Rw H ps ss) (hp : Tp H p (r.map V.int)) : Rw H (ps ++ [p]) (ss ++ [r]) := by
  refine ⟨by rw [List.length_append, List.length_append, h.1]; rfl, fun j a z h1 h2 => ?_⟩
  by_cases hj : j < ps.length
  · rw [List.getElem?_append_left hj] at h1
    rw [List.getElem?_append_left (by rw [← h.1]; exact hj)] at h2
    exact h.2 j a z h1 h2
  · rw [List.getElem?_append_right (by omega)] at h1
    rw [List.getElem?_append_right (by rw [← h.1]; omega)] at h2
    have j0 : j - ps.length = 0 := by
      have := (List.getElem?_eq_some_iff.mp h1).1
      simp only [List.length_cons, List.length_nil] at this
      omega
    rw [j0] at h1
    rw [← h.1, j0] at h2
    obtain rfl : p = a := Option.some.inj h1
    obtain rfl : r = z := Option.some.inj h2
    exact hp
/-- all starts with the first i entries -/
def startsI (B : List (List Int)) : Nat → List (List Int)
  | 0 => [[]]
  | i + 1 => (startsI B i).flatMap fun s => (List.range (dg B i).toNat).map fun (x : Nat) => s ++ [((x : Nat) : Int)]
/-- the starts that come of the first k, and of j more of the next one -/
def midS (ss : List (List Int)) (d k j : Nat) : List (List Int) := ((ss.take k).flatMap fun s => (List.range d).map fun x => s ++ [((x : Nat) : Int)]) ++ (List.range j).map fun x => ss.getD k [] ++ [((x : Nat) : Int)]
theorem midS_zero (ss : List (List Int)) (d : Nat) : midS ss d 0 0 = [] := rfl
theorem midS_snoc (ss : List (List Int)) (d k j : Nat) : midS ss d k (j + 1) = midS ss d k j ++ [ss.getD k [] ++ [((j : Nat) : Int)]] := by
  unfold midS
  rw [List.range_succ, List.map_append, ← List.append_assoc]
  rfl
theorem midS_next (ss : List (List Int)) (d k : Nat) (hk : k < ss.length) : midS ss d k d = midS ss d (k + 1) 0 := by
  unfold midS
  have e : ss[k]? = some ss[k] := List.getElem?_eq_getElem hk
  rw [List.take_add_one, e, List.flatMap_append]
  have e2 : ss.getD k [] = ss[k] := by
    rw [List.getD_eq_getElem?_getD, e]
    rfl
  rw [e2]
  simp
theorem midS_end (ss : List (List Int)) (d : Nat) : midS ss d ss.length 0 = ss.flatMap fun s => (List.range d).map fun x => s ++ [((x : Nat) : Int)] := by
  unfold midS
  rw [List.take_length]
  simp
theorem midS_len (ss : List (List Int)) (d : Nat) : ∀ k j, (midS ss d k j).length = min k ss.length * d + j := by
  intro k j
  unfold midS
  rw [List.length_append, List.length_map, List.length_range, List.length_flatMap]
  congr 1
  rw [← List.length_take]
  generalize ss.take k = l
  induction l with
  | nil => simp
  | cons a l ih => rw [List.map_cons, List.sum_cons, ih, List.length_map, List.length_range, List.length_cons, Nat.succ_mul, Nat.add_comm]
theorem eqv_rows (xs ys : List Int) : PyData.eqv (.tuple (xs.map PyData.int)) (.tuple (ys.map PyData.int)) = decide (xs = ys) := by
  rw [show PyData.eqv (.tuple (xs.map PyData.int)) (.tuple (ys.map PyData.int)) = PyData.eqvAll (xs.map PyData.int) (ys.map PyData.int) by simp only [PyData.eqv]]
  exact PySem.W.ked_eqvAll xs ys
theorem shaped_row (ns : List Int) : SeqAt.shaped (.tuple (ns.map PyData.int)) = true := by
  obtain ⟨h1, h2⟩ := lay_ints ns
  simp [SeqAt.shaped, PyData.canLay0, PyData.depth, h1, h2]
end K15
/-! An exception that is caught and kept in a local. -/
namespace Vk
open PySem PySem.Spec PyProof.Rows L2
/-- an exception of the class cls, own dict d, that was caught -/
def ExK (cls : Value) (d : Option Addr) (a : Addr) : HO := .ext fun h => ∃ oe : Obj, h.get? a = some oe ∧ Zc cls d oe ∧ ∃ vs, oe.data = .fields vs
section
variable {X : Cx} {pins : List (Addr × Obj)} {σ : L2.St} {H : Hp} {s : Shared}
/-- what is pinned is tracked from now on -/
theorem keep_pinned {a : Addr} {oe : Obj} {cls : Value} {d : Option Addr} (I : Inv X ((a, oe) :: pins) σ H s) (hz : Zc cls d oe) (hf : ∃ vs, oe.data = .fields vs) (n0 : X.s_0.heap.get? a = none) (np : ∀ p ∈ X.pn ++ pins, p.1 ≠ a) :
    Inv X pins σ (upd H a (ExK cls d a)) s := by
  obtain ⟨ga, na, nL, nF, nc⟩ := I.pin (a, oe) (List.mem_append_right _ List.mem_cons_self)
  have ga : s.heap.get? a = some oe := ga
  have na : H a = none := na
  have nC : ∀ x c, X.env.cells.lookup x = some c → c ≠ a := by
    rintro x c e rfl
    obtain ⟨v, o, ho, hd⟩ := I.cell x c e
    obtain rfl := Option.some.inj (ho.symm.trans ga)
    exact nc v hd
  have off : ∀ b, b ≠ a → upd H a (ExK cls d a) b = H b := fun b hb => upd_ne hb
  have some_ne : ∀ b u, H b = some u → b ≠ a := fun b u e z => by
    rw [z, na] at e
    cases e
  refine { ok := I.ok, os := I.os, bare := I.bare, base := ?_, loc := I.loc, cell := I.cell, free := ?_, freeC := ?_, pin := ?_, hok := ?_, len := I.len }
  · have old : ∀ b o, X.s_0.heap.get? b = some o → b ≠ a := fun b o e z => by
      rw [z, n0] at e
      cases e
    refine { keep := I.base.keep, slot := I.base.slot, free := ?_, there := I.base.there, tups := ?_, frzs := ?_, tbls := ?_ }
    · intro b o e n hx
      rw [off b (old b o e)]
      exact I.base.free b o e n hx
    · intro b xs e
      have q := I.base.tups b xs e
      rw [off b (some_ne b _ q)]
      exact q
    · intro b o u e
      have q := I.base.frzs b o u e
      rw [off b (some_ne b _ q)]
      exact q
    · intro b ps e
      obtain ⟨more, q⟩ := I.base.tbls b ps e
      refine ⟨more, ?_⟩
      rw [off b (some_ne b _ q)]
      exact q
  · rw [off _ (Ne.symm nL)]
    exact I.free
  · intro x c e
    rw [off c (nC x c e)]
    exact I.freeC x c e
  · intro p hp
    have hp' : p ∈ X.pn ++ (a, oe) :: pins := by
      rcases List.mem_append.mp hp with z | z
      · exact List.mem_append_left _ z
      · exact List.mem_append_right _ (List.mem_cons_of_mem _ z)
    obtain ⟨e1, e2, e3, e4, e5⟩ := I.pin p hp'
    refine ⟨e1, ?_, e3, e4, e5⟩
    rw [off p.1 (np p hp)]
    exact e2
  · intro b u e
    by_cases hb : b = a
    · subst hb
      rw [upd_same] at e
      obtain rfl := Option.some.inj e
      exact ⟨⟨oe, ga, hz, hf⟩, ⟨oe, ga⟩, fun h1 h2 ⟨o, q1, q2, q3⟩ st => ⟨o, st o q1, q2, q3⟩⟩
    · rw [off b hb] at e
      refine (I.hok b u e).stay (fun c v _ q => q) (fun c q => ?_) (fun c xs q => ?_)
      · rw [off c (some_ne c _ q)]
        exact q
      · rw [off c (some_ne c _ q)]
        exact q
end
/-- the wish of an except clause that keeps what it caught: the exception is known behind it -/
def wKp (K : PySem.W.Frag) (len : Nat) (c : Value) (i : Nat) (ts : Addr → Value → Option Addr → TS) (D : Ends) : WX := fun cls d σ H =>
  PySem.W.exmOne K cls c = some true ∧ (σ.length = len → ∀ a, H a = none →
    ts a cls d { nx := fun σ' H' => D.nx (σ'.set i none) (upd H' a (ExK cls d a)), rt := fun _ _ => False, bk := fun _ _ => False, ct := fun _ _ => False } (σ.set i (some (.ref a))) H)
section
variable {X : Cx} {x n : Str} {c : Value} {i : Nat} {body suite : List Stmt} {b₀ : Stmt} {np pos pos' : Pos} {tb : WX → TS} {ts : Addr → Value → Option Addr → TS}
/-- what is wanted of an exception of the body: the clauses look at it -/
def landing (X : Cx) (hs : List ExceptHandler) (R : Flow → Shared → Prop) : Value → Shared → Prop := fun e s0 =>
  wpAny (model X.prog X.w) X.A (noteFrame e X.env) (fun _ s1 => wpAny (model X.prog X.w) X.A (setFlight e none)
    (fun _ s2 => wpAny (model X.prog X.w) X.A (handleBy e X.env hs) R X.xe s2) X.xe s1) X.xe s0
/-- try: .. except x as n: suite (the suite runs through) -/
theorem ps_try_keep (hs : X.stack = X.env :: X.outer) (hf : X.env.frame = some X.env.locals) (hex : X.ex = []) (hN : X.N.Nodup) (hi : X.N[i]? = some n) (hln : X.env.kindOf n = some .local) (hc : Names X x c)
    (hb : ∀ (W : WX) (pn : List (Addr × Obj)) (xe : Value → Shared → Prop), Takes (X.tr pn xe) W → PassesOwn (model X.prog X.w) X.A X.env xe → PSs (X.tr pn xe) body (tb W))
    (hsu : ∀ (a : Addr) (oe : Obj) (cls : Value) (d : Option Addr) (pn : List (Addr × Obj)), Zc cls d oe → (∃ vs, oe.data = .fields vs) → PSs (X.suite a ((a, oe) :: pn)) (b₀ :: suite) (ts a cls d)) :
    PS X (.Try body [.ExceptHandler (some (.Name x np)) (some n) (b₀ :: suite) pos'] [] [] pos) (fun D σ H => tb (wKp X.K X.N.length c i ts D) D σ H) := by
  refine ⟨fun pins s σ H D I h => wpAny_Try_except ?_⟩
  have ok := I.ok
  have frm : X.A.frames = some (X.env :: X.outer) := by rw [ok.frames, hs]
  have run := (hb (wKp X.K X.N.length c i ts D) (X.pn ++ pins) (landing X [.ExceptHandler (some (.Name x np)) (some n) (b₀ :: suite) pos'] (SP X pins D)) (fun u s' xx => ?_) PassesOwn.looking).run [] s σ H D (I.toTry _) h
  · refine wpAny_mono run (fun fl s1 hsp => ?_) (fun e s1 he => he)
    match fl, hsp with
    | .next, ⟨σ', H', J, q⟩ => exact wpAny_execs_nil ⟨σ', H', J.ofTry ok, q⟩
    | .brk, ⟨σ', H', J, q⟩ => exact ⟨σ', H', J.ofTry ok, q⟩
    | .cont, ⟨σ', H', J, q⟩ => exact ⟨σ', H', J.ofTry ok, q⟩
    | .ret u, ⟨v, σ', H', J, r, q⟩ => exact ⟨v, σ', H', J.ofTry ok, r, q⟩
  · -- what was raised lands here
    obtain ⟨a, B, sI, pins', σ', H', cls, d, rfl, J', nb, up, sky, na, os, ag, hyes, hgo⟩ := xx
    have J : Inv X pins σ' H' sI := J'.ofTry ok
    have air : Sky B (X.env :: X.outer) a (Zc cls d) X.env.locals s'.heap := by
      rw [← hs]
      exact sky
    show wpAny (model X.prog X.w) X.A (noteFrame (.ref a) X.env) _ _ _
    refine Sky.land Zc.steady frm hf air fun h3 fl3 up3 => ?_
    have J3 : Inv X pins σ' H' { s' with heap := h3 } := J.landed nb fl3.1 (up.trans up3) os ag
    obtain ⟨oe3, vs3, he3, hz3, hd3⟩ := fl3.there
    have nB : B.get? a = none := fl3.2.1
    have nfr : a ∉ frs (X.env :: X.outer) := fun hm => by
      obtain ⟨_, o', e', hnf⟩ := fl3.2.2.1.mem hm
      obtain rfl := Option.some.inj (he3.symm.trans e')
      exact hnf _ hd3
    have nL : a ≠ X.env.locals := fun z => nfr (List.mem_filterMap.mpr ⟨X.env, List.mem_cons_self, by rw [hf, z]⟩)
    have nF : a ∉ X.fs := fun hm => by
      obtain ⟨e, he, q⟩ := List.mem_filterMap.mp hm
      exact nfr (List.mem_filterMap.mpr ⟨e, List.mem_cons_of_mem _ he, q⟩)
    have fresh : ∀ b o, sI.heap.get? b = some o → b ≠ a := by
      rintro b o e rfl
      have z := nb b o e (by rw [hs]; exact nfr)
      rw [nB] at z
      cases z
    have n0 : X.s_0.heap.get? a = none := by
      cases q : X.s_0.heap.get? a with
      | none => rfl
      | some o =>
        obtain ⟨o', z⟩ := J.base.there a o q (by rw [hex]; exact List.not_mem_nil)
        exact absurd rfl (fresh a o' z)
    have npp : ∀ p ∈ X.pn ++ pins, p.1 ≠ a := fun p hp => fresh p.1 p.2 (J.pin p hp).1
    have S3 := J3.suite he3 hd3 na nL nF
    refine wpAny_handleBy_cons (codeAny_handlers_test ?_) (by intro q; cases q)
    have seen : PySem.W.Looks (model X.prog X.w) h3 (typeOf (.ref a)) cls := fun A Q E s k q => wpAny_typeOf_ref (k _ _ he3) (by
      rw [hz3.1]
      exact q)
    have fits := PySem.W.exm_one (M := model X.prog X.w) J3.kIn seen hyes
    have look : ∀ {Q : Value → Shared → Prop} {E : Value → Shared → Prop}, Q c { s' with heap := h3 } → wpAny (model X.prog X.w) (X.A.mark (some (.ref a))) (eval (.Name x np) X.env) Q E { s' with heap := h3 } := by
      intro Q E q
      obtain ⟨hg, hdbg, hm | ⟨hm, hv, hnn⟩⟩ := hc
      · exact ld_glob (X := X.suite a ((a, oe3) :: (X.pn ++ pins))) S3 hg hm q hdbg
      · exact ld_blt (X := X.suite a ((a, oe3) :: (X.pn ++ pins))) S3 hg hm hv q hnn hdbg
    refine look (fits.here (codeAny_handlers_suite_as ?_))
    refine HandSPX.lands_againZ fl3 fun h4 fl4 up4 => ?_
    have J4 : Inv X pins σ' H' { s' with heap := h4 } := J.landed nb fl4.1 ((up.trans up3).trans up4) os ag
    obtain ⟨oe4, vs4, he4, hz4, hd4⟩ := fl4.there
    have S4 := J4.suite he4 hd4 na nL nF
    refine store_ok (X := X.suite a ((a, oe4) :: (X.pn ++ pins))) (v := .ref a) S4 hN hi (.inl hln) rfl (fun s5 S5 => ?_) (.inr hln)
    refine wpAny_mono ((hsu a oe4 cls d (X.pn ++ pins) hz4 ⟨_, hd4⟩).run [] s5 _ H' _ S5 (hgo J.len a na)) (fun fl s6 hsp => ?_) (fun _ _ z => False.elim z)
    match fl, hsp with
    | .brk, ⟨_, _, _, q⟩ => exact False.elim q
    | .cont, ⟨_, _, _, q⟩ => exact False.elim q
    | .ret u, ⟨_, _, _, _, _, q⟩ => exact False.elim q
    | .next, ⟨σ6, H6, S6, q6⟩ =>
      obtain ⟨g6, n6, _⟩ := S6.pin (a, oe4) (List.mem_append_left _ List.mem_cons_self)
      have J6 : Inv X ((a, oe4) :: pins) σ6 H6 s6 := (S6.unsuite ok).pins_of fun p hp => by
        rcases List.mem_cons.mp hp with e | hp
        · rw [e]
          exact ⟨g6, n6, nL, nF, fun v z => by
            have z' : oe4.data = .cell v := z
            rw [hd4] at z'
            cases z'⟩
        · exact (S6.unsuite ok).pin p (List.mem_append_right _ hp)
      exact gone_ok J6 hN hi hln fun s7 J7 => ⟨_, _, keep_pinned J7 hz4 ⟨_, hd4⟩ n0 npp, q6⟩
end
/-- isinstance(e, c), e such an exception -/
def rIsK (K : PySem.W.Frag) (D : Addr) : List V → Hp → VK → Prop := fun xs H Q => ∃ (a : Addr) (c : V) (cv : Value) (b : Bool), xs = [.ref a, c] ∧ H a = some (ExK (.ref D) none a) ∧ ClsV c cv ∧ PySem.W.kitOne K (.ref D) cv = some b ∧ Q (.bl b) H
theorem call_isK {X : Cx} {D : Addr} (C : ExcC X.K D) : CallR X (.builtin "isinstance") (rIsK X.K D) := by
  intro pins s σ H xs us Q I r h
  obtain ⟨a, c, cv, b, rfl, ha, hcv, e, q⟩ := h
  obtain ⟨u1, u2, rfl, r1, r2⟩ := vals2 r
  obtain rfl : u1 = Value.ref a := r1
  obtain rfl := hcv.eq r2
  obtain ⟨⟨oe, g, hz, vs, hv⟩, _, _⟩ := I.hok a _ ha
  have J : PySem.W.InstAt s.heap a oe D none := by
    obtain ⟨oc, od, oda, osl⟩ := oe
    obtain ⟨h1, h2⟩ := hz
    dsimp only at h1 h2 hv
    subst h1 h2 hv
    exact ⟨g, rfl, rfl, trivial⟩
  exact PySem.W.kia_one (PySem.W.handS_kitx_exc C.hg C.hk C.hs C.hd C.ha C.hn C.ht C.hm) I.kIn J e (fun z => nomatch z) fun tk => ⟨.bl b, H, I.kept (t' := tk) fun _ _ z => z, rfl, q⟩
end Vk
/-! A kept exception with fields of its own. -/
namespace Vk
open PySem PySem.Spec PyProof.Rows L2
/-- a kept exception of the class C with these fields -/
def KxF (H : Hp) (a C : Addr) (fs : List (Str × V)) : Prop := ∃ dd, H a = some (ExK (.ref C) (some dd) a) ∧ H dd = some (.xd fs)
theorem KxF.same {H H' : Hp} {a C : Addr} {fs : List (Str × V)} (k : KxF H a C fs) (s : Same H H') : KxF H' a C fs := by
  obtain ⟨dd, h1, h2⟩ := k
  exact ⟨dd, s _ _ h1, s _ _ h2⟩
theorem KxF.inst {X : Cx} {pins : List (Addr × Obj)} {σ : L2.St} {H : Hp} {s : Shared} {a C : Addr} {fs : List (Str × V)} (I : Inv X pins σ H s) (k : KxF H a C fs) : ∃ (oe od : Obj) (mA : Str → Option Value), PySem.W.InstAt s.heap a oe C (some od) ∧ (∀ f, PySem.W.lookIn f od = some (mA f)) ∧ ∀ f, RelO (fs.lookup f) (mA f) := by
  obtain ⟨dd, h1, h2⟩ := k
  obtain ⟨⟨oe, g, hz, vs, hd⟩, _, _⟩ := I.hok a _ h1
  obtain ⟨mA, hns, hr⟩ := (show ObjOk X.prog X.w H s.heap dd (.xd fs) from I.hok dd _ h2)
  obtain ⟨od, ho, hl⟩ := lookIn_ns hns
  exact ⟨oe, od, mA, ⟨g, hz.1, by unfold PySem.W.notCls; rw [hd] <;> rfl, by rw [hz.2]; exact ho⟩, hl, hr⟩
/-- isinstance(e, c) -/
def rIsF (K : PySem.W.Frag) (C : Addr) : List V → Hp → VK → Prop := fun xs H Q => ∃ (a : Addr) (fs : List (Str × V)) (c : V) (cv : Value) (b : Bool), xs = [.ref a, c] ∧ KxF H a C fs ∧ ClsV c cv ∧ PySem.W.kitOne K (.ref C) cv = some b ∧ Q (.bl b) H
theorem call_isF {X : Cx} {C : Addr} (E : ExcC X.K C) : CallR X (.builtin "isinstance") (rIsF X.K C) := by
  intro pins s σ H xs us Q I r h
  obtain ⟨a, fs, c, cv, b, rfl, k, hcv, e, q⟩ := h
  obtain ⟨u1, u2, rfl, r1, r2⟩ := vals2 r
  obtain rfl : u1 = Value.ref a := r1
  obtain rfl := hcv.eq r2
  obtain ⟨oe, od, mA, J, _, _⟩ := k.inst I
  have hcl : (PySem.W.clsIn X.K C).isSome = true := by
    obtain ⟨cd, hc, _⟩ := PySem.W.any_some E.hd
    rw [hc]
    rfl
  exact PySem.W.kia_one (PySem.W.kitx_exc (od := some od) hcl E.hg E.hk E.hs E.ha E.hn E.ht E.hm) I.kIn J e (fun z => nomatch z) fun tk => ⟨.bl b, H, I.kept (t' := tk) fun _ _ z => z, rfl, q⟩
/-- e.f -/
def tKf (C : Addr) (f : Str) (te : TE) : TE := fun σ H Q => te σ H fun x H1 => ∃ (a : Addr) (fs : List (Str × V)) (v : V), x = .ref a ∧ KxF H1 a C fs ∧ fs.lookup f = some v ∧ Q v H1
theorem pe_kf {X : Cx} {C : Addr} {e : Expr} {te : TE} {pos : Pos} {n : Str} (T : XfC X.K C) (hno : PySem.W.findIn X.K (.ref C) n = some none) (he : PE X e te) (hb : attributeBase e n X.env (eval e X.env) = eval e X.env := by rfl) :
    PE X (.Attribute e n pos) (tKf C n te) := by
  refine ⟨fun pins s σ H Q I h => attr_of hb (thn (he.run pins s σ H _ I h) fun u s1 hh => ?_)⟩
  obtain ⟨x, H1, I1, rx, a, fs, v, rfl, k, l, q⟩ := hh
  obtain rfl : u = Value.ref a := rx
  obtain ⟨oe, od, mA, J, hl, hr⟩ := k.inst I1
  obtain ⟨u, hu, ru⟩ := RelO.some_of (v := v) (o := mA n) (by rw [← l]; exact hr n)
  exact HandSPX.exc_get I1.kIn J T.ga T.gg T.exC (PySem.W.findObj_own T.hdC hno rfl (by rw [hl, hu])) (handed_of ru) ⟨v, H1, I1.tok _, ru, q⟩
end Vk
namespace K15
open PySem PySem.Spec PyProof.Rows L2 Vk
theorem pa_starK {X : Cx} {K : PySem.W.Frag} {e : Expr} {es : List Expr} {te : TE} {t : TA} {p : Pos} (h : X.K = K) (he : PE X e te) (hr : PA X es t) (hs : starEach (.Starred e p :: es) X.env = (true, eval e X.env) :: starEach es X.env := by rfl) : PA X (.Starred e p :: es) (StX.tStar K te t) := by
  subst h
  exact StX.pa_star he hr hs
theorem op_neDK {X : Cx} {K : PySem.W.Frag} (h : X.K = K) (hu : X.A.units + 64 < cLine) : OpR X (compareOp .NotEq) (rNeD K) := by
  subst h
  exact op_neD hu
abbrev s_others : Stmt := topS 7
theorem sc_others : FnScope ["grid", "starts", "table", "s", "i", "row", "start", "entry"] ["grid"] (defScope s_others) := ⟨rfl, rfl, rfl, by decide +kernel, rfl, by decide +kernel, by decide +kernel⟩
/-- pieces: the one table beside each start -/
def Prs (H : Hp) (tb : Addr) (qs : List Addr) (ss : List (List Int)) : Prop := qs.length = ss.length ∧ ∀ (i : Nat) (q : Addr) (r : List Int), qs[i]? = some q → ss[i]? = some r → ∃ p, Tp H q [.ref tb, .ref p] ∧ Tp H p (r.map V.int)
theorem Prs.same {H H' : Hp} {tb : Addr} {qs : List Addr} {ss : List (List Int)} (h : Prs H tb qs ss) (s : Same H H') : Prs H' tb qs ss := ⟨h.1, fun i q r h1 h2 => by
  obtain ⟨p, a, b⟩ := h.2 i q r h1 h2
  exact ⟨p, a.same s, b.same s⟩⟩
theorem Prs.snoc {H : Hp} {tb q p : Addr} {qs : List Addr} {ss : List (List Int)} {r : List Int} (h : Prs H tb qs ss) (hq : Tp H q [.ref tb, .ref p]) (hp : Tp H p (r.map V.int)) : Prs H tb (qs ++ [q]) (ss ++ [r]) := by
  refine ⟨by rw [List.length_append, List.length_append, h.1]; rfl, fun j a z h1 h2 => ?_⟩
  by_cases hj : j < qs.length
  · rw [List.getElem?_append_left hj] at h1
    rw [List.getElem?_append_left (by rw [← h.1]; exact hj)] at h2
    exact h.2 j a z h1 h2
  · rw [List.getElem?_append_right (by omega)] at h1
    rw [List.getElem?_append_right (by rw [← h.1]; omega)] at h2
    have j0 : j - qs.length = 0 := by
      have := (List.getElem?_eq_some_iff.mp h1).1
      simp only [List.length_cons, List.length_nil] at this
      omega
    rw [j0] at h1
    rw [← h.1, j0] at h2
    obtain rfl : q = a := Option.some.inj h1
    obtain rfl : r = z := Option.some.inj h2
    exact ⟨p, hq, hp⟩
def spOthers : Sp := fun vs H Q _ => ∃ (g tb ts : Addr) (ps : List Addr) (B : List (List Int)) (s : List Int), vs = [.ref g] ∧ Tp H g [.ref tb, .ref ts] ∧ Tp H tb (ps.map V.ref) ∧ Rws H ps B B.length ∧ Row H ts s ∧ s.length = B.length ∧ B.length ≤ 9 ∧
  (∀ i, SmZ 300 (dg B i)) ∧ (∀ i, i < B.length → 0 < dg B i ∧ dg B i ≤ 20000) ∧ sizeP B B.length - 1 ≤ 10000 ∧ (∀ i, i ≤ B.length → (startsI B i).length ≤ 20000) ∧
  ∀ r qs H', Same H H' → Tp H' r (qs.map V.ref) → Prs H' tb qs ((startsI B B.length).filter fun z => decide (z ≠ s)) → Q (.ref r) H'
theorem big {n : Nat} (h : n ≤ 40000) : n < sizeLine := Nat.lt_of_le_of_lt h (by decide)
theorem tp_put {H : Hp} {p D : Addr} {xs l : List V} {o : HO} (h : Tp H p xs) (d : H D = some (.lst l)) : Tp (upd H D o) p xs := by
  have ne : p ≠ D := by
    rintro rfl
    have h : H p = some (.tup xs) := h
    rw [h] at d
    cases d
  show upd H D o p = some (.tup xs)
  rw [upd_ne ne]
  exact h
theorem Rw.put {H : Hp} {D : Addr} {l : List V} {o : HO} {ps : List Addr} {ss : List (List Int)} (h : Rw H ps ss) (d : H D = some (.lst l)) : Rw (upd H D o) ps ss := ⟨h.1, fun i p r h1 h2 => tp_put (h.2 i p r h1 h2) d⟩
theorem Prs.put {H : Hp} {tb D : Addr} {l : List V} {o : HO} {qs : List Addr} {ss : List (List Int)} (h : Prs H tb qs ss) (d : H D = some (.lst l)) : Prs (upd H D o) tb qs ss := ⟨h.1, fun i q r h1 h2 => by
  obtain ⟨p, a, b⟩ := h.2 i q r h1 h2
  exact ⟨p, tp_put a d, tp_put b d⟩⟩
theorem startsI_len (B : List (List Int)) : ∀ i, ∀ z ∈ startsI B i, z.length = i
  | 0, z, h => by
    obtain rfl := List.mem_singleton.mp h
    rfl
  | i + 1, z, h => by
    obtain ⟨y, hy, h2⟩ := List.mem_flatMap.mp h
    obtain ⟨x, _, rfl⟩ := List.mem_map.mp h2
    rw [List.length_append, startsI_len B i y hy]
    rfl
section
variable {P : Program} {w : World} {K : PySem.W.Frag} {mg : Str → Option Value} {base : Heap}
theorem ok_others {f : Addr} {fd : FuncData} {tk : Nat} (F : Fun K "others" "others" s_others f fd) (C_size_of : Cal P w K mg base 1 "size_of" ["grid"] spSize) (g_MOST : mg "MOST_OTHERS" = some (.int 10000 tk)) (m_enumerate : mg "enumerate" = none) (m_range : mg "range" = none) (m_tuple : mg "tuple" = none) : FnOk P w K mg base CX0 2 f fd ["grid"] spOthers := by
  have sc := sc_others
  refine F.ok sc (fun vs H Q E h => ?_) (fun cdv A outer s H vs Q E hr h => ?_)
  · obtain ⟨g, tb, ts, ps, B, s, rfl, _⟩ := h
    rfl
  · obtain ⟨g, tb, ts, ps, B, st, rfl, h1, h2, hR, h4, h5, hB, zd, hd, hz, hl, q⟩ := h
    refine ⟨_, (pss_cons (ps_asg (pv 0) (pg_tup (n := 2) (by rfl) (pgs_cons (pg_name (i := 2) sc.nd rfl (Or.inr rfl)) (pgs_cons (pg_name (i := 3) sc.nd rfl (Or.inr rfl)) pgs_nil))))
    (pss_cons (ps_if (pt_cmpR op_gt (pe_op op_sub (call_ C_size_of (hr.mono (by decide)) (by rfl) (pa_cons (pv 0) pa_nil)) pe_int) (pe_glob (v := .int 10000) rfl g_MOST ⟨_, rfl⟩) (nomark _))
      (pss_one ps_never)
      pss_nil)
    (pss_cons (ps_set (i := 1) sc.nd rfl (Or.inl rfl) (pe_lst (pa_cons (pe_tup pa_nil) pa_nil)))
    (pss_cons (ps_for PassesOwn.never rfl (pi_enumK (by rfl) m_enumerate (pa_cons (pv 2) pa_nil)) (pg_tup (n := 2) (by rfl) (pgs_cons (pg_name (i := 4) sc.nd rfl (Or.inr rfl)) (pgs_cons (pg_name (i := 5) sc.nd rfl (Or.inr rfl)) pgs_nil)))
      (pss_one (ps_setLc2 (i := 1) (own := [("start", 6), ("entry", 7)]) (vs1 := [7]) (g := gName 6) (g1 := gName 7) (by rfl) sc.nd rfl rfl (sw_true rfl rfl rfl (by decide +kernel)) (pi_list (pv 1)) (blkOk_by (own := [("start", 6), ("entry", 7)]) (N := ["grid", "starts", "table", "s", "i", "row", "start", "entry"]) (sc := defScope s_others) (by decide +kernel)) (by decide) (fun _ _ _ _ _ => pg_name (i := 6) sc.nd rfl (Or.inl rfl)) (fun _ _ _ _ _ => pts_nil)
        (fun _ _ _ _ _ => pi_range1 rfl m_range (pa_cons (pe_ix (ix_tupK (K := K) rfl) (pv 5) (pv 4) (fun _ _ => rfl)) pa_nil)) (fun _ _ _ _ _ => pg_name (i := 7) sc.nd rfl (Or.inl rfl)) (fun _ _ _ _ _ => pts_nil) (fun _ _ _ _ _ => pe_tup (pa_starK (K := K) rfl (pv 6) (pa_cons (pv 7) pa_nil))))))
    (pss_one (ps_ret (pe_callTy call_tuple_of (by rfl) m_tuple (by decide +kernel) (pa_cons (pe_lc (own := [("start", 6)]) (g := gName 6) (by rfl) sc.nd (pi_list (pv 1)) (blkOk_by (own := [("start", 6)]) (N := ["grid", "starts", "table", "s", "i", "row", "start", "entry"]) (sc := defScope s_others) (by decide +kernel)) (fun _ _ _ _ _ => pg_name (i := 6) sc.nd rfl (Or.inl rfl)) (fun _ _ _ _ _ => (pts_one (pt_cmpR (op_neDK (K := K) rfl hr.units) (pv 6) (pv 3) (nomark _)))) (fun _ _ _ _ _ => (pe_tup (pa_cons (pv 2) (pa_cons (pv 6) pa_nil))))) pa_nil)))))))), ?_⟩
    refine ⟨.ref g, rfl, g, _, rfl, h1.t, rfl, .ref tb, [.ref ts], rfl, .ref ts, [], rfl, rfl, ?_⟩
    refine ⟨.ref g, rfl, g, B, st, rfl, ⟨tb, ts, ps, h1, h2, hR, h4, h5⟩, hB, zd, fun H1 s1 => ⟨_, 1, rfl, rfl, _, _, rfl, rfl, _, rfl, ite2 (fun e => ?_) (fun _ => ?_)⟩⟩
    · exact absurd (of_decide_eq_true e) (by omega)
    refine ⟨by show 0 ≤ sizeLine; decide, fun z0 nz0 => ?_⟩
    have s2 : Same H1 (upd H1 z0 (.tup [])) := same_new nz0
    have g2 : Tp (upd H1 z0 (.tup [])) z0 (([] : List Int).map V.int) := upd_same
    generalize upd H1 z0 (.tup []) = H2 at s2 g2 ⊢
    refine ⟨by show 1 ≤ sizeLine; decide, fun S0 nS0 => ?_⟩
    have s3 : Same H2 (upd H2 S0 (.lst [.ref z0])) := same_new nS0
    have g3 : upd H2 S0 (.lst [.ref z0]) S0 = some (.lst (([z0] : List Addr).map V.ref)) := upd_same
    generalize upd H2 S0 (.lst [.ref z0]) = H3 at s3 g3 ⊢
    have s03 := (s1.trans s2).trans s3
    have R0 : Rw H3 [z0] (startsI B 0) := ⟨rfl, fun i p r e1 e2 => by
      cases i with
      | zero =>
        obtain rfl : z0 = p := Option.some.inj e1
        obtain rfl : ([] : List Int) = r := Option.some.inj e2
        exact g2.same s3
      | succ i => cases e1⟩
    clear s1 s2 s3 g2 nz0 nS0
    refine ⟨.ref tb, rfl, false, tb, ps.map V.ref, rfl, (h2.same s03).t, ?_⟩
    have lps : (ps.map V.ref).length = B.length := by rw [List.length_map, hR.1]
    refine for_it (walk_enumK (K := K) (b := false) (a := tb) (xs := ps.map V.ref)) (fun i σ H' => ∃ S qs, (∃ y4 y5 y6 y7, σ = [some (.ref g), some (.ref S), some (.ref tb), some (.ref ts), y4, y5, y6, y7]) ∧ Same H H' ∧ H' S = some (.lst (qs.map V.ref)) ∧ Rw H' qs (startsI B i)) ⟨S0, [z0], ⟨none, none, none, none, rfl⟩, s03, g3, R0⟩ (fun i σ H' _ p => by
      obtain ⟨_, _, _, sH, _⟩ := p
      exact (h2.same sH).t) ?_ ?_
    · rintro i x σ H' H6 hi ⟨S, qs, ⟨y4, y5, y6, y7, rfl⟩, sH, gS, hQ⟩ ⟨T, u, v, rfl, nT, rfl, hu, hv⟩
      obtain rfl := Option.some.inj hu
      obtain ⟨p, hp, rfl⟩ := map_get hv
      have hiB : i < B.length := by omega
      obtain ⟨p', hp', Rp, lp, hdi⟩ := row_at hR hiB
      obtain rfl := Option.some.inj (hp.symm.trans hp')
      have sT : Same H' (upd H' T (.tup [.int (i : Nat), .ref p])) := same_new nT
      refine ⟨T, [.int (i : Nat), .ref p], rfl, SqT.of upd_same, rfl, .int (i : Nat), [.ref p], rfl, .ref p, [], rfl, rfl, ?_⟩
      have sx := sH.trans sT
      have gS := sT _ _ gS
      have hQ := hQ.same sT
      generalize upd H' T (.tup [.int (i : Nat), .ref p]) = H7 at sT sx gS hQ ⊢
      have hdp := hd i hiB
      have ls := hl i (by omega)
      have ls1 := hl (i + 1) (by omega)
      obtain ⟨d, hdd⟩ : ∃ d : Nat, dg B i = d := ⟨(dg B i).toNat, by omega⟩
      have nxt : startsI B (i + 1) = midS (startsI B i) d (startsI B i).length 0 := by
        rw [midS_end]
        show (startsI B i).flatMap _ = _
        rw [hdd, Int.toNat_natCast]
      have lS : (startsI B i).length * d ≤ 20000 := by
        have e := congrArg List.length nxt
        rw [midS_len, Nat.min_self] at e
        omega
      have lq := hQ.1
      have lss := startsI_len B i
      generalize hss : startsI B i = ss at hQ ls lS nxt lq lss
      refine ⟨.ref S, rfl, S, rfl, ⟨_, SqL.of gS⟩, fun D nD => ?_⟩
      have lqs : (qs.map V.ref).length = ss.length := by rw [List.length_map, lq]
      refine walk_run (walk_list (K := K) (a := S) (xs := qs.map V.ref)) _ (fun k H' => ∃ zs, Same H7 H' ∧ H' D = some (.lst (zs.map V.ref)) ∧ Rw H' zs (midS ss d k 0)) ⟨[], same_new nD, upd_same, rfl, fun i p r e1 e2 => by cases e1⟩ (fun k H' _ ⟨_, s', _⟩ => SqL.of (s' _ _ gS)) ?_ ?_
      · rintro k x Hk Hk' hk ⟨zs, sk, dk, wk⟩ ⟨rfl, hx⟩
        obtain ⟨pk, hpk, rfl⟩ := map_get hx
        have hks : k < ss.length := by omega
        have hsk : ss[k]? = some ss[k] := List.getElem?_eq_getElem hks
        have tk := hQ.2 k pk _ hpk hsk
        have e9 : ss.getD k [] = ss[k] := by
          rw [List.getD_eq_getElem?_getD, hsk]
          rfl
        refine ⟨rfl, ?_⟩
        unfold tYes
        refine iteT ⟨.ref p, rfl, .int (i : Nat), rfl, p, _, ((i : Nat) : Int), .int (dg B i), rfl, rfl, (Rp.same (sx.trans sk)).1.t, atI_nat (get_map hdi), dg B i, rfl, by omega, by omega, ?_⟩
        have ed : (dg B i).toNat = d := by omega
        rw [ed]
        refine walk_run (walk_range (lo := 0) (n := d)) _ (fun j H' => ∃ zs, Same H7 H' ∧ H' D = some (.lst (zs.map V.ref)) ∧ Rw H' zs (midS ss d k j)) ⟨zs, sk, dk, wk⟩ (fun _ _ _ _ => True.intro) ?_ ?_
        · rintro j x Hj Hj' hj ⟨zs', sj, dj, wj⟩ ⟨rfl, rfl⟩
          refine ⟨rfl, ?_⟩
          refine iteT ⟨.ref pk, rfl, pk, _, rfl, .inl (tk.same sj).t, .int (0 + j), rfl, ?_⟩
          have lz := wj.1
          rw [midS_len] at lz
          have b1 : min k ss.length * d + d ≤ 20000 := by
            have h9 : (k + 1) * d ≤ ss.length * d := Nat.mul_le_mul_right _ hks
            rw [Nat.succ_mul] at h9
            rw [Nat.min_eq_left (by omega)]
            omega
          have ej : (0 + ((j : Nat) : Int)) = ((j : Nat) : Int) := Int.zero_add _
          have hlen : (List.map V.int ss[k] ++ [V.int (0 + ((j : Nat) : Int))]).length ≤ sizeLine := by
            rw [List.length_append, List.length_map, lss ss[k] (List.getElem_mem hks)]
            exact Nat.le_of_lt (small (by show i + 1 ≤ 100; omega))
          have hmap : List.map V.int ss[k] ++ [V.int (0 + ((j : Nat) : Int))] = (ss[k] ++ [((j : Nat) : Int)]).map V.int := by
            rw [List.map_append, ej]
            rfl
          refine ⟨hlen, fun q nq => ⟨zs'.map V.ref, ?_, ?_, ?_⟩⟩
          · exact same_new nq _ _ dj
          · rw [List.length_map, lz]
            exact big (by omega)
          · have nDH : H7 D = none := nD
            refine ⟨zs' ++ [q], ?_, ?_, ?_⟩
            · exact same_put (sj.trans (same_new nq)) nDH
            · rw [upd_same, List.map_append]
              rfl
            · rw [midS_snoc, e9]
              have dj2 := same_new (o := .tup ((ss[k] ++ [((j : Nat) : Int)]).map V.int)) nq _ _ dj
              have w2 := (wj.same (same_new (o := .tup ((ss[k] ++ [((j : Nat) : Int)]).map V.int)) nq)).snoc (r := ss[k] ++ [((j : Nat) : Int)]) upd_same
              show Rw (upd (upd Hj' q (.tup (List.map V.int ss[k] ++ [V.int (0 + ((j : Nat) : Int))]))) D _) _ _
              rw [hmap]
              exact w2.put dj2
        · rintro Hj ⟨zs', sj, dj, wj⟩
          rw [midS_next ss d k hks] at wj
          exact ⟨zs', sj, dj, wj⟩
      · rintro Hk ⟨zs, sk, dk, wk⟩
        rw [lqs, ← nxt] at wk
        exact ⟨D, zs, ⟨_, _, _, _, rfl⟩, sx.trans sk, dk, wk⟩
    · rintro σ H4 ⟨S, qs, ⟨y4, y5, y6, y7, rfl⟩, sH, gS, hQ⟩
      rw [lps] at hQ
      have ls := hl B.length (Nat.le_refl _)
      have lq := hQ.1
      generalize startsI B B.length = ss at hQ ls lq q
      have lqs : (qs.map V.ref).length = ss.length := by rw [List.length_map, lq]
      have tb4 := h2.same sH
      have st4 := h4.same sH
      refine ⟨.ref S, rfl, S, rfl, ⟨_, SqL.of gS⟩, fun D nD => ?_⟩
      refine walk_run (walk_list (K := K) (a := S) (xs := qs.map V.ref)) _ (fun k H' => ∃ zs, Same H4 H' ∧ H' D = some (.lst (zs.map V.ref)) ∧ Prs H' tb zs ((ss.take k).filter fun z => decide (z ≠ st))) ⟨[], same_new nD, upd_same, rfl, fun i p r e1 e2 => by cases e1⟩ (fun k H' _ ⟨_, s', _⟩ => SqL.of (s' _ _ gS)) ?_ ?_
      · rintro k x Hk Hk' hk ⟨zs, sk, dk, wk⟩ ⟨rfl, hx⟩
        obtain ⟨pk, hpk, rfl⟩ := map_get hx
        have hks : k < ss.length := by omega
        have hsk : ss[k]? = some ss[k] := List.getElem?_eq_getElem hks
        have tk := hQ.2 k pk _ hpk hsk
        have tkk := tk.same sk
        have stk := st4.same sk
        have e9 : ss.take (k + 1) = ss.take k ++ [ss[k]] := by
          rw [List.take_add_one, hsk]
          rfl
        refine ⟨rfl, ?_⟩
        refine ⟨.ref pk, rfl, .ref ts, rfl, .tuple (ss[k].map PyData.int), .tuple (st.map PyData.int), .tup (SqT.of tkk) (dp_ints _), .tup (SqT.of stk.1) (dp_ints _), shaped_row _, shaped_row _, _, rfl, ?_⟩
        show if (!PyData.eqv _ _) = true then _ else _
        rw [eqv_rows]
        by_cases he : ss[k] = st
        · rw [if_neg (by simp [he])]
          refine ⟨zs, sk, dk, ?_⟩
          rw [e9, List.filter_append, List.filter_cons_of_neg (by simp [he]), List.filter_nil, List.append_nil]
          exact wk
        · rw [if_pos (by simp [he])]
          refine ⟨.ref tb, rfl, .ref pk, rfl, by show 2 ≤ sizeLine; decide, fun q nq => ⟨zs.map V.ref, ?_, ?_, ?_⟩⟩
          · exact same_new nq _ _ dk
          · rw [List.length_map, wk.1]
            refine big (Nat.le_trans (List.length_filter_le _ _) ?_)
            rw [List.length_take]
            omega
          · refine ⟨zs ++ [q], same_put (sk.trans (same_new nq)) nD, ?_, ?_⟩
            · rw [upd_same, List.map_append]
              rfl
            · rw [e9, List.filter_append, List.filter_cons_of_pos (by simp [he]), List.filter_nil]
              exact ((wk.same (same_new nq)).snoc upd_same (tkk.same (same_new nq))).put (same_new nq _ _ dk)
      · rintro Hk ⟨zs, sk, dk, wk⟩
        have ek : ss.take (qs.map V.ref).length = ss := by rw [lqs, List.take_length]
        rw [ek] at wk
        refine ⟨D, _, rfl, .inl ⟨SqL.of dk, fun l nl => ?_⟩⟩
        exact q l zs _ ((sH.trans sk).trans (same_new nl)) upd_same (wk.same (same_new nl))
end
end K15
namespace K15
open PySem PySem.Spec PyProof.Rows L2 Vk
abbrev s_starts : Stmt := topS 19
theorem sc_starts : FnScope ["grid_so", "found", "i", "longer", "s", "x"] ["grid_so"] (defScope s_starts) := ⟨rfl, rfl, rfl, by decide +kernel, rfl, by decide +kernel, by decide +kernel⟩
theorem op_catAK {X : Cx} {K : PySem.W.Frag} (h : X.K = K) : OpR X (binaryOp .Add) (rCatA K) := by
  subst h
  exact op_catA
theorem Rw.append {H : Hp} {ps qs : List Addr} {ss ts : List (List Int)} (h : Rw H ps ss) (k : Rw H qs ts) : Rw H (ps ++ qs) (ss ++ ts) := by
  refine ⟨by rw [List.length_append, List.length_append, h.1, k.1], fun j a z h1 h2 => ?_⟩
  by_cases hj : j < ps.length
  · rw [List.getElem?_append_left hj] at h1
    rw [List.getElem?_append_left (by rw [← h.1]; exact hj)] at h2
    exact h.2 j a z h1 h2
  · rw [List.getElem?_append_right (by omega)] at h1
    rw [List.getElem?_append_right (by rw [← h.1]; omega)] at h2
    rw [← h.1] at h2
    exact k.2 _ a z h1 h2
def spStarts : Sp := fun vs H Q _ => ∃ (g : Addr) (B : List (List Int)) (s : List Int), vs = [.ref g] ∧ Gr H g B s ∧ B.length ≤ 9 ∧ (∀ i, i < B.length → 0 < dg B i ∧ dg B i ≤ 20000) ∧ (∀ i, i ≤ B.length → (startsI B i).length ≤ 20000) ∧
  ∀ l qs H', Same H H' → H' l = some (.lst (qs.map V.ref)) → Rw H' qs (startsI B B.length) → Q (.ref l) H'
section
variable {P : Program} {w : World} {K : PySem.W.Frag} {mg : Str → Option Value} {base : Heap}
theorem ok_starts {f : Addr} {fd : FuncData} (F : Fun K "_law_starts" "_law_starts" s_starts f fd) (m_len : mg "len" = none) (m_range : mg "range" = none) : FnOk P w K mg base CX0 1 f fd ["grid_so"] spStarts := by
  have sc := sc_starts
  refine F.ok sc (fun vs H Q E h => ?_) (fun cdv A outer s H vs Q E hr h => ?_)
  · obtain ⟨g, B, s, rfl, _⟩ := h
    rfl
  · obtain ⟨g, B, st, rfl, ⟨tb, ts, ps, h1, h2, hR, h4, h5⟩, hB, hd, hl, q⟩ := h
    refine ⟨_, (pss_cons (ps_set (i := 1) sc.nd rfl (Or.inl rfl) (pe_lst (pa_cons (pe_tup pa_nil) pa_nil)))
    (pss_cons (ps_for PassesOwn.never rfl (pi_range1 rfl m_range (pa_cons (pe_callB call_len_seq (by rfl) m_len (by decide +kernel) (pa_cons (pe_ix (ix_tupK (K := K) rfl) (pv 0) pe_int (fun _ _ => rfl)) pa_nil)) pa_nil)) (pg_name (i := 2) sc.nd rfl (Or.inl rfl))
      (pss_cons (ps_set (i := 3) sc.nd rfl (Or.inl rfl) (pe_lst pa_nil))
    (pss_cons (ps_for PassesOwn.never rfl (pi_list (pv 1)) (pg_name (i := 4) sc.nd rfl (Or.inr rfl))
      (pss_one (ps_expr (pe_bm PySem.F.plainAttrs_list PySem.F.slot_list_extend PySem.F.type_list_extend mt_extend (pv 3) (pa_cons
        (pe_lc (own := [("x", 5)]) (g := gName 5) (by rfl) sc.nd (pi_range1 rfl m_range (pa_cons (pe_ix (ix_tupK (K := K) rfl) (pe_ix (ix_tupK (K := K) rfl) (pe_ix (ix_tupK (K := K) rfl) (pv 0) pe_int (fun _ _ => rfl)) (pv 2) (fun _ _ => rfl)) (pv 2) (fun _ _ => rfl)) pa_nil)) (blkOk_by (own := [("x", 5)]) (N := ["grid_so", "found", "i", "longer", "s", "x"]) (sc := defScope s_starts) (by decide +kernel)) (fun _ _ _ _ _ => pg_name (i := 5) sc.nd rfl (Or.inl rfl)) (fun _ _ _ _ _ => pts_nil) (fun _ _ _ _ _ => (pe_op (op_catAK (K := K) rfl) (pv 4) (pe_tup (pa_cons (pv 5) pa_nil))))) pa_nil)))))
    (pss_one (ps_set (i := 1) sc.nd rfl (Or.inl rfl) (pv 3))))))
    (pss_one (ps_ret (pv 1))))), ?_⟩
    refine ⟨by show 0 ≤ sizeLine; decide, fun z0 nz0 => ?_⟩
    have s2 : Same H (upd H z0 (.tup [])) := same_new nz0
    have g2 : Tp (upd H z0 (.tup [])) z0 (([] : List Int).map V.int) := upd_same
    generalize upd H z0 (.tup []) = H2 at s2 g2 ⊢
    refine ⟨by show 1 ≤ sizeLine; decide, fun S0 nS0 => ?_⟩
    have s3 : Same H2 (upd H2 S0 (.lst [.ref z0])) := same_new nS0
    have g3 : upd H2 S0 (.lst [.ref z0]) S0 = some (.lst (([z0] : List Addr).map V.ref)) := upd_same
    generalize upd H2 S0 (.lst [.ref z0]) = H3 at s3 g3 ⊢
    have s03 := s2.trans s3
    have R0 : Rw H3 [z0] (startsI B 0) := ⟨rfl, fun i p r e1 e2 => by
      cases i with
      | zero =>
        obtain rfl : z0 = p := Option.some.inj e1
        obtain rfl : ([] : List Int) = r := Option.some.inj e2
        exact g2.same s3
      | succ i => cases e1⟩
    clear s2 s3 g2 nz0 nS0
    have lst : ((st.map V.int).length : Int) = (B.length : Nat) := by rw [List.length_map, h5]
    refine ⟨.ref g, rfl, g, _, 1, .ref ts, rfl, rfl, (h1.same s03).t, atI_nat (j := 1) rfl, ts, st.map V.int, rfl, .inr (h4.same s03).1.t, ((st.map V.int).length : Int), rfl, by omega, ?_, ?_⟩
    · rw [List.length_map]
      omega
    have e0 : ((st.map V.int).length : Int).toNat = B.length := by
      rw [List.length_map]
      omega
    rw [e0]
    refine for_it (walk_range (lo := 0) (n := B.length)) (fun i σ H' => ∃ S qs, (∃ y2 y3 y4 y5, σ = [some (.ref g), some (.ref S), y2, y3, y4, y5]) ∧ Same H H' ∧ H' S = some (.lst (qs.map V.ref)) ∧ Rw H' qs (startsI B i)) ⟨S0, [z0], ⟨none, none, none, none, rfl⟩, s03, g3, R0⟩ (fun i σ H' _ p => True.intro) ?_ ?_
    · rintro i x σ H' H6 hiB ⟨S, qs, ⟨y2, y3, y4, y5, rfl⟩, sH, gS, hQ⟩ ⟨rfl, rfl⟩
      obtain ⟨p, hp, Rp, lp, hdi⟩ := row_at hR hiB
      have hdp := hd i hiB
      have ls := hl i (by omega)
      have ls1 := hl (i + 1) (by omega)
      obtain ⟨d, hdd⟩ : ∃ d : Nat, dg B i = d := ⟨(dg B i).toNat, by omega⟩
      have nxt : startsI B (i + 1) = midS (startsI B i) d (startsI B i).length 0 := by
        rw [midS_end]
        show (startsI B i).flatMap _ = _
        rw [hdd, Int.toNat_natCast]
      have lS : (startsI B i).length * d ≤ 20000 := by
        have e := congrArg List.length nxt
        rw [midS_len, Nat.min_self] at e
        omega
      have lq := hQ.1
      have lss := startsI_len B i
      have ei : (0 + (i : Int)) = ((i : Nat) : Int) := by omega
      generalize hss : startsI B i = ss at hQ ls lS nxt lq lss
      have lqs : (qs.map V.ref).length = ss.length := by rw [List.length_map, lq]
      refine ⟨by show 0 ≤ sizeLine; decide, fun L nL => ?_⟩
      have neS : S ≠ L := ne_of_none gS nL
      refine ⟨.ref S, rfl, S, rfl, ⟨_, SqL.of (same_new nL _ _ gS)⟩, ?_⟩
      refine for_it (walk_list (K := K) (a := S) (xs := qs.map V.ref)) (fun k σ H' => ∃ zs, (∃ y4 y5, σ = [some (.ref g), some (.ref S), some (.int (0 + i)), some (.ref L), y4, y5]) ∧ Same H6 H' ∧ H' L = some (.lst (zs.map V.ref)) ∧ Rw H' zs (midS ss d k 0)) ⟨[], ⟨_, _, rfl⟩, same_new nL, upd_same, rfl, fun i p r e1 e2 => by cases e1⟩ (fun k σ H' _ ⟨_, _, s', _⟩ => SqL.of (s' _ _ gS)) ?_ ?_
      · rintro k x σ Hk Hk' hk ⟨zs, ⟨y4, y5, rfl⟩, sk, dk, wk⟩ ⟨rfl, hx⟩
        obtain ⟨pk, hpk, rfl⟩ := map_get hx
        have hks : k < ss.length := by omega
        have hsk : ss[k]? = some ss[k] := List.getElem?_eq_getElem hks
        have tk := hQ.2 k pk _ hpk hsk
        have e9 : ss.getD k [] = ss[k] := by
          rw [List.getD_eq_getElem?_getD, hsk]
          rfl
        have sx := sH.trans sk
        refine ⟨.ref L, rfl, .inl ⟨rfl, _, SqL.of dk⟩, ?_⟩
        refine ⟨.ref g, rfl, g, _, 0, .ref tb, rfl, rfl, (h1.same sx).t, atI_nat (j := 0) rfl, .int (0 + i), rfl, tb, _, 0 + i, .ref p, rfl, rfl, (h2.same sx).t, atI_at ei (get_map hp), .int (0 + i), rfl, p, _, 0 + i, .int (dg B i), rfl, rfl, (Rp.same sx).1.t, atI_at ei (get_map hdi), dg B i, rfl, by omega, by omega, fun D nD => ?_⟩
        have ed : (dg B i).toNat = d := by omega
        rw [ed]
        refine walk_run (walk_range (lo := 0) (n := d)) _ (fun j H' => ∃ ws, Same Hk' H' ∧ H' D = some (.lst (ws.map V.ref)) ∧ Rw H' ws ((List.range j).map fun x => ss[k] ++ [((x : Nat) : Int)])) ⟨[], same_new nD, upd_same, rfl, fun i p r e1 e2 => by cases e1⟩ (fun _ _ _ _ => True.intro) ?_ ?_
        · rintro j x Hj Hj' hj ⟨ws, sj, dj, wj⟩ ⟨rfl, rfl⟩
          have ej : (0 + ((j : Nat) : Int)) = ((j : Nat) : Int) := Int.zero_add _
          have lw := wj.1
          rw [List.length_map, List.length_range] at lw
          have ld : d ≤ 20000 := by omega
          refine ⟨rfl, ?_⟩
          unfold tYes
          refine iteT ⟨.ref pk, rfl, .int (0 + j), rfl, by show 1 ≤ sizeLine; decide, fun T nT => ?_⟩
          have nDH : Hk' D = none := nD
          refine cat_tp ((tk.same (sk.trans sj)).same (same_new nT)) upd_same (by
            rw [List.length_map, lss ss[k] (List.getElem_mem hks)]
            exact Nat.le_of_lt (small (by show i + 1 ≤ 100; omega))) fun r H9 s9 t9 => ?_
          have sT := (same_new (o := .tup [.int (0 + ((j : Nat) : Int))]) nT).trans s9
          have d9 := sT _ _ dj
          refine ⟨ws.map V.ref, d9, ?_, ws ++ [r], same_put (sj.trans sT) nDH, ?_, ?_⟩
          · rw [List.length_map, lw]
            exact big (by omega)
          · rw [upd_same, List.map_append]
            rfl
          · rw [List.range_succ, List.map_append]
            refine Rw.put (Rw.snoc (wj.same sT) (r := ss[k] ++ [((j : Nat) : Int)]) ?_) d9
            rw [List.map_append]
            rw [ej] at t9
            exact t9
        · rintro Hd ⟨ws, sd, dd, wd⟩
          have lw := wd.1
          rw [List.length_map, List.length_range] at lw
          have lz := wk.1
          rw [midS_len] at lz
          have b1 : min k ss.length * d + d ≤ 20000 := by
            have h9 : (k + 1) * d ≤ ss.length * d := Nat.mul_le_mul_right _ hks
            rw [Nat.succ_mul] at h9
            rw [Nat.min_eq_left (by omega)]
            omega
          have gLd := sd _ _ dk
          refine ⟨L, D, zs.map V.ref, ws.map V.ref, rfl, rfl, gLd, dd, ?_, zs ++ ws, ⟨_, _, rfl⟩, same_put (sk.trans sd) nL, ?_, ?_⟩
          · rw [List.length_map, List.length_map, lw, lz]
            exact Nat.le_of_lt (big (by omega))
          · rw [upd_same, List.map_append]
          · refine Rw.put ?_ gLd
            have e := (wk.same sd).append wd
            have e2 : midS ss d k 0 ++ (List.range d).map (fun x => ss[k] ++ [((x : Nat) : Int)]) = midS ss d k d := by
              unfold midS
              rw [e9, List.range_zero, List.map_nil, List.append_nil]
            rw [e2, midS_next ss d k hks] at e
            exact e
      · rintro σ Hk ⟨zs, ⟨y4, y5, rfl⟩, sk, dk, wk⟩
        rw [lqs, ← nxt] at wk
        exact ⟨_, rfl, L, zs, ⟨_, _, _, _, rfl⟩, sH.trans sk, dk, wk⟩
    · rintro σ H4 ⟨S, qs, ⟨y2, y3, y4, y5, rfl⟩, sH, gS, hQ⟩
      exact ⟨_, rfl, q _ _ _ sH gS hQ⟩
end
end K15
namespace Vk
open PySem PySem.Spec PyProof.Rows L2
/-- a tuple once is the tuple -/
theorem once_ (l : Addr) (its : Array Value) (n : Nat) (dd : Option Addr) (sl : Array (Option Value)) (u : Tok) :
    Meets (Builtin.«tuple.__mul__» ⟨[.ref l, .int 1 u], []⟩) (fun _ R s => s.heap.get? l = some { cls := .type "tuple", dict := dd, data := .seq its n, slots := sl } ∧ R (.ok (.ret (Value.ref l))) s) :=
  .of_wp fun prog w A R s h => by
    obtain ⟨hp, gs, dr, tk, os⟩ := s
    obtain ⟨at_l, last⟩ := h
    have f1 := AutoSeq1.idx_int
    have one : (its.isEmpty || (1 : Int) == 1) = true := by
      rw [Bool.or_eq_true]
      exact Or.inr rfl
    wp_walk using wpAny_loadPart' at_l
    exact ⟨_, rfl, last⟩
/-- a tuple no times is the empty tuple -/
theorem never_ (l : Addr) (its : Array Value) (n : Nat) (dd : Option Addr) (sl : Array (Option Value)) (u : Tok) (ne : its.isEmpty = false) :
    Meets (Builtin.«tuple.__mul__» ⟨[.ref l, .int 0 u], []⟩) (fun _ R s => s.heap.get? l = some { cls := .type "tuple", dict := dd, data := .seq its n, slots := sl } ∧
      R (.ok (.ret (Value.ref s.heap.objs.size))) { s with heap := s.heap.push { cls := Value.type "tuple", data := Data.seq #[] }, toks := s.toks }) :=
  .of_wp fun prog w A R s h => by
    obtain ⟨hp, gs, dr, tk, os⟩ := s
    obtain ⟨at_l, last⟩ := h
    have f1 := AutoSeq1.idx_int
    have no : (its.isEmpty || (0 : Int) == 1) = false := by
      rw [ne]
      rfl
    wp_walk using wpAny_loadPart' at_l
    exact ⟨_, rfl, last⟩
/-- a tuple some times, be it once or never -/
def rTms (K : PySem.W.Frag) : R2 := fun x y H Q => ∃ (l : Addr) (k : Nat) (xs : List V), x = .ref l ∧ y = .int (k : Int) ∧ SqT K H l xs ∧ xs ≠ [] ∧ k ≤ 1000 ∧ xs.length ≤ 1000 ∧ (k = 1 → Q (.ref l) H) ∧ (k ≠ 1 → ∀ p, H p = none → Q (.ref p) (upd H p (.tup (List.replicate k xs).flatten)))
theorem op_tms {X : Cx} {K : PySem.W.Frag} (h : X.K = K) : OpR X (binaryOp .Mult) (rTms K) := by
  subst h
  intro pins s σ H x y v u Q I rx ry h
  obtain ⟨l, k, xs, rfl, rfl, hT, hne, hk, hx, q1, q2⟩ := h
  by_cases big : 2 ≤ k
  · refine op_repT _ _ _ _ _ _ _ _ _ I rx ry ⟨l, k, xs, rfl, rfl, hT, hne, by omega, by omega, hx, ?_⟩
    rw [Int.toNat_natCast]
    exact q2 (by omega)
  · cases rx
    obtain ⟨tk, rfl⟩ := ry
    obtain ⟨its, r, ⟨⟨cls, dd, data, sl⟩, ho, hc, n, hd⟩, hs⟩ := I.tuple hT
    simp only at hc hd
    subst hc hd
    have full : its.toArray.isEmpty = false := by
      cases its with
      | cons a b => rfl
      | nil => exact absurd (List.eq_nil_of_length_eq_zero r.length) hne
    obtain rfl | rfl : k = 0 ∨ k = 1 := by omega
    · refine wpAny_binaryOp_repeat_ref (T := "tuple") (U := "int") (by decide) ⟨_, ho, rfl⟩ (fun s' => typeIs_int s' _ tk) noFill_tuple_mul F.fills_int_mul F.slot_int_rmul repeat_tuple F.slot_int_index.lookup (call_meets F.slot_int_rmul (typeIs_int s _ tk) F.entry_int_rmul (F.args_int_rmul_2 _ _) (int_rmul_tuple _ tk l its.toArray n dd sl) ⟨ho, rfl, ⟨_, ho, rfl⟩, call_meets F.slot_tuple_mul ⟨_, ho, rfl⟩ F.entry_tuple_mul (F.args_tuple_mul_2 _ _) (never_ l its.toArray n dd sl tk full) ⟨ho, ?_⟩⟩)
      refine ⟨.ref s.heap.objs.size, _, I.laid (t' := s.toks) (o := .tup []) (fun b ob q => Heap.get?_push_of_some _ q) (Nat.le_refl _) ?_, rfl, q2 (by decide) _ (I.hok.fresh (Nat.le_refl _))⟩
      exact ⟨by decide, _, .nil, IsTup.new _ _⟩
    · exact wpAny_binaryOp_repeat_ref (T := "tuple") (U := "int") (by decide) ⟨_, ho, rfl⟩ (fun s' => typeIs_int s' _ tk) noFill_tuple_mul F.fills_int_mul F.slot_int_rmul repeat_tuple F.slot_int_index.lookup (call_meets F.slot_int_rmul (typeIs_int s _ tk) F.entry_int_rmul (F.args_int_rmul_2 _ _) (int_rmul_tuple _ tk l its.toArray n dd sl) ⟨ho, rfl, ⟨_, ho, rfl⟩, call_meets F.slot_tuple_mul ⟨_, ho, rfl⟩ F.entry_tuple_mul (F.args_tuple_mul_2 _ _) (once_ l its.toArray n dd sl tk) ⟨ho, ⟨.ref l, _, I, rfl, q1 rfl⟩⟩⟩)
end Vk
namespace K15
open PySem PySem.Spec PyProof.Rows L2 Vk
theorem op_tmsK {X : Cx} {K : PySem.W.Frag} (h : X.K = K) : OpR X (binaryOp .Mult) (rTms K) := op_tms h
/-- a comprehension of drawn numbers, each below its own bound -/
theorem lc_drawnB {n : Nat} {g : TG} {te : TE} {vs : List Nat} {σ : L2.St} {H1 : Hp} {D : Addr} {Qd : Hp → Prop} {m c : Addr} {q : Nat} (up : Nat → Int) (hz : n < sizeLine) (hM : MOk H1 m c q) (nD : H1 D = none)
    (hs : ∀ (i : Nat) (H : Hp) (Qy : VK), i < n → SameBut m H1 H → MOk H m c (q + i) → (∀ H4 v, SameBut m H H4 → MOk H4 m c (q + i + 1) → 0 ≤ v → v < up i → Qy (.int v) H4) → g (.int (0 + i)) (wipe σ vs) H fun σ2 H2 => wipe σ2 vs = wipe σ vs ∧ te σ2 H2 Qy)
    (hd : ∀ H (xs : List Int), SameBut m H1 H → MOk H m c (q + n) → H D = some (.lst (xs.map V.int)) → xs.length = n → (∀ (i : Nat) (x : Int), xs[i]? = some x → 0 ≤ x ∧ x < up i) → Qd H) :
    ∃ W : Nat → Nat → Hp → Prop, (∃ m, W 0 m (upd H1 D (.lst []))) ∧ ∀ i m H, W i m H →
      ((Itr 0 n).stop i H ∧ Qd H) ∨ ((Itr 0 n).go i H ∧ ∃ Nx : Hp → Prop, (∀ H', Nx H' → ∃ m', m' < m ∧ W (i + 1) m' H') ∧ ∀ x H', (Itr 0 n).yld i H x H' → g x (wipe σ vs) H' fun σ2 H2 => wipe σ2 vs = wipe σ vs ∧ tYes σ2 H2 fun b H3 =>
        if b = true then te σ2 H3 fun y H4 => ∃ acc, H4 D = some (.lst acc) ∧ acc.length < sizeLine ∧ Nx (upd H4 D (.lst (acc ++ [y]))) else Nx H3) := by
  obtain ⟨kvs, hm⟩ := hM.m_some
  obtain ⟨ys, hc⟩ := hM.c_some
  have dm : D ≠ m := Ne.symm (ne_of_none hm nD)
  have dc : D ≠ c := Ne.symm (ne_of_none hc nD)
  refine lc_it (walk_range (lo := 0) (n := n)) (tt := tYes) (fun i H => ∃ xs : List Int, SameBut m H1 H ∧ MOk H m c (q + i) ∧ H D = some (.lst (xs.map V.int)) ∧ xs.length = i ∧ ∀ (j : Nat) (x : Int), xs[j]? = some x → 0 ≤ x ∧ x < up j) ⟨[], SameBut.of (same_new nD), hM.put dm dc, upd_same, rfl, fun j x hx => by cases hx⟩ (fun _ _ _ _ => True.intro) ?_ ?_
  · rintro i x H H' hi ⟨xs, sb, M, d, l, bd⟩ ⟨rfl, rfl⟩
    refine hs i H' (fun y H4 => ∃ acc, H4 D = some (.lst acc) ∧ acc.length < sizeLine ∧ ∃ xs : List Int, SameBut m H1 (upd H4 D (.lst (acc ++ [y]))) ∧ MOk (upd H4 D (.lst (acc ++ [y]))) m c (q + (i + 1)) ∧ upd H4 D (.lst (acc ++ [y])) D = some (.lst (xs.map V.int)) ∧ xs.length = i + 1 ∧ ∀ (j : Nat) (x : Int), xs[j]? = some x → 0 ≤ x ∧ x < up j) hi sb M fun H4 v b4 M4 v0 v1 => ?_
    refine ⟨xs.map V.int, b4 _ _ dm d, by rw [List.length_map]; omega, xs ++ [v], fun b o hb e => ?_, M4.put dm dc, ?_, by rw [List.length_append, l]; rfl, fun j x hx => ?_⟩
    · rw [upd_ne (ne_of_none e nD)]
      exact b4 _ _ hb (sb _ _ hb e)
    · rw [upd_same, List.map_append]
      rfl
    · by_cases hj : j < xs.length
      · rw [List.getElem?_append_left hj] at hx
        exact bd j x hx
      · have hj2 := (List.getElem?_eq_some_iff.mp hx).1
        rw [List.length_append] at hj2
        have hj3 : j = xs.length := by
          simp only [List.length_cons, List.length_nil] at hj2
          omega
        subst hj3
        rw [List.getElem?_append_right (Nat.le_refl _), Nat.sub_self] at hx
        obtain rfl := Option.some.inj hx
        rw [l]
        exact ⟨v0, v1⟩
  · rintro H ⟨xs, sb, M, d, l, bd⟩
    exact hd H xs sb M d l bd
end K15
namespace K15
open PySem PySem.Spec PyProof.Rows L2 Vk
abbrev s_grid : Stmt := topS 15
theorem sc_grid : FnScope ["m", "size_so", "most", "rows", "i", "side", "j"] ["m", "size_so", "most"] (defScope s_grid) := ⟨rfl, rfl, rfl, by decide +kernel, rfl, by decide +kernel, by decide +kernel⟩
/-- the i-th row of a drawn table -/
def RowOk (n : Nat) (most : Int) (i : Nat) (r : List Int) : Prop := r.length = n ∧ 1 ≤ r.getD i 0 ∧ r.getD i 0 ≤ most ∧ (∀ j, j < i → 0 ≤ r.getD j 0 ∧ r.getD j 0 < r.getD i 0) ∧ ∀ j, i < j → r.getD j 0 = 0
def GridOk (n : Nat) (most : Int) (B : List (List Int)) (s : List Int) : Prop := B.length = n ∧ s.length = n ∧ (∀ i, i < n → RowOk n most i (B.getD i [])) ∧ ∀ i, i < n → 0 ≤ s.getD i 0 ∧ s.getD i 0 < dg B i
def spGrid : Sp := fun vs H Q _ => ∃ (m c : Addr) (q n : Nat) (most : Int), vs = [.ref m, .int n, .int most] ∧ MOk H m c q ∧ q ≤ 5000 ∧ n ≤ 4 ∧ 1 ≤ most ∧ most ≤ 100 ∧
  ∀ H' g B s, SameBut m H H' → MOk H' m c (q + 20) → H g = none → Gr H' g B s → GridOk n most B s → Q (.ref g) H'
theorem tms_tp {K : PySem.W.Frag} {H : Hp} {a : Addr} {xs : List V} {k : Nat} {z : Int} {Q : VK} (ez : z = ((k : Nat) : Int)) (ha : Tp H a xs) (ne : xs ≠ []) (hk : k ≤ 1000) (hx : xs.length ≤ 1000) (q : ∀ r H', Same H H' → Tp H' r (List.replicate k xs).flatten → Q (.ref r) H') : rTms K (.ref a) (.int z) H Q := by
  subst ez
  refine ⟨a, k, xs, rfl, rfl, ha.t, ne, hk, hx, fun e => ?_, fun _ p np => q p _ (same_new np) upd_same⟩
  subst e
  refine q a H (Same.refl _) ?_
  rw [List.replicate_one, List.flatten_singleton]
  exact ha
theorem rowOk_of {n i : Nat} {most v : Int} {xs : List Int} (hi : i < n) (l : xs.length = i) (v0 : 0 ≤ v) (v1 : v < most) (bd : ∀ (j : Nat) (x : Int), xs[j]? = some x → 0 ≤ x ∧ x < 1 + v) : RowOk n most i (xs ++ [1 + v] ++ List.replicate (n - 1 - i) 0) := by
  have mid : (xs ++ [1 + v] ++ List.replicate (n - 1 - i) 0).getD i 0 = 1 + v := by
    rw [List.getD_eq_getElem?_getD, List.append_assoc, List.getElem?_append_right (by omega), l, Nat.sub_self]
    rfl
  refine ⟨?_, ?_, ?_, fun j hj => ?_, fun j hj => ?_⟩
  · rw [List.length_append, List.length_append, List.length_replicate, l]
    show i + 1 + _ = n
    omega
  · rw [mid]; omega
  · rw [mid]; omega
  · rw [mid, List.getD_eq_getElem?_getD, List.append_assoc, List.getElem?_append_left (by omega)]
    have e : xs[j]? = some xs[j] := List.getElem?_eq_getElem (by omega)
    rw [e]
    exact bd j _ e
  · rw [List.getD_eq_getElem?_getD, List.getElem?_append_right (by rw [List.length_append, l]; show i + 1 ≤ j; omega), List.getElem?_replicate]
    split <;> rfl
theorem row_small {k : Nat} {v : Int} {xs : List Int} (v0 : 0 ≤ v) (v1 : v < 100) (bd : ∀ (j : Nat) (x : Int), xs[j]? = some x → 0 ≤ x ∧ x < 1 + v) : ∀ x ∈ xs ++ [1 + v] ++ List.replicate k 0, SmZ 300 x := by
  intro x hx
  have : 0 ≤ x ∧ x ≤ 100 := by
    rcases List.mem_append.mp hx with hx | hx
    · rcases List.mem_append.mp hx with hx | hx
      · obtain ⟨j, hj⟩ := List.getElem?_of_mem hx
        have := bd j x hj
        omega
      · rw [List.mem_singleton] at hx
        omega
    · have := (List.mem_replicate.mp hx).2
      omega
  exact Nat.lt_of_le_of_lt (show x.natAbs ≤ 100 by omega) (by decide)
section
variable {P : Program} {w : World} {K : PySem.W.Frag} {mg : Str → Option Value} {base : Heap}
theorem ok_grid {f : Addr} {fd : FuncData} (F : Fun K "_law_grid" "_law_grid" s_grid f fd) (C__law_draw : Cal P w K mg base 1 "_law_draw" ["m", "bound"] spDraw) (m_tuple : mg "tuple" = none) (m_range : mg "range" = none) : FnOk P w K mg base CX0 2 f fd ["m", "size_so", "most"] spGrid := by
  have sc := sc_grid
  refine F.ok sc (fun vs H Q E h => ?_) (fun cdv A outer s H vs Q E hr h => ?_)
  · obtain ⟨m, c, q, n, most, rfl, _⟩ := h
    rfl
  · obtain ⟨m, c, q, n, most, rfl, hM, hq, hn, hm0, hm1, k⟩ := h
    refine ⟨_, (pss_cons (ps_set (i := 3) sc.nd rfl (Or.inr rfl) (pe_lst pa_nil))
    (pss_cons (ps_for PassesOwn.never rfl (pi_range1 rfl m_range (pa_cons (pv 1) pa_nil)) (pg_name (i := 4) sc.nd rfl (Or.inl rfl))
      (pss_cons (ps_set (i := 5) sc.nd rfl (Or.inr rfl) (pe_op op_add pe_int (call_ C__law_draw (hr.mono (by decide)) (by rfl) (pa_cons (pv 0) (pa_cons (pv 2) pa_nil)))))
    (pss_one (ps_expr (pe_bm PySem.F.plainAttrs_list PySem.F.slot_list_append PySem.F.type_list_append mt_append (pv 3) (pa_cons
      (pe_op (op_catAK (K := K) rfl) (pe_op (op_catAK (K := K) rfl) (pe_callTy call_tuple_of (by rfl) m_tuple (by decide +kernel) (pa_cons (pe_lc (own := [("j", 6)]) (g := gName 6) (by rfl) sc.nd (pi_range1 rfl m_range (pa_cons (pv 4) pa_nil)) (blkOk_by (own := [("j", 6)]) (N := ["m", "size_so", "most", "rows", "i", "side", "j"]) (sc := defScope s_grid) (by decide +kernel)) (fun _ _ _ _ _ => pg_name (i := 6) sc.nd rfl (Or.inl rfl)) (fun _ _ _ _ _ => pts_nil) (fun _ _ _ _ _ => (call_ C__law_draw (hr.mono (by decide)) (by rfl) (pa_cons (pv 0) (pa_cons (pv 5) pa_nil))))) pa_nil)) (pe_tup (pa_cons (pv 5) pa_nil))) (pe_op (op_tmsK (K := K) rfl) (pe_tup (pa_cons pe_int pa_nil)) (pe_op op_sub (pe_op op_sub (pv 1) pe_int) (pv 4)))) pa_nil))))))
    (pss_one (ps_ret (pe_tup (pa_cons (pe_callTy call_tuple_of (by rfl) m_tuple (by decide +kernel) (pa_cons (pv 3) pa_nil)) (pa_cons (pe_callTy call_tuple_of (by rfl) m_tuple (by decide +kernel) (pa_cons (pe_lc (own := [("i", 4)]) (g := gName 4) (by rfl) sc.nd (pi_range1 rfl m_range (pa_cons (pv 1) pa_nil)) (blkOk_by (own := [("i", 4)]) (N := ["m", "size_so", "most", "rows", "i", "side", "j"]) (sc := defScope s_grid) (by decide +kernel)) (fun _ _ _ _ _ => pg_name (i := 4) sc.nd rfl (Or.inl rfl)) (fun _ _ _ _ _ => pts_nil) (fun _ _ _ _ _ => (call_ C__law_draw (hr.mono (by decide)) (by rfl) (pa_cons (pv 0) (pa_cons (pe_ix (ix_tupK (K := K) rfl) (pe_ix (ix_listK (K := K) rfl) (pv 3) (pv 4) (fun _ _ => rfl)) (pv 4) (fun _ _ => rfl)) pa_nil))))) pa_nil)) pa_nil))))))), ?_⟩
    refine ⟨by show 0 ≤ sizeLine; decide, fun R nR => ?_⟩
    obtain ⟨kvs, hmH⟩ := hM.m_some
    obtain ⟨ys, hcH⟩ := hM.c_some
    have rm : R ≠ m := Ne.symm (ne_of_none hmH nR)
    have rc : R ≠ c := Ne.symm (ne_of_none hcH nR)
    refine ⟨.int n, rfl, (n : Int), rfl, by omega, by omega, ?_⟩
    rw [Int.toNat_natCast]
    refine for_it (walk_range (lo := 0) (n := n)) (fun i σ H' => ∃ (ps : List Addr) (rows : List (List Int)), (∃ y4 y5 y6, σ = [some (.ref m), some (.int n), some (.int most), some (.ref R), y4, y5, y6]) ∧ SameBut m H H' ∧ MOk H' m c (q + 4 * i) ∧ H' R = some (.lst (ps.map V.ref)) ∧ ps.length = i ∧ rows.length = i ∧
      ∀ (j : Nat) (p : Addr) (r : List Int), ps[j]? = some p → rows[j]? = some r → Row H' p r ∧ RowOk n most j r) ⟨[], [], ⟨none, none, none, rfl⟩, SameBut.of (same_new nR), hM.put rm rc, upd_same, rfl, rfl, fun j p r e1 e2 => by cases e1⟩ (fun i σ H' _ p => True.intro) ?_ ?_
    · rintro i x σ H' H6 hi ⟨ps, rows, ⟨y4, y5, y6, rfl⟩, sb, M, gR, lp, lr, hrow⟩ ⟨rfl, rfl⟩
      have lim : ∀ z : Int, 0 ≤ z → z ≤ 1000 → z.natAbs < 2 ^ 200 := fun z h0 h1 => Nat.lt_of_le_of_lt (show z.natAbs ≤ 1000 by omega) (by decide)
      refine ⟨.ref m, rfl, .int most, rfl, m, c, q + 4 * i, most, rfl, M, by omega, by omega, lim _ (by omega) (by omega), fun H1 v b1 M1 v0 v1 => ⟨1, v, rfl, rfl, ?_⟩⟩
      refine ⟨.ref R, rfl, .inl ⟨rfl, _, SqL.of (b1 _ _ rm gR)⟩, .int (0 + i), rfl, (0 + i : Int), rfl, by omega, by omega, fun D nD => ?_⟩
      have e0 : (0 + (i : Int)).toNat = i := by omega
      rw [e0]
      refine lc_drawnB (n := i) (m := m) (c := c) (q := q + 4 * i + 1) (fun _ => 1 + v) (small (by omega)) M1 nD ?_ ?_
      · intro j H' Qy hj _ M' hQ
        exact ⟨rfl, .ref m, rfl, .int (1 + v), rfl, m, c, q + 4 * i + 1 + j, 1 + v, rfl, M', by omega, by omega, lim _ (by omega) (by omega), fun H4 v' b4 M4 u0 u1 => hQ H4 _ b4 M4 u0 u1⟩
      intro H2 xs b2 M2 d2 l2 bd
      refine ⟨D, _, rfl, .inl ⟨SqL.of d2, fun T nT => ?_⟩⟩
      have sT : Same H2 (upd H2 T (.tup (xs.map V.int))) := same_new nT
      have gT : Tp (upd H2 T (.tup (xs.map V.int))) T (xs.map V.int) := upd_same
      generalize upd H2 T (.tup (xs.map V.int)) = H7 at sT gT ⊢
      refine ⟨.int (1 + v), rfl, by show 1 ≤ sizeLine; decide, fun U nU => ?_⟩
      have sU : Same H7 (upd H7 U (.tup [.int (1 + v)])) := same_new nU
      have gU : Tp (upd H7 U (.tup [.int (1 + v)])) U [.int (1 + v)] := upd_same
      generalize upd H7 U (.tup [.int (1 + v)]) = H8 at sU gU ⊢
      refine cat_tp (gT.same sU) gU (by rw [List.length_map]; exact Nat.le_of_lt (small (by show xs.length + 1 ≤ 100; omega))) fun r3 H9 s9 t9 => ?_
      refine ⟨by show 1 ≤ sizeLine; decide, fun Z nZ => ?_⟩
      have sZ : Same H9 (upd H9 Z (.tup [.int 0])) := same_new nZ
      have gZ : Tp (upd H9 Z (.tup [.int 0])) Z [.int 0] := upd_same
      generalize upd H9 Z (.tup [.int 0]) = H10 at sZ gZ ⊢
      refine ⟨.int n, rfl, n, 1, rfl, rfl, .int (0 + i), rfl, (n : Int) - 1, 0 + i, rfl, rfl, ?_⟩
      refine tms_tp (k := n - 1 - i) (by omega) gZ (by simp) (by omega) (by decide) fun r4 H11 s11 t11 => ?_
      rw [show (List.replicate (n - 1 - i) [V.int 0]).flatten = (List.replicate (n - 1 - i) (0 : Int)).map V.int by simp] at t11
      refine cat_tp ((t9.same sZ).same s11) t11 (by
        rw [List.length_append, List.length_map, List.length_map, List.length_replicate]
        exact Nat.le_of_lt (small (by show xs.length + 1 + _ ≤ 100; omega))) fun r5 H12 s12 t12 => ?_
      have sS : Same H2 H12 := ((((sT.trans sU).trans s9).trans sZ).trans s11).trans s12
      have bS : SameBut m H6 H12 := (b1.trans b2).trans (SameBut.of sS)
      have gR12 := bS _ _ rm gR
      refine ⟨R, _, _, rfl, rfl, gR12, by rw [List.length_map, lp]; exact small (by omega), ?_⟩
      have nl : (xs ++ [1 + v] ++ List.replicate (n - 1 - i) 0).length ≤ 100 := by
        rw [(rowOk_of hi l2 v0 v1 bd).1]
        omega
      obtain ⟨kv6, hm6⟩ := M.m_some
      refine ⟨ps ++ [r5], rows ++ [xs ++ [1 + v] ++ List.replicate (n - 1 - i) 0], ⟨_, _, _, rfl⟩, sb_put nR (sb.trans bS), ((M2.same sS).put rm rc).mono (by omega), ?_, by rw [List.length_append, lp]; rfl, by rw [List.length_append, lr]; rfl, fun j a z h1 h2 => ?_⟩
      · rw [upd_same, List.map_append]
        rfl
      · by_cases hj : j < i
        · rw [List.getElem?_append_left (by omega)] at h1 h2
          obtain ⟨Ra, Oa⟩ := hrow j a z h1 h2
          have Rb := Ra.but hm6 bS
          exact ⟨⟨tp_put Rb.1 gR12, Rb.2⟩, Oa⟩
        · have j9 := (List.getElem?_eq_some_iff.mp h1).1
          rw [List.length_append, lp] at j9
          have j8 : j = i := by
            simp only [List.length_cons, List.length_nil] at j9
            omega
          subst j8
          rw [List.getElem?_append_right (by omega), lp, Nat.sub_self] at h1
          rw [List.getElem?_append_right (by omega), lr, Nat.sub_self] at h2
          obtain rfl := Option.some.inj h1
          obtain rfl := Option.some.inj h2
          refine ⟨⟨tp_put (?_ : Tp H12 r5 _) gR12, nl, row_small v0 (by omega) bd⟩, rowOk_of hi l2 v0 v1 bd⟩
          rw [List.map_append, List.map_append]
          exact t12
    · rintro σ H4 ⟨ps, rows, ⟨y4, y5, y6, rfl⟩, sb, M, gR, lp, lr, hrow⟩
      have lim : ∀ z : Int, 0 ≤ z → z ≤ 1000 → z.natAbs < 2 ^ 200 := fun z h0 h1 => Nat.lt_of_le_of_lt (show z.natAbs ≤ 1000 by omega) (by decide)
      refine ⟨.ref R, rfl, R, _, rfl, .inl ⟨SqL.of gR, fun T nT => ?_⟩⟩
      have sT : Same H4 (upd H4 T (.tup (ps.map V.ref))) := same_new nT
      have gT : Tp (upd H4 T (.tup (ps.map V.ref))) T (ps.map V.ref) := upd_same
      generalize upd H4 T (.tup (ps.map V.ref)) = H5 at sT gT ⊢
      have M5 := M.same sT
      obtain ⟨kv5, hm5⟩ := M5.m_some
      have hrow5 : ∀ (j : Nat), j < n → ∃ p, ps[j]? = some p ∧ Row H5 p (rows.getD j []) ∧ RowOk n most j (rows.getD j []) := fun j hj => by
        have e1 : ps[j]? = some ps[j] := List.getElem?_eq_getElem (by omega)
        have e2 : rows[j]? = some (rows.getD j []) := by
          rw [List.getD_eq_getElem?_getD, List.getElem?_eq_getElem (by omega : j < rows.length)]
          rfl
        obtain ⟨Ra, Oa⟩ := hrow j _ _ e1 e2
        exact ⟨_, e1, Ra.same sT, Oa⟩
      refine ⟨.int n, rfl, (n : Int), rfl, by omega, by omega, fun D nD => ?_⟩
      rw [Int.toNat_natCast]
      refine lc_drawnB (n := n) (m := m) (c := c) (q := q + 4 * n) (fun i => dg rows i) (small (by omega)) M5 nD ?_ ?_
      · intro j H' Qy hj sb' M' hQ
        obtain ⟨p, hp, Rp, Op⟩ := hrow5 j hj
        have ej : (0 + (j : Int)) = ((j : Nat) : Int) := by omega
        have hd : (rows.getD j [])[j]? = some (dg rows j) := getD_at (by rw [Op.1]; omega)
        have h1 : 1 ≤ dg rows j := Op.2.1
        have h2 : dg rows j ≤ most := Op.2.2.1
        exact ⟨rfl, .ref m, rfl, .ref R, rfl, .int (0 + j), rfl, R, _, 0 + j, .ref p, rfl, rfl, SqL.of (sb' _ _ rm (sT _ _ gR)), atI_at ej (get_map hp), .int (0 + j), rfl, p, _, 0 + j, .int (dg rows j), rfl, rfl, (Rp.but hm5 sb').1.t, atI_at ej (get_map hd), m, c, q + 4 * n + j, dg rows j, rfl, M', by omega, by omega, lim _ (by omega) (by omega), fun H4 v' b4 M4 u0 u1 => hQ H4 _ b4 M4 u0 u1⟩
      intro H2 xs b2 M2 d2 l2 bd
      refine ⟨D, _, rfl, .inl ⟨SqL.of d2, fun ts nts => ?_⟩⟩
      have sS : Same H2 (upd H2 ts (.tup (xs.map V.int))) := same_new nts
      have gS : Tp (upd H2 ts (.tup (xs.map V.int))) ts (xs.map V.int) := upd_same
      generalize upd H2 ts (.tup (xs.map V.int)) = H7 at sS gS ⊢
      refine ⟨by show 2 ≤ sizeLine; decide, fun g ng => ?_⟩
      have b7 : SameBut m H5 H7 := b2.trans (SameBut.of sS)
      have sG : Same H7 (upd H7 g (.tup [.ref T, .ref ts])) := same_new ng
      have bG : SameBut m H H7 := (sb.trans (SameBut.of sT)).trans b7
      have M7 := M2.same sS
      obtain ⟨kv7, hm7⟩ := M7.m_some
      have xl : ∀ i, i < n → 0 ≤ xs.getD i 0 ∧ xs.getD i 0 < dg rows i := fun i hi => bd i _ (getD_at (by omega))
      have xs_small : ∀ x ∈ xs, SmZ 300 x := fun x hx => by
        obtain ⟨j, hj⟩ := List.getElem?_of_mem hx
        have hj9 := (List.getElem?_eq_some_iff.mp hj).1
        have b9 := bd j x hj
        obtain ⟨p, hp, Rp, Op⟩ := hrow5 j (by omega)
        have h2 : dg rows j ≤ most := Op.2.2.1
        exact Nat.lt_of_le_of_lt (show x.natAbs ≤ 100 by omega) (by decide)
      refine k _ g rows xs (bG.trans (SameBut.of sG)) ((M7.same sG).mono (by omega)) (bG.free ⟨_, hm7⟩ ng) ⟨T, ts, ps, upd_same, ((gT.but hm5 b7).same sG), ⟨by omega, fun i p r h1 h2 => ?_⟩, ⟨gS.same sG, by omega, xs_small⟩, by omega⟩ ⟨lr, l2, fun i hi => ?_, xl⟩
      · obtain ⟨Ra, Oa⟩ := hrow i p r h1 h2
        exact ⟨((Ra.same sT).but hm5 b7).same sG, by rw [Oa.1]; omega⟩
      · obtain ⟨p, hp, Rp, Op⟩ := hrow5 i hi
        exact Op
end
end K15
namespace K15
open PySem PySem.Spec PyProof.Rows L2 Vk
def clsBody : Stmt → List Stmt
  | .ClassDef _ _ _ b .. => b
  | _ => []
abbrev s_init : Stmt := (clsBody (topS 3)).getD 0 (.Pass ⟨0, 0, 0, 0⟩)
theorem sc_init : FnScope ["self", "limit"] ["self", "limit"] (defScope s_init) := ⟨rfl, rfl, rfl, by decide +kernel, rfl, by decide +kernel, by decide +kernel⟩
def spInit (K : PySem.W.Frag) (C : Addr) : Sp := fun vs H Q _ => ∃ (a : Addr) (y : V), vs = [.ref a, y] ∧ H a = some (exo a C none) ∧ ∀ dx, H dx = none → dx ≠ a → Q .non (upd (upd H dx (exd dx [("limit", y)])) a (exo a C (some dx)))
def Told (C : Addr) (H : Hp) (k : Int) (E : XK) : Prop := ∀ dx H', Same H H' → H' dx = some (.xd [("limit", V.int k)]) → E (.ref C) (some dx) H'
/-- more cosets than are listed -/
def spMany (C : Addr) : Sp := fun vs H Q E => ∃ (g : Addr) (B : List (List Int)) (s : List Int), vs = [.ref g] ∧ Gr H g B s ∧ B.length ≤ 9 ∧ (∀ i, SmZ 300 (dg B i)) ∧ 10000 < sizeP B B.length - 1 ∧ Told C H 10000 E
section
variable {P : Program} {w : World} {K : PySem.W.Frag} {mg : Str → Option Value} {base : Heap}
theorem ok_init {f C : Addr} {fd : FuncData} (F : Fun K "__init__" "TooMany.__init__" s_init f fd) (T : OexC K C) (hno : PySem.W.findIn K (.ref C) "limit" = some none) : FnOk P w K mg base CX0 1 f fd ["self", "limit"] (spInit K C) := by
  have sc := sc_init
  refine F.ok sc (fun vs H Q E h => ?_) (fun cdv A outer s H vs Q E hr h => ?_)
  · obtain ⟨a, y, rfl, _⟩ := h
    rfl
  · obtain ⟨a, y, rfl, ha, q⟩ := h
    exact ⟨_, pss_one (ps_ost (pv 0) (pv 1)), y, rfl, .ref a, rfl, a, C, rfl, T, hno, .inl ⟨ha, fun dx n ne => q dx n ne⟩⟩
/-- what is known of the class -/
structure TmT (P : Program) (w : World) (K : PySem.W.Frag) (mg : Str → Option Value) (base : Heap) (C : Addr) : Prop where
  g : mg "TooMany" = some (.ref C)
  T : OexC K C
  i : ∃ fI fd, PySem.W.findIn K (.ref C) "__init__" = some (some (.ref fI)) ∧ PySem.W.typeIn K (.ref fI) = some (.type "function") ∧ FnOk P w K mg base CX0 1 fI fd ["self", "limit"] (spInit K C) ∧ Binds K fd ["self", "limit"] []
theorem made {C : Addr} {H : Hp} {y : V} {E : XK} (h : ∀ dx H', Same H H' → H' dx = some (.xd [("limit", y)]) → E (.ref C) (some dx) H') : ∀ a, H a = none → spInit K C (.ref a :: ([y] ++ [])) (upd H a (exo a C none))
    (fun v H2 => v = .non ∧ ∃ (d : Addr) (fs : List (Str × V)), H2 a = some (exo a C (some d)) ∧ H2 d = some (exd d fs) ∧ H d = none ∧ E (.ref C) (some d) (upd (del H2 a) d (.xd fs))) (fun _ _ _ => False) := by
  intro a na
  refine ⟨a, y, rfl, upd_same, fun dx nd ne => ⟨rfl, dx, [("limit", y)], upd_same, ?_, ?_, ?_⟩⟩
  · rw [upd_ne ne, upd_same]
  · rw [upd_ne ne] at nd
    exact nd
  · rw [upd_ne ne] at nd
    refine h dx _ (fun b o e => ?_) upd_same
    have hb : b ≠ a := ne_of_none e na
    have hd : b ≠ dx := ne_of_none e nd
    rw [upd_ne hd, del_ne hb, upd_ne hb, upd_ne hd, upd_ne hb]
    exact e
theorem ok_many {f C : Addr} {fd : FuncData} {tk : Nat} (F : Fun K "others" "others" s_others f fd) (N : TmT P w K mg base C) (C_size_of : Cal P w K mg base 1 "size_of" ["grid"] spSize) (g_MOST : mg "MOST_OTHERS" = some (.int 10000 tk)) : FnOk P w K mg base (L2.CX P w) 3 f fd ["grid"] (spMany C) := by
  have sc := sc_others
  obtain ⟨fI, fdI, iC, tI, FI, bI⟩ := N.i
  refine F.okX sc (fun vs H Q E h => ?_) (fun cdv A outer s H vs Q E hr h => ?_)
  · obtain ⟨g, B, s, rfl, _⟩ := h
    rfl
  · obtain ⟨g, B, st, rfl, hG, hB, zd, hz, hE⟩ := h
    have hG2 := hG
    obtain ⟨tb, ts, ps, h1, h2, hR, h4, h5⟩ := hG2
    refine ⟨_, (pss_cons (ps_asg (pv 0) (pg_tup (n := 2) (by rfl) (pgs_cons (pg_name (i := 2) sc.nd rfl (Or.inr rfl)) (pgs_cons (pg_name (i := 3) sc.nd rfl (Or.inr rfl)) pgs_nil))))
    (pss_cons (ps_if (pt_cmpR op_gt (pe_op op_sub (call_ C_size_of (hr.mono (by decide)) (by rfl) (pa_cons (pv 0) pa_nil)) pe_int) (pe_glob (v := .int 10000) rfl g_MOST ⟨_, rfl⟩) (nomark _))
      (pss_one (ps_raise rfl (takes_of rfl rfl rfl rfl) (pmk_oex (dvs := []) N.T iC tI FI (hr.mono (by decide)) bI .nil pass0 rfl N.g (pa_cons (pe_glob (v := .int 10000) rfl g_MOST ⟨_, rfl⟩) pa_nil))))
      pss_nil)
    (pss_cons ps_never (pss_cons ps_never (pss_one ps_never))))), ?_⟩
    refine ⟨.ref g, rfl, g, _, rfl, h1.t, rfl, .ref tb, [.ref ts], rfl, .ref ts, [], rfl, rfl, ?_⟩
    refine ⟨.ref g, rfl, g, B, st, rfl, hG, hB, zd, fun H1 s1 => ⟨_, 1, rfl, rfl, _, _, rfl, rfl, _, rfl, ite2 (fun e => ?_) (fun e => ?_)⟩⟩
    · exact ⟨by show 1 ≤ 1000; decide, made fun dx H' s' hd => hE dx H' (s1.trans s') hd⟩
    · exact absurd (decide_eq_true hz) e
end
end K15
namespace K15
open PySem PySem.Spec PyProof.Rows L2 Vk
theorem placeI_congr {B : List (List Int)} {s s' t : List Int} : ∀ i, (∀ j, j < i → s.getD j 0 = s'.getD j 0) → placeI B s t i = placeI B s' t i
  | 0, _ => rfl
  | i + 1, h => by
    have e := placeI_congr (B := B) (t := t) i fun j hj => h j (by omega)
    show (placeI B s t i).bind _ = (placeI B s' t i).bind _
    rw [e, h i (Nat.lt_succ_self i)]
theorem count_one (d r : Nat) : (List.range d).countP (fun x => x == r) = if r < d then 1 else 0 := by
  induction d with
  | zero => rfl
  | succ d ih =>
    rw [List.range_succ, List.countP_append, ih, List.countP_singleton]
    have e : (if (d == r) = true then 1 else 0) = if d = r then 1 else 0 := by simp
    rw [e]
    split <;> split <;> split <;> omega
theorem count_rem (d : Nat) (c : Int) (hd : 0 < d) : (List.range d).countP (fun (x : Nat) => decide ((c - ((x : Nat) : Int)).fmod (d : Int) = 0)) = 1 := by
  have hr : ∃ r : Nat, r < d ∧ ∀ x : Nat, x < d → ((c - ((x : Nat) : Int)).fmod (d : Int) = 0 ↔ x = r) := by
    have h0 := Int.emod_nonneg c (by omega : (d : Int) ≠ 0)
    have h1 := Int.emod_lt_of_pos c (by omega : (0 : Int) < d)
    refine ⟨(c % (d : Int)).toNat, by omega, fun x hx => ?_⟩
    rw [Int.fmod_eq_emod_of_nonneg _ (by omega)]
    constructor
    · intro e
      have e2 : (c - (x : Int)) % d = 0 := e
      have e3 := Int.emod_emod_of_dvd c (Int.dvd_refl (d : Int))
      have e4 : c % (d : Int) = (x : Int) % d := Int.emod_eq_emod_iff_emod_sub_eq_zero.mpr e2
      rw [Int.emod_eq_of_lt (a := (x : Int)) (by omega) (by omega)] at e4
      omega
    · intro e
      subst e
      rw [Int.toNat_of_nonneg h0]
      exact Int.emod_eq_emod_iff_emod_sub_eq_zero.mp (Int.emod_emod_of_dvd c (Int.dvd_refl _)).symm
  obtain ⟨r, hr, h⟩ := hr
  have e : (List.range d).countP (fun (x : Nat) => decide ((c - ((x : Nat) : Int)).fmod (d : Int) = 0)) = (List.range d).countP (fun x => x == r) := by
    refine List.countP_congr fun x hx => ?_
    have hx := List.mem_range.mp hx
    simp only [decide_eq_true_eq, beq_iff_eq]
    exact h x hx
  rw [e]
  rw [count_one d r, if_pos hr]
theorem sum_ite {α : Type} (p : α → Bool) (f : α → Nat) : ∀ l : List α, (∀ a ∈ l, f a = if p a = true then 1 else 0) → (l.map f).sum = l.countP p
  | [], _ => rfl
  | a :: l, h => by
    rw [List.map_cons, List.sum_cons, h a (List.mem_cons_self ..), sum_ite p f l fun b hb => h b (List.mem_cons_of_mem _ hb), List.countP_cons]
    omega
/-- just one start has a place for t -/
theorem one_place (B : List (List Int)) (t : List Int) : ∀ i, (∀ j, j < i → 0 < dg B j) → (startsI B i).countP (fun s => (placeI B s t i).isSome) = 1
  | 0, _ => rfl
  | i + 1, h => by
    have ih := one_place B t i fun j hj => h j (by omega)
    show ((startsI B i).flatMap _).countP _ = 1
    rw [List.countP_flatMap]
    refine Eq.trans (sum_ite _ _ _ fun s hs => ?_) ih
    have ls := startsI_len B i s hs
    have hd := h i (Nat.lt_succ_self i)
    obtain ⟨d, hdd⟩ : ∃ d : Nat, dg B i = d := ⟨(dg B i).toNat, by omega⟩
    show List.countP _ (List.map _ _) = _
    rw [List.countP_map, hdd, Int.toNat_natCast]
    have step : ∀ x : Nat, placeI B (s ++ [((x : Nat) : Int)]) t (i + 1) = (placeI B s t i).bind fun y => if ((t.getD i 0 - dot (B.getD i []) y) - ((x : Nat) : Int)).fmod (d : Int) = 0 then some (y ++ [(t.getD i 0 - ((x : Nat) : Int) - dot (B.getD i []) y).fdiv (d : Int)]) else none := fun x => by
      show (placeI B (s ++ [((x : Nat) : Int)]) t i).bind _ = _
      rw [placeI_congr (s' := s) i fun j hj => by
        rw [List.getD_eq_getElem?_getD, List.getD_eq_getElem?_getD, List.getElem?_append_left (by omega)]]
      have gx : (s ++ [((x : Nat) : Int)]).getD i 0 = ((x : Nat) : Int) := by
        rw [List.getD_eq_getElem?_getD, List.getElem?_append_right (by omega), ls, Nat.sub_self]
        rfl
      rw [gx, hdd]
      refine congrArg _ (funext fun y => ?_)
      rw [show t.getD i 0 - ((x : Nat) : Int) - dot (B.getD i []) y = t.getD i 0 - dot (B.getD i []) y - ((x : Nat) : Int) by omega]
    cases hp : placeI B s t i with
    | none =>
      rw [if_neg (by simp)]
      rw [List.countP_eq_zero]
      intro x hx
      show ¬ (placeI B (s ++ [((x : Nat) : Int)]) t (i + 1)).isSome = true
      rw [step x, hp]
      simp
    | some y =>
      rw [if_pos (by rfl)]
      refine Eq.trans (List.countP_congr fun x hx => ?_) (count_rem d (t.getD i 0 - dot (B.getD i []) y) (by omega))
      show (placeI B (s ++ [((x : Nat) : Int)]) t (i + 1)).isSome = true ↔ _
      rw [step x, hp]
      show (if _ then _ else none : Option _).isSome = true ↔ _
      rw [decide_eq_true_iff]
      split <;> simp_all
end K15
namespace K15
open PySem PySem.Spec PyProof.Rows L2 Vk
theorem starts_succ (B : List (List Int)) (i : Nat) : (startsI B (i + 1)).length = (startsI B i).length * (dg B i).toNat := by
  have e : startsI B (i + 1) = midS (startsI B i) (dg B i).toNat (startsI B i).length 0 := by
    rw [midS_end]
    rfl
  rw [e, midS_len, Nat.min_self, Nat.add_zero]
theorem starts_size (B : List (List Int)) : ∀ i, (∀ j, j < i → 0 < dg B j) → ((startsI B i).length : Int) = sizeP B i
  | 0, _ => rfl
  | i + 1, h => by
    have ih := starts_size B i fun j hj => h j (by omega)
    have hd := h i (Nat.lt_succ_self i)
    show _ = sizeP B i * dg B i
    rw [starts_succ, ← ih, Int.natCast_mul, Int.toNat_of_nonneg (by omega)]
theorem starts_le (B : List (List Int)) (most : Nat) : ∀ i, (∀ j, j < i → dg B j ≤ most) → (startsI B i).length ≤ most ^ i
  | 0, _ => Nat.le_refl _
  | i + 1, h => by
    have ih := starts_le B most i fun j hj => h j (by omega)
    have hd := h i (Nat.lt_succ_self i)
    rw [starts_succ, Nat.pow_succ]
    exact Nat.mul_le_mul ih (by omega)
/-- the start of a grid is one of the starts -/
theorem mem_starts (B : List (List Int)) (s : List Int) : ∀ i, i ≤ s.length → (∀ j, j < i → 0 ≤ s.getD j 0 ∧ s.getD j 0 < dg B j) → s.take i ∈ startsI B i
  | 0, _, _ => List.mem_singleton.mpr rfl
  | i + 1, hl, h => by
    have ih := mem_starts B s i (by omega) fun j hj => h j (by omega)
    have hd := h i (Nat.lt_succ_self i)
    show _ ∈ (startsI B i).flatMap _
    refine List.mem_flatMap.mpr ⟨_, ih, List.mem_map.mpr ⟨(s.getD i 0).toNat, List.mem_range.mpr (by omega), ?_⟩⟩
    have e : s[i]? = some (s.getD i 0) := getD_at (by omega)
    rw [List.take_add_one, e, Int.toNat_of_nonneg hd.1]
    rfl
/-- no start comes twice -/
theorem nodup_starts (B : List (List Int)) : ∀ i, (startsI B i).Nodup
  | 0 => by
    show [[]].Nodup
    simp
  | i + 1 => by
    have ih := nodup_starts B i
    show ((startsI B i).flatMap _).Nodup
    rw [List.flatMap_def]
    refine List.pairwise_flatten.mpr ⟨fun l hl => ?_, ?_⟩
    · obtain ⟨s, _, rfl⟩ := List.mem_map.mp hl
      rw [List.pairwise_map]
      refine List.Pairwise.imp (fun {x y} ne e => ne ?_) List.nodup_range
      have e2 := List.append_cancel_left e
      have e3 : ((x : Nat) : Int) = (y : Nat) := (List.cons.inj e2).1
      omega
    · rw [List.pairwise_map]
      refine List.Pairwise.imp_of_mem (fun {a b} ha hb ne => ?_) ih
      intro z hz z2 hz2 e0
      obtain ⟨x, _, rfl⟩ := List.mem_map.mp hz
      obtain ⟨y, _, rfl⟩ := List.mem_map.mp hz2
      have l1 := startsI_len B i a ha
      have l2 := startsI_len B i b hb
      exact ne (List.append_inj_left e0 (by omega))
/-- of the grid's own start and all the others just one has a place -/
theorem one_lot (p : List Int → Bool) (s : List Int) (ss : List (List Int)) (hs : s ∈ ss) (nd : ss.Nodup) (h : ss.countP p = 1) : (s :: ss.filter fun z => decide (z ≠ s)).countP p = 1 := by
  rw [← h]
  refine List.Perm.countP_eq p ?_
  have e : (ss.filter fun z => decide (z ≠ s)) = ss.erase s := by
    rw [nd.erase_eq_filter]
    refine List.filter_congr fun z _ => ?_
    by_cases hz : z = s <;> simp [hz]
  rw [e]
  exact (List.perm_cons_erase hs).symm
end K15
namespace K15
open PySem PySem.Spec PyProof.Rows L2 Vk
abbrev s_signed : Stmt := topS 13
theorem sc_signed : FnScope ["m", "most", "number"] ["m", "most"] (defScope s_signed) := ⟨rfl, rfl, rfl, by decide +kernel, rfl, by decide +kernel, by decide +kernel⟩
def spSigned : Sp := fun vs H Q _ => ∃ (m c : Addr) (q : Nat) (b : Int), vs = [.ref m, .int b] ∧ MOk H m c q ∧ q ≤ 50000 ∧ 0 ≤ b ∧ b ≤ 1000 ∧ ∀ H' v, SameBut m H H' → MOk H' m c (q + 2) → -b ≤ v → v ≤ b → Q (.int v) H'
section
variable {P : Program} {w : World} {K : PySem.W.Frag} {mg : Str → Option Value} {base : Heap}
theorem ok_signed {f : Addr} {fd : FuncData} (F : Fun K "_law_signed" "_law_signed" s_signed f fd) (C__law_draw : Cal P w K mg base 1 "_law_draw" ["m", "bound"] spDraw) : FnOk P w K mg base CX0 2 f fd ["m", "most"] spSigned := by
  have sc := sc_signed
  refine F.ok sc (fun vs H Q E h => ?_) (fun cdv A outer s H vs Q E hr h => ?_)
  · obtain ⟨m, c, q, b, rfl, _⟩ := h
    rfl
  · obtain ⟨m, c, q, b, rfl, hM, hq, b0, b1, k⟩ := h
    refine ⟨_, (pss_cons (ps_set (i := 2) sc.nd rfl (Or.inl rfl) (call_ C__law_draw (hr.mono (by decide)) (by rfl) (pa_cons (pv 0) (pa_cons (pe_op op_add (pv 1) pe_int) pa_nil))))
    (pss_one (ps_ret (pe_ifExp (pt_cmpR op_eq (call_ C__law_draw (hr.mono (by decide)) (by rfl) (pa_cons (pv 0) (pa_cons pe_int pa_nil))) pe_int (nomark _)) (pv 2) (pe_un un_neg (pv 2)))))), ?_⟩
    have lim : ∀ z : Int, 0 ≤ z → z ≤ 10000 → z.natAbs < 2 ^ 200 := fun z h0 h1 => Nat.lt_of_le_of_lt (show z.natAbs ≤ 10000 by omega) (by decide)
    refine ⟨.ref m, rfl, .int b, rfl, b, 1, rfl, rfl, m, c, q, b + 1, rfl, hM, by omega, by omega, lim _ (by omega) (by omega), fun H1 v s1 M1 v0 v1 => ?_⟩
    refine ⟨.ref m, rfl, m, c, q + 1, 2, rfl, M1, by omega, by decide, by decide, fun H2 u s2 M2 u0 u1 => ?_⟩
    have s12 := s1.trans s2
    have M3 := M2.mono (show q + 1 + 1 ≤ q + 2 by omega)
    refine ⟨rfl, _, rfl, ite2 (fun _ => ?_) (fun _ => ?_)⟩
    · exact ⟨_, rfl, k H2 _ s12 M3 (by omega) (by omega)⟩
    · exact ⟨_, rfl, v, rfl, k H2 _ s12 M3 (by omega) (by omega)⟩
end
end K15
namespace K15
open PySem PySem.Spec PyProof.Rows L2 Vk
abbrev s_like : Stmt := topS 12
theorem sc_like : FnScope ["got", "due"] ["got", "due"] (defScope s_like) := ⟨rfl, rfl, rfl, by decide +kernel, rfl, by decide +kernel, by decide +kernel⟩
/-- two values of the same data -/
def spLike (K : PySem.W.Frag) : Sp := fun vs H Q _ => ∃ x y d, vs = [x, y] ∧ Dp K H x d ∧ Dp K H y d ∧ Fit d ∧ Q (.bl true) H
section
variable {P : Program} {w : World} {K : PySem.W.Frag} {mg : Str → Option Value} {base : Heap}
theorem ok_like {f : Addr} {fd : FuncData} (F : Fun K "_law_like" "_law_like" s_like f fd) (m_repr : mg "repr" = none) : FnG P w K mg base 1 f fd ["got", "due"] (spLike K) := by
  have sc := sc_like
  refine okG F sc (fun vs H Q E h => ?_) (fun cdv A outer s H vs Q E hG hr h => ?_)
  · obtain ⟨x, y, d, rfl, _⟩ := h
    rfl
  · obtain ⟨x, y, d, rfl, h1, h2, hf, q⟩ := h
    have hG' : Quiet (cxOf CX0 P w K mg base ["got", "due"] "_law_like" (defScope s_like) f cdv A outer s H E).nox.A := hG.deeper _
    refine ⟨_, (pss_one (ps_ret (pe_cmpR op_eq (pe_callB (call_rep hG' hr.units) (by rfl) m_repr (by decide +kernel) (pa_cons (pv 0) pa_nil)) (pe_callB (call_rep hG' hr.units) (by rfl) m_repr (by decide +kernel) (pa_cons (pv 1) pa_nil)) (nomark _)))), ?_⟩
    refine ⟨x, rfl, x, d, rfl, h1, hf.s, hf.h, hf.dp, hf.len (Nat.le_refl _), y, rfl, y, d, rfl, h2, hf.s, hf.h, hf.dp, hf.len (Nat.le_refl _), rfl, ?_⟩
    rw [decide_eq_true rfl]
    exact q
end
end K15
namespace K15
open PySem PySem.Spec PyProof.Rows L2 Vk
abbrev s_heard : Stmt := topS 20
theorem sc_heard : FnScope ["call", "found", "error", "e"] ["call"] (defScope s_heard) := ⟨rfl, rfl, rfl, by decide +kernel, rfl, by decide +kernel, by decide +kernel⟩
/-- what is known of the classes -/
structure Exs (K : PySem.W.Frag) (mg : Str → Option Value) (CT CM CN : Addr) : Prop where
  gT : mg "TallyError" = some (.ref CT)
  gM : mg "TooMany" = some (.ref CM)
  gN : mg "NotFit" = some (.ref CN)
  C : ExcC K CM
  xf : XfC K CM
  no : PySem.W.findIn K (.ref CM) "limit" = some none
  e : PySem.W.exmOne K (.ref CM) (.ref CT) = some true
  kM : PySem.W.kitOne K (.ref CM) (.ref CM) = some true
  kN : PySem.W.kitOne K (.ref CM) (.ref CN) = some false
/-- heard: the value alone in a new list, or the number of the refusal -/
def THeard (CM : Addr) : (XK → Hp → VK → Prop) → Hp → VK → Prop := fun tl H Q => ∀ (H1 : Hp) (Q' : VK), Same H H1 → (∀ v H', (∀ p, H' p = none → Q (.ref p) (upd H' p (.lst [v]))) → Q' v H') →
  tl (fun cls d H' => cls = .ref CM ∧ ∃ (dx : Addr) (k : Int), d = some dx ∧ H' dx = some (.xd [("limit", V.int k)]) ∧ ∀ a, H' a = none → Q (.int k) (upd H' a (ExK (.ref CM) (some dx) a))) H1 Q'
theorem heard_gives {X : Cx} {g CT CM CN : Addr} {cdg : Value} {q : Str} (T : Exs X.K X.mg CT CM CN) (m_isinstance : X.mg "isinstance" = none) :
    LamX.GivesTo X ["call", "found", "error", "e"] "_law_heard" (defScope s_heard) g cdg (defBody s_heard) "call" q (THeard CM) := by
  have sc := sc_heard
  intro f c' s H Q tl act hc h
  refine ⟨_, (pss_cons (ps_asg (pe_tup (pa_cons pe_non (pa_cons pe_non pa_nil))) (pg_tup (by rfl) (pgs_cons (pg_name (i := 1) sc.nd rfl (Or.inl rfl)) (pgs_cons (pg_name (i := 2) sc.nd rfl (Or.inl rfl)) pgs_nil))))
    (pss_cons (ps_try_keep (i := 3) (c := .ref CT)
      (tb := fun W D σ H => ∃ Ech : XK, (∀ cls d σ' H', Ech cls d H' → W cls d σ' H') ∧ σ[0]? = some (some (.ref f)) ∧ H c' = some (LamX.CodeO c' q) ∧ tl Ech H (fun v H' => D.nx (σ.set 1 (some v)) H'))
      (ts := fun _ _ _ => tAsg (tVar 3) (gName 2))
      rfl rfl rfl sc.nd rfl rfl ⟨rfl, by decide, .inl T.gT⟩
      (fun W pn xe tk _ => ⟨fun pins s' σ H' D I h' => by
        obtain ⟨Ech, hW, h1, h2, h3⟩ := h'
        exact (pss_one (ps_set (i := 1) sc.nd rfl (Or.inl rfl) (act W pn xe Ech _ _ tk hW))).run pins s' σ H' D I ⟨h1, h2, h3⟩⟩)
      (fun a oe cls d pn _ _ => pss_one (ps_set (i := 2) sc.nd rfl (Or.inl rfl) (pv 3))))
    (pss_cons (ps_if (pt_cmpR op_isN (pv 2) pe_non (nomark _))
      (pss_one (ps_ret (pe_lst (pa_cons (pv 1) pa_nil))))
      pss_nil)
    (pss_one (ps_ret (pe_ifExp (PW.pt (pw_and (pt_val (pe_callB (call_isF T.C) (by rfl) m_isinstance (by decide +kernel) (pa_cons (pv 2) (pa_cons (pe_glob (v := .ref CM) rfl T.gM rfl) pa_nil)))) (pw_and1 (pt_not (pt_val (pe_callB (call_isF T.C) (by rfl) m_isinstance (by decide +kernel) (pa_cons (pv 2) (pa_cons (pe_glob (v := .ref CN) rfl T.gN rfl) pa_nil)))))))) (pe_kf T.xf T.no (pv 2)) pe_str)))))), ?_⟩
  refine ⟨by show 2 ≤ sizeLine; decide, fun p0 np0 => ⟨p0, [.non, .non], rfl, SqT.of upd_same, rfl, .non, [.non], rfl, .non, [], rfl, rfl, ?_⟩⟩
  have s0 : Same H (upd H p0 (.tup [.non, .non])) := same_new np0
  refine ⟨fun cls d H' => cls = .ref CM ∧ ∃ (dx : Addr) (k : Int), d = some dx ∧ H' dx = some (.xd [("limit", V.int k)]) ∧ ∀ a, H' a = none → Q (.int k) (upd H' a (ExK (.ref CM) (some dx) a)), ?_, rfl, s0 _ _ hc, ?_⟩
  · -- refused
    rintro _ _ σ' H' ⟨rfl, dx, k, rfl, hd, q1⟩
    refine ⟨T.e, fun hl a na => ⟨.ref a, ?_, ?_⟩⟩
    · rw [List.getElem?_set_self (by rw [hl]; exact (by decide : 3 < 4))]
    have q2 := q1 a na
    have hσ : ((((σ'.set 3 (some (V.ref a))).set 2 (some (V.ref a))).set 3 none)[2]? : Option (Option V)) = some (some (.ref a)) := by
      rw [List.getElem?_set_ne (by decide), List.getElem?_set_self (by rw [List.length_set, hl]; exact (by decide : 2 < 4))]
    have hda : dx ≠ a := ne_of_none hd na
    have KX : KxF (upd H' a (ExK (.ref CM) (some dx) a)) a CM [("limit", V.int k)] := ⟨dx, upd_same, by rw [upd_ne hda]; exact hd⟩
    refine ⟨.ref a, hσ, rfl, _, rfl, ?_⟩
    rw [decide_eq_false (show ¬ V.ref a = V.non from fun z => by cases z)]
    refine iteF ⟨.ref a, hσ, a, _, .ref CM, _, true, rfl, KX, .own _, T.kM, _, rfl, iteT ?_⟩
    refine ⟨.ref a, hσ, a, _, .ref CN, _, false, rfl, KX, .own _, T.kN, _, rfl, ?_⟩
    exact iteT ⟨.ref a, hσ, a, _, .int k, rfl, KX, rfl, q2⟩
  · -- told
    refine h _ _ s0 fun v H' q1 => ?_
    refine ⟨.non, rfl, rfl, _, rfl, iteT ⟨v, rfl, by show 1 ≤ sizeLine; decide, fun p np => q1 p np⟩⟩
/-- the def that hears -/
def HeardF (K : PySem.W.Frag) (mg : Str → Option Value) (g : Addr) : Prop := mg "_law_heard" = some (.ref g) ∧ PySem.W.keepIn K (.ref g) = true ∧
  ∃ (oc kV doc pm cdv ct : Value) (od an : Option Addr) (osl : Array (Option Value)), K.lookup g = some ⟨oc, od, .func (PySem.W.fnOf "_law_heard" "_law_heard" (defArgs s_heard) (defBody s_heard) (defScope s_heard) .none kV doc pm an cdv ct), osl⟩ ∧
    PySem.W.codeIn K cdv "_law_heard" = true ∧ Binds K (PySem.W.fnOf "_law_heard" "_law_heard" (defArgs s_heard) (defBody s_heard) (defScope s_heard) .none kV doc pm an cdv ct) ["call"] []
/-- the def that may refuse, by its name -/
def CalX (P : Program) (w : World) (K : PySem.W.Frag) (mg : Str → Option Value) (base : Heap) (k : Nat) (x : Str) (ps : List Str) (sp : Sp) : Prop :=
  ∃ f fd, FnOk P w K mg base (L2.CX P w) k f fd ps sp ∧ mg x = some (.ref f) ∧ PySem.W.keepIn K (.ref f) = true ∧ Binds K fd ps []
/-- the reading of a call of the def that hears: refused -/
theorem heard_read {T : List (Addr × Str)} {CM : Addr} {t : XK → TE} {σ : L2.St} {H : Hp} {Q : VK} (k : Int) (hT : LamX.Tabs T H) (Good : Hp → Prop) (hQ : ∀ H', Good H' → Q (.int k) H')
    (hb : ∀ (H1 : Hp) (E' : XK) (Q' : VK), LamX.ExtN H H1 → LamX.Tabs T H1 → (∀ dx H', H' dx = some (.xd [("limit", V.int k)]) → (∀ e, H' e = none → Good (upd H' e (ExK (.ref CM) (some dx) e))) → E' (.ref CM) (some dx) H') → t E' σ H1 Q') : LamX.tLam T (THeard CM) t σ H Q :=
  ⟨hT, fun H1 e1 T1 H2 Q' s2 hq => hb H2 _ Q' (e1.trans (LamX.ExtN.of s2)) (T1.ext s2) (fun dx H' hd g => ⟨rfl, dx, k, rfl, hd, fun a na => hQ _ (g a na)⟩)⟩
end K15
namespace K15
open PySem PySem.Spec PyProof.Rows L2 Vk
theorem iteF' {c : Bool} {A B : Prop} (hc : c = false) (h : B) : if c = true then A else B := by
  subst hc
  exact iteF h
/-- each entry of a start is from 0 on and below the diagonal -/
theorem starts_bd (B : List (List Int)) : ∀ i, ∀ z ∈ startsI B i, ∀ (j : Nat) (x : Int), z[j]? = some x → 0 ≤ x ∧ x < dg B j
  | 0, z, h, j, x, e => by
    obtain rfl := List.mem_singleton.mp h
    cases e
  | i + 1, z, h, j, x, e => by
    obtain ⟨y, hy, h2⟩ := List.mem_flatMap.mp h
    obtain ⟨v, hv, rfl⟩ := List.mem_map.mp h2
    have ly := startsI_len B i y hy
    have hv := List.mem_range.mp hv
    by_cases hj : j < y.length
    · rw [List.getElem?_append_left hj] at e
      exact starts_bd B i y hy j x e
    · have j9 := (List.getElem?_eq_some_iff.mp e).1
      have j8 : j = y.length := by
        rw [List.length_append] at j9
        simp only [List.length_cons, List.length_nil] at j9
        omega
      subst j8
      rw [List.getElem?_append_right (Nat.le_refl _), Nat.sub_self] at e
      obtain rfl := Option.some.inj e
      rw [ly]
      omega
theorem dot_abs (A M : Nat) : ∀ (xs ys : List Int), (∀ x ∈ xs, x.natAbs ≤ A) → (∀ y ∈ ys, y.natAbs ≤ M) → (dot xs ys).natAbs ≤ ys.length * (A * M)
  | [], _, _, _ => by
    show (0 : Int).natAbs ≤ _
    exact Nat.zero_le _
  | x :: xs, [], _, _ => by
    show (0 : Int).natAbs ≤ _
    exact Nat.zero_le _
  | x :: xs, y :: ys, hx, hy => by
    have ih := dot_abs A M xs ys (fun a h => hx a (List.mem_cons_of_mem _ h)) (fun a h => hy a (List.mem_cons_of_mem _ h))
    have e : dot (x :: xs) (y :: ys) = x * y + dot xs ys := by
      unfold dot
      rw [List.zipWith_cons_cons, List.sum_cons]
    rw [e, List.length_cons, Nat.succ_mul]
    have h1 : (x * y).natAbs ≤ A * M := by
      rw [Int.natAbs_mul]
      exact Nat.mul_le_mul (hx x (List.mem_cons_self ..)) (hy y (List.mem_cons_self ..))
    have h2 := Int.natAbs_add_le (x * y) (dot xs ys)
    omega
theorem fdiv_abs {a d : Int} (hd : 0 < d) : (a.fdiv d).natAbs ≤ a.natAbs := by
  rw [Int.fdiv_eq_ediv_of_nonneg _ (Int.le_of_lt hd)]
  exact Int.natAbs_ediv_le_natAbs a d
/-- the entries of a place are small -/
theorem place_small {n : Nat} {most : Int} {B : List (List Int)} {r t : List Int} (hB : ∀ i, i < n → RowOk n most i (B.getD i [])) (hm : most ≤ 100) (hn : n ≤ 4) (hr : ∀ (j : Nat) (x : Int), r[j]? = some x → 0 ≤ x ∧ x < dg B j) (lr : r.length = n) (ht : ∀ x ∈ t, x.natAbs ≤ 40) :
    ∀ i y, i ≤ n → placeI B r t i = some y → ∀ x ∈ y, x.natAbs ≤ 2 ^ (8 + 9 * i)
  | 0, y, _, e, x, hx => by
    cases e
    cases hx
  | i + 1, y, hi, e, x, hx => by
    unfold placeI at e
    cases hp : placeI B r t i with
    | none =>
      rw [hp] at e
      cases e
    | some z =>
      rw [hp] at e
      have ih := place_small hB hm hn hr lr ht i z (by omega) hp
      have lz := placeI_len i z hp
      have e : (if (t.getD i 0 - r.getD i 0 - dot (B.getD i []) z).fmod (dg B i) = 0 then some (z ++ [(t.getD i 0 - r.getD i 0 - dot (B.getD i []) z).fdiv (dg B i)]) else none) = some y := e
      obtain ⟨q1, q2, q3, q4, q5⟩ := hB i (by omega)
      have hdi : 1 ≤ dg B i ∧ dg B i ≤ most := ⟨q2, q3⟩
      have ent : ∀ x ∈ B.getD i [], x.natAbs ≤ 100 := fun x hx => by
        obtain ⟨j, hj⟩ := List.getElem?_of_mem hx
        have g : (B.getD i []).getD j 0 = x := by
          rw [List.getD_eq_getElem?_getD, hj]
          rfl
        rcases Nat.lt_trichotomy j i with h | h | h
        · have := q4 j h
          omega
        · subst h
          omega
        · have := q5 j h
          omega
      have hd := dot_abs 100 (2 ^ (8 + 9 * i)) (B.getD i []) z ent ih
      have ha : (t.getD i 0).natAbs ≤ 40 := by
        rw [List.getD_eq_getElem?_getD]
        cases h : t[i]? with
        | none => decide
        | some v => exact ht v (List.mem_of_getElem? h)
      have hb : (r.getD i 0).natAbs ≤ 100 := by
        rw [List.getD_eq_getElem?_getD]
        cases h : r[i]? with
        | none => decide
        | some v =>
          have := hr i v h
          show v.natAbs ≤ 100
          omega
      have pw : 2 ^ (8 + 9 * (i + 1)) = 512 * 2 ^ (8 + 9 * i) := by
        rw [show 8 + 9 * (i + 1) = (8 + 9 * i) + 9 by omega, Nat.pow_add]
        omega
      have p0 : 256 ≤ 2 ^ (8 + 9 * i) := Nat.pow_le_pow_right (n := 2) (i := 8) (by decide) (by omega)
      split at e
      · cases e
        rcases List.mem_append.mp hx with h | h
        · have := ih x h
          omega
        · rw [List.mem_singleton] at h
          subst h
          refine Nat.le_trans (fdiv_abs (by omega)) ?_
          have h4 : z.length * (100 * 2 ^ (8 + 9 * i)) ≤ 4 * (100 * 2 ^ (8 + 9 * i)) := Nat.mul_le_mul_right _ (by omega)
          omega
      · cases e
theorem fit_all {k a : Nat} : ∀ (L : Nat) (ds : List PyData), (∀ d ∈ ds, FitN k a d) → ds.length ≤ L → FitLN k ((a + 1) * L) ds
  | _, [], _, _ => .nil
  | 0, d :: ds, _, h => by cases h
  | L + 1, d :: ds, hd, h => by
    refine .cons (hd d (List.mem_cons_self ..)) (fit_all L ds (fun x hx => hd x (List.mem_cons_of_mem _ hx)) (by rw [List.length_cons] at h; omega)) ?_
    rw [Nat.mul_succ]
    omega
theorem fit_ints {k : Nat} (L : Nat) (xs : List Int) (h : ∀ x ∈ xs, SmZ 300 x) (hl : xs.length ≤ L) : FitN (k + 1) L (.tuple (xs.map PyData.int)) := by
  have q := fit_all (k := k) (a := 0) L (xs.map PyData.int) (fun d hd => by
    obtain ⟨x, hx, rfl⟩ := List.mem_map.mp hd
    exact FitN.int (Nat.lt_of_lt_of_le (h x hx) (Nat.pow_le_pow_right (by decide) (by decide)))) (by rw [List.length_map]; exact hl)
  rw [Nat.zero_add, Nat.one_mul] at q
  exact .tup q
/-- the data of a row, of a table, of a grid -/
def dRow (r : List Int) : PyData := .tuple (r.map PyData.int)
def dGrid (B : List (List Int)) (r : List Int) : PyData := .tuple [.tuple (B.map dRow), dRow r]
theorem dp_row {K : PySem.W.Frag} {H : Hp} {p : Addr} {r : List Int} (h : Tp H p (r.map V.int)) : Dp K H (.ref p) (dRow r) := .tup h.t (dp_ints r)
theorem dp_all {K : PySem.W.Frag} {H : Hp} : ∀ (qs : List Addr) (ds : List PyData), qs.length = ds.length → (∀ (i : Nat) (q : Addr) (d : PyData), qs[i]? = some q → ds[i]? = some d → Dp K H (.ref q) d) → DpAll K H (qs.map V.ref) ds
  | [], [], _, _ => .nil
  | [], _ :: _, h, _ => by cases h
  | _ :: _, [], h, _ => by cases h
  | q :: qs, d :: ds, h, k => .cons (k 0 q d rfl rfl) (dp_all qs ds (Nat.succ.inj h) fun i a b h1 h2 => k (i + 1) a b h1 h2)
theorem dp_grid {K : PySem.W.Frag} {H : Hp} {q tb p : Addr} {ps : List Addr} {B : List (List Int)} {r : List Int} (h1 : Tp H q [.ref tb, .ref p]) (h2 : Tp H tb (ps.map V.ref)) (h3 : Rws H ps B B.length) (h4 : Tp H p (r.map V.int)) : Dp K H (.ref q) (dGrid B r) := by
  refine .tup h1.t (.cons (.tup h2.t (dp_all ps (B.map dRow) (by rw [List.length_map]; exact h3.1) fun i a d e1 e2 => ?_)) (.cons (dp_row h4) .nil))
  obtain ⟨r', hr, rfl⟩ := map_get e2
  exact dp_row (h3.2 i a r' e1 hr).1.1
theorem fit_grid {k : Nat} {B : List (List Int)} {r : List Int} (hB : B.length ≤ 4) (lB : ∀ x ∈ B, x.length ≤ 4 ∧ ∀ y ∈ x, SmZ 300 y) (hr : r.length ≤ 4) (zr : ∀ y ∈ r, SmZ 300 y) : FitN (k + 3) 26 (dGrid B r) := by
  have q := fit_all (k := k + 1) (a := 4) 4 (B.map dRow) (fun d hd => by
    obtain ⟨x, hx, rfl⟩ := List.mem_map.mp hd
    exact fit_ints 4 x (lB x hx).2 (lB x hx).1) (by rw [List.length_map]; exact hB)
  refine .tup (.cons (a := 20) (b := 5) (.tup q) (.cons (a := 4) (b := 0) ((fit_ints (k := k + 1) 4 r zr hr)) .nil (Nat.le_refl _)) (Nat.le_refl _))
theorem Prs.dp {K : PySem.W.Frag} {H : Hp} {tb : Addr} {ps qs : List Addr} {B ss : List (List Int)} (h : Prs H tb qs ss) (h2 : Tp H tb (ps.map V.ref)) (h3 : Rws H ps B B.length) : DpAll K H (qs.map V.ref) (ss.map (dGrid B)) := by
  refine dp_all qs _ (by rw [List.length_map]; exact h.1) fun i a d e1 e2 => ?_
  obtain ⟨r, hr, rfl⟩ := map_get e2
  obtain ⟨p, a1, a2⟩ := h.2 i a r e1 hr
  exact dp_grid a1 h2 h3 a2
theorem Prs.but {m tb : Addr} {H H' : Hp} {qs : List Addr} {ss : List (List Int)} {kvs : List (Key × V)} (h : Prs H tb qs ss) (hm : H m = some (.dK kvs)) (s : SameBut m H H') : Prs H' tb qs ss := ⟨h.1, fun i q r h1 h2 => by
  obtain ⟨p, a, b⟩ := h.2 i q r h1 h2
  exact ⟨p, a.but hm s, b.but hm s⟩⟩
/-- a comprehension of drawn signed numbers -/
theorem lc_signed {n : Nat} {g : TG} {te : TE} {vs : List Nat} {σ : L2.St} {H1 : Hp} {D : Addr} {Qd : Hp → Prop} {m c : Addr} {q : Nat} (hz : n < sizeLine) (hM : MOk H1 m c q) (nD : H1 D = none)
    (hs : ∀ (i : Nat) (H : Hp) (Qy : VK), i < n → SameBut m H1 H → MOk H m c (q + 2 * i) → (∀ H4 v, SameBut m H H4 → MOk H4 m c (q + 2 * i + 2) → -40 ≤ v → v ≤ 40 → Qy (.int v) H4) → g (.int (0 + i)) (wipe σ vs) H fun σ2 H2 => wipe σ2 vs = wipe σ vs ∧ te σ2 H2 Qy)
    (hd : ∀ H (xs : List Int), SameBut m H1 H → MOk H m c (q + 2 * n) → H D = some (.lst (xs.map V.int)) → xs.length = n → (∀ x ∈ xs, x.natAbs ≤ 40) → Qd H) :
    ∃ W : Nat → Nat → Hp → Prop, (∃ m, W 0 m (upd H1 D (.lst []))) ∧ ∀ i m H, W i m H →
      ((Itr 0 n).stop i H ∧ Qd H) ∨ ((Itr 0 n).go i H ∧ ∃ Nx : Hp → Prop, (∀ H', Nx H' → ∃ m', m' < m ∧ W (i + 1) m' H') ∧ ∀ x H', (Itr 0 n).yld i H x H' → g x (wipe σ vs) H' fun σ2 H2 => wipe σ2 vs = wipe σ vs ∧ tYes σ2 H2 fun b H3 =>
        if b = true then te σ2 H3 fun y H4 => ∃ acc, H4 D = some (.lst acc) ∧ acc.length < sizeLine ∧ Nx (upd H4 D (.lst (acc ++ [y]))) else Nx H3) := by
  obtain ⟨kvs, hm⟩ := hM.m_some
  obtain ⟨ys, hc⟩ := hM.c_some
  have dm : D ≠ m := Ne.symm (ne_of_none hm nD)
  have dc : D ≠ c := Ne.symm (ne_of_none hc nD)
  refine lc_it (walk_range (lo := 0) (n := n)) (tt := tYes) (fun i H => ∃ xs : List Int, SameBut m H1 H ∧ MOk H m c (q + 2 * i) ∧ H D = some (.lst (xs.map V.int)) ∧ xs.length = i ∧ ∀ x ∈ xs, x.natAbs ≤ 40) ⟨[], SameBut.of (same_new nD), hM.put dm dc, upd_same, rfl, fun x hx => by cases hx⟩ (fun _ _ _ _ => True.intro) ?_ ?_
  · rintro i x H H' hi ⟨xs, sb, M, d, l, bd⟩ ⟨rfl, rfl⟩
    refine hs i H' (fun y H4 => ∃ acc, H4 D = some (.lst acc) ∧ acc.length < sizeLine ∧ ∃ xs : List Int, SameBut m H1 (upd H4 D (.lst (acc ++ [y]))) ∧ MOk (upd H4 D (.lst (acc ++ [y]))) m c (q + 2 * (i + 1)) ∧ upd H4 D (.lst (acc ++ [y])) D = some (.lst (xs.map V.int)) ∧ xs.length = i + 1 ∧ ∀ x ∈ xs, x.natAbs ≤ 40) hi sb M fun H4 v b4 M4 v0 v1 => ?_
    refine ⟨xs.map V.int, b4 _ _ dm d, by rw [List.length_map]; omega, xs ++ [v], fun b o hb e => ?_, M4.put dm dc, ?_, by rw [List.length_append, l]; rfl, fun x hx => ?_⟩
    · rw [upd_ne (ne_of_none e nD)]
      exact b4 _ _ hb (sb _ _ hb e)
    · rw [upd_same, List.map_append]
      rfl
    · rcases List.mem_append.mp hx with h | h
      · exact bd x h
      · rw [List.mem_singleton] at h
        omega
  · rintro H ⟨xs, sb, M, d, l, bd⟩
    exact hd H xs sb M d l bd
end K15
namespace K15
open PySem PySem.Spec PyProof.Rows L2 Vk
abbrev s_right : Stmt := topS 21
theorem sc_right : FnScope ["m", "size_so", "most", "grid_so", "due", "told", "step", "t", "lot", "s", "one", "k"] ["m", "size_so", "most"] (defScope s_right) := ⟨rfl, rfl, rfl, by decide +kernel, rfl, by decide +kernel, by decide +kernel⟩
def spRight : Sp := fun vs H Q _ => ∃ (m c : Addr) (q n : Nat) (most : Nat), vs = [.ref m, .int n, .int (most : Int)] ∧ MOk H m c q ∧ q ≤ 2000 ∧ n ≤ 4 ∧ 1 ≤ most ∧ most ≤ 100 ∧ most ^ n ≤ 256 ∧ ∀ H', SameBut m H H' → MOk H' m c (q + 60) → Q (.bl true) H'
theorem flt_len {s : List Int} (ss : List (List Int)) : (ss.filter fun z => decide (z ≠ s)).length ≤ ss.length := List.length_filter_le _ _
section
variable {P : Program} {w : World} {K : PySem.W.Frag} {mg : Str → Option Value} {base : Heap}
theorem ok_right {f : Addr} {fd : FuncData} (F : Fun K "_law_right" "_law_right" s_right f fd) (C__law_grid : Cal P w K mg base 2 "_law_grid" ["m", "size_so", "most"] spGrid) (C__law_starts : Cal P w K mg base 1 "_law_starts" ["grid_so"] spStarts)
    (C_others : Cal P w K mg base 2 "others" ["grid"] spOthers) (C__law_like : CalG P w K mg base 1 "_law_like" ["got", "due"] (spLike K)) (C__law_signed : Cal P w K mg base 2 "_law_signed" ["m", "most"] spSigned) (C__law_place : Cal P w K mg base 1 "_law_place" ["grid_so", "t"] spPlace)
    (m_tuple : mg "tuple" = none) (m_range : mg "range" = none) (m_len : mg "len" = none) : FnG P w K mg base 3 f fd ["m", "size_so", "most"] spRight := by
  have sc := sc_right
  refine okG F sc (fun vs H Q E h => ?_) (fun cdv A outer s H vs Q E hG0 hr h => ?_)
  · obtain ⟨m, c, q, n, most, rfl, _⟩ := h
    rfl
  · obtain ⟨m, c, q, n, most, rfl, hM, hq, hn, hm0, hm1, hp, k⟩ := h
    have hG : Quiet (cxOf CX0 P w K mg base ["m", "size_so", "most", "grid_so", "due", "told", "step", "t", "lot", "s", "one", "k"] "_law_right" (defScope s_right) f cdv A outer s H E).nox.A := hG0.deeper _
    refine ⟨_, (pss_cons (ps_set (i := 3) sc.nd rfl (Or.inr rfl) (call_ C__law_grid (hr.mono (by decide)) (by rfl) (pa_cons (pv 0) (pa_cons (pv 1) (pa_cons (pv 2) pa_nil)))))
    (pss_cons (ps_setLc (i := 4) (own := [("s", 9)]) (g := gName 9) (by rfl) sc.nd rfl rfl (sw_true rfl rfl rfl (by decide +kernel)) (pi_list (call_ C__law_starts (hr.mono (by decide)) (by rfl) (pa_cons (pv 3) pa_nil))) (blkOk_by (own := [("s", 9)]) (N := ["m", "size_so", "most", "grid_so", "due", "told", "step", "t", "lot", "s", "one", "k"]) (sc := defScope s_right) (by decide +kernel)) (fun _ _ _ _ _ => pg_name (i := 9) sc.nd rfl (Or.inl rfl)) (fun _ _ _ _ _ => (pts_one (pt_cmpR (op_neDK (K := K) rfl hr.units) (pv 9) (pe_ix (ix_tupK (K := K) rfl) (pv 3) pe_int (fun _ _ => rfl)) (nomark _)))) (fun _ _ _ _ _ => (pe_tup (pa_cons (pe_ix (ix_tupK (K := K) rfl) (pv 3) pe_int (fun _ _ => rfl)) (pa_cons (pv 9) pa_nil)))))
    (pss_cons (ps_set (i := 5) sc.nd rfl (Or.inl rfl) (call_ C_others (hr.mono (by decide)) (by rfl) (pa_cons (pv 3) pa_nil)))
    (pss_cons (ps_if (pt_not (pt_val (callG hG C__law_like (hr.mono (by decide)) (by rfl) (pa_cons (pv 5) (pa_cons (pe_callTy call_tuple_of (by rfl) m_tuple (by decide +kernel) (pa_cons (pv 4) pa_nil)) pa_nil)))))
      (pss_one (ps_ret pe_bl))
      pss_nil)
    (pss_cons (ps_for PassesOwn.never rfl (pi_range1 rfl m_range (pa_cons pe_int pa_nil)) (pg_name (i := 6) sc.nd rfl (Or.inl rfl))
      (pss_cons (ps_set (i := 7) sc.nd rfl (Or.inr rfl) (pe_callTy call_tuple_of (by rfl) m_tuple (by decide +kernel) (pa_cons (pe_lc (own := [("k", 11)]) (g := gName 11) (by rfl) sc.nd (pi_range1 rfl m_range (pa_cons (pv 1) pa_nil)) (blkOk_by (own := [("k", 11)]) (N := ["m", "size_so", "most", "grid_so", "due", "told", "step", "t", "lot", "s", "one", "k"]) (sc := defScope s_right) (by decide +kernel)) (fun _ _ _ _ _ => pg_name (i := 11) sc.nd rfl (Or.inl rfl)) (fun _ _ _ _ _ => pts_nil) (fun _ _ _ _ _ => (call_ C__law_signed (hr.mono (by decide)) (by rfl) (pa_cons (pv 0) (pa_cons pe_int pa_nil))))) pa_nil)))
    (pss_cons (ps_setLc (i := 8) (own := [("one", 10)]) (g := gName 10) (by rfl) sc.nd rfl rfl (sw_true rfl rfl rfl (by decide +kernel)) (pi_tup (pe_op op_catA (pe_tup (pa_cons (pv 3) pa_nil)) (pv 5))) (blkOk_by (own := [("one", 10)]) (N := ["m", "size_so", "most", "grid_so", "due", "told", "step", "t", "lot", "s", "one", "k"]) (sc := defScope s_right) (by decide +kernel)) (fun _ _ _ _ _ => pg_name (i := 10) sc.nd rfl (Or.inl rfl)) (fun _ _ _ _ _ => (pts_one (pt_cmpR op_notN (call_ C__law_place (hr.mono (by decide)) (by rfl) (pa_cons (pv 10) (pa_cons (pv 7) pa_nil))) pe_non (nomark _)))) (fun _ _ _ _ _ => (pv 10)))
    (pss_one (ps_if (pt_cmpR op_ne (pe_callB call_len_seq (by rfl) m_len (by decide +kernel) (pa_cons (pv 8) pa_nil)) pe_int (nomark _))
      (pss_one (ps_ret pe_bl))
      pss_nil)))))
    (pss_one (ps_ret pe_bl))))))), ?_⟩
    refine ⟨.ref m, rfl, .int n, rfl, .int (most : Int), rfl, m, c, q, n, (most : Int), rfl, hM, by omega, hn, by omega, by omega, fun H1 g B st b1 M1 ng hGr hOk => ?_⟩
    obtain ⟨lB, lS, hRow, hSt⟩ := hOk
    have hdg : ∀ i, i < B.length → 1 ≤ dg B i ∧ dg B i ≤ (most : Int) := fun i hi => let ⟨_, a, b, _⟩ := hRow i (by omega); ⟨a, b⟩
    have zdg : ∀ i, SmZ 300 (dg B i) := fun i => by
      by_cases hi : i < B.length
      · have := hdg i hi
        exact Nat.lt_of_le_of_lt (show (dg B i).natAbs ≤ 100 by omega) (by decide)
      · have e : B.getD i [] = [] := by
          rw [List.getD_eq_getElem?_getD, List.getElem?_eq_none (by omega)]
          rfl
        unfold dg
        rw [e]
        exact (by decide : (0 : Int).natAbs < 2 ^ 300)
    have hle : ∀ i, i ≤ B.length → (startsI B i).length ≤ 256 := fun i hi => Nat.le_trans (starts_le B most i fun j hj => (hdg j (by omega)).2) (Nat.le_trans (Nat.pow_le_pow_right hm0 (by omega)) hp)
    have hsz : sizeP B B.length - 1 ≤ 10000 := by
      have e := starts_size B B.length fun j hj => by have := hdg j hj; omega
      have := hle B.length (Nat.le_refl _)
      omega
    have hin : st ∈ startsI B B.length := by
      have h := mem_starts B st B.length (by omega) fun j hj => hSt j (by omega)
      rwa [List.take_of_length_le (by omega)] at h
    have hnd := nodup_starts B B.length
    have hlen := startsI_len B B.length
    have hbd := starts_bd B B.length
    have hone : ∀ t, (startsI B B.length).countP (fun z => (placeI B z t B.length).isSome) = 1 := fun t => one_place B t B.length fun j hj => by have := hdg j hj; omega
    obtain ⟨kv1, hm1'⟩ := M1.m_some
    obtain ⟨tb, ts, ps, h1, h2, hR, h4, h5⟩ := hGr
    refine ⟨.ref g, rfl, g, B, st, rfl, ⟨tb, ts, ps, h1, h2, hR, h4, h5⟩, by omega, fun i hi => by have := hdg i hi; omega, fun i hi => by have := hle i hi; omega, fun S qs H2 s2 gS hRw => ?_⟩
    have ls := hle B.length (Nat.le_refl _)
    have lqs : (qs.map V.ref).length = (startsI B B.length).length := by rw [List.length_map, hRw.1]
    refine ⟨S, rfl, ⟨_, SqL.of gS⟩, fun D nD => ?_⟩
    refine walk_run (walk_list (K := K) (a := S) (xs := qs.map V.ref)) _ (fun k H' => ∃ zs, Same H2 H' ∧ H' D = some (.lst (zs.map V.ref)) ∧ Prs H' tb zs (((startsI B B.length).take k).filter fun z => decide (z ≠ st))) ⟨[], same_new nD, upd_same, rfl, fun i p r e1 e2 => by cases e1⟩ (fun k H' _ ⟨_, s', _⟩ => SqL.of (s' _ _ gS)) ?_ ?_
    · rintro k x Hk Hk' hk ⟨zs, sk, dk, wk⟩ ⟨rfl, hx⟩
      obtain ⟨pk, hpk, rfl⟩ := map_get hx
      have hks : k < (startsI B B.length).length := by omega
      have hsk : (startsI B B.length)[k]? = some (startsI B B.length)[k] := List.getElem?_eq_getElem hks
      generalize (startsI B B.length)[k] = sk0 at hsk
      have tk := (hRw.2 k pk _ hpk hsk).same sk
      have stk := (h4.same s2).same sk
      have gk := (h1.same s2).same sk
      have e9 : (startsI B B.length).take (k + 1) = (startsI B B.length).take k ++ [sk0] := by
        rw [List.take_add_one, hsk]
        rfl
      refine ⟨rfl, ?_⟩
      refine ⟨.ref pk, rfl, .ref g, rfl, g, _, 1, .ref ts, rfl, rfl, gk.t, atI_nat (j := 1) rfl, .tuple (sk0.map PyData.int), .tuple (st.map PyData.int), .tup tk.t (dp_ints _), .tup stk.1.t (dp_ints _), shaped_row _, shaped_row _, _, rfl, ?_⟩
      show if (!PyData.eqv _ _) = true then _ else _
      rw [eqv_rows]
      by_cases he : sk0 = st
      · rw [if_neg (by simp [he])]
        refine ⟨zs, sk, dk, ?_⟩
        rw [e9, List.filter_append, List.filter_cons_of_neg (by simp [he]), List.filter_nil, List.append_nil]
        exact wk
      · rw [if_pos (by simp [he])]
        refine ⟨.ref g, rfl, g, _, 0, .ref tb, rfl, rfl, gk.t, atI_nat (j := 0) rfl, .ref pk, rfl, by show 2 ≤ sizeLine; decide, fun q nq => ⟨zs.map V.ref, ?_, ?_, ?_⟩⟩
        · exact same_new nq _ _ dk
        · rw [List.length_map, wk.1]
          refine big (Nat.le_trans (List.length_filter_le _ _) ?_)
          rw [List.length_take]
          omega
        · refine ⟨zs ++ [q], same_put (sk.trans (same_new nq)) nD, ?_, ?_⟩
          · rw [upd_same, List.map_append]
            rfl
          · rw [e9, List.filter_append, List.filter_cons_of_pos (by simp [he]), List.filter_nil]
            exact ((wk.same (same_new nq)).snoc upd_same (tk.same (same_new nq))).put (same_new nq _ _ dk)
    · rintro H3 ⟨ds, s3, gD, wD⟩
      rw [lqs, List.take_length] at wD
      have s13 := s2.trans s3
      have g1 := h1.same s13
      have g2 := h2.same s13
      have gR := hR.same s13
      have g4 := h4.same s13
      refine ⟨.ref g, rfl, g, tb, ts, ps, B, st, rfl, g1, g2, gR, g4, h5, by omega, zdg, fun i hi => by have := hdg i hi; omega, hsz, fun i hi => by have := hle i hi; omega, fun r qs' H4 s4 hr4 hP4 => ?_⟩
      have g1 := g1.same s4
      have g2 := g2.same s4
      have gR := gR.same s4
      have g4 := g4.same s4
      have gD := s4 _ _ gD
      have wD := wD.same s4
      have s14 := s13.trans s4
      refine ⟨.ref r, rfl, .ref D, rfl, D, _, rfl, .inl ⟨SqL.of gD, fun l nl => ?_⟩⟩
      have s5 : Same H4 (upd H4 l (.tup (ds.map V.ref))) := same_new nl
      have g5 : Tp (upd H4 l (.tup (ds.map V.ref))) l (ds.map V.ref) := upd_same
      generalize upd H4 l (.tup (ds.map V.ref)) = H5 at s5 g5 ⊢
      have g1 := g1.same s5
      have g2 := g2.same s5
      have gR := gR.same s5
      have g4 := g4.same s5
      have hr5 := (hr4 : Tp H4 r _).same s5
      have hP5 := hP4.same s5
      have s15 := s14.trans s5
      have entry : ∀ (z : List Int), z ∈ startsI B B.length → z.length ≤ 4 ∧ ∀ y ∈ z, SmZ 300 y := fun z hz => ⟨by rw [hlen z hz]; omega, fun y hy => by
        obtain ⟨j, hj⟩ := List.getElem?_of_mem hy
        have h9 := hbd z hz j y hj
        have jl := (List.getElem?_eq_some_iff.mp hj).1
        rw [hlen z hz] at jl
        have := hdg j jl
        exact Nat.lt_of_le_of_lt (show y.natAbs ≤ 100 by omega) (by decide)⟩
      have fit : Fit (.tuple (((startsI B B.length).filter fun z => decide (z ≠ st)).map (dGrid B))) := by
        refine FitN.mono (FitN.tup (k := 3) (fit_all (a := 26) 256 _ (fun d hd => ?_) ?_)) (by decide) (by decide)
        · obtain ⟨z, hz, rfl⟩ := List.mem_map.mp hd
          have hz := (List.mem_filter.mp hz).1
          refine fit_grid (k := 0) (by omega) (fun x hx => ?_) (entry z hz).1 (entry z hz).2
          obtain ⟨i, hi⟩ := List.getElem?_of_mem hx
          have il := (List.getElem?_eq_some_iff.mp hi).1
          obtain ⟨p, hp⟩ : ∃ p, ps[i]? = some p := ⟨_, List.getElem?_eq_getElem (by rw [hR.1]; exact il)⟩
          have := hR.2 i p x hp hi
          exact ⟨by omega, this.1.2.2⟩
        · rw [List.length_map]
          exact Nat.le_trans (flt_len _) ls
      refine ⟨.ref r, .ref l, _, rfl, .tup hr5.t (hP5.dp g2 gR), .tup g5.t ((wD.same s5).dp g2 gR), fit, _, rfl, iteF ?_⟩
      have M5 := M1.same s15
      clear M1 hR h1 h2 h4 hP4 wD
      refine ⟨3, rfl, by decide, by decide, for_range (lo := 0) (n := 3) (fun i σ H' => (∃ y6 y7 y8 y9 y10 y11, σ = [some (.ref m), some (.int n), some (.int (most : Int)), some (.ref g), some (.ref D), some (.ref r), y6, y7, y8, y9, y10, y11]) ∧ SameBut m H5 H' ∧ MOk H' m c (q + 20 + 8 * i)) ⟨⟨_, _, _, _, _, _, rfl⟩, SameBut.refl _ _, M5⟩ ?_ ?_⟩
      · rintro i σ H6 hi ⟨⟨y6, y7, y8, y9, y10, y11, rfl⟩, b6, M6⟩
        refine ⟨.int n, rfl, (n : Int), rfl, by omega, by omega, fun E nE => ?_⟩
        rw [Int.toNat_natCast]
        refine lc_signed (n := n) (m := m) (c := c) (q := q + 20 + 8 * i) (small (by omega)) M6 nE ?_ ?_
        · intro j H' Qy hj _ M' hQ
          exact ⟨rfl, .ref m, rfl, m, c, q + 20 + 8 * i + 2 * j, 40, rfl, M', by omega, by decide, by decide, fun H4 v b4 M4 v0 v1 => hQ H4 v b4 M4 v0 v1⟩
        intro H7 t b7 M7 d7 l7 bd
        refine ⟨E, _, rfl, .inl ⟨SqL.of d7, fun T nT => ?_⟩⟩
        have s8 : Same H7 (upd H7 T (.tup (t.map V.int))) := same_new nT
        have g8 : Tp (upd H7 T (.tup (t.map V.int))) T (t.map V.int) := upd_same
        generalize upd H7 T (.tup (t.map V.int)) = H8 at s8 g8 ⊢
        have M8 := M7.same s8
        have b8 := (b6.trans b7).trans (SameBut.of s8)
        obtain ⟨kv5, hm5⟩ := M5.m_some
        have g1 := g1.but hm5 b8
        have g2 := g2.but hm5 b8
        have gR := gR.but hm5 b8
        have g4 := g4.but hm5 b8
        have hr8 := hr5.but hm5 b8
        have hP8 := hP5.but hm5 b8
        refine ⟨.ref g, rfl, by show 1 ≤ sizeLine; decide, fun z nz => ?_⟩
        have s9 : Same H8 (upd H8 z (.tup [.ref g])) := same_new nz
        have g9 : Tp (upd H8 z (.tup [.ref g])) z [.ref g] := upd_same
        generalize upd H8 z (.tup [.ref g]) = H9 at s9 g9 ⊢
        have lq' := hP8.1
        have lf := flt_len (s := st) (startsI B B.length)
        refine ⟨.ref r, rfl, cat_tp g9 (hr8.same s9) (by rw [List.length_map]; exact Nat.le_of_lt (big (by show 1 + _ ≤ 40000; omega))) fun L H10 s10 gL => ?_⟩
        have s810 := s9.trans s10
        have g1 := g1.same s810
        have g2 := g2.same s810
        have gR := gR.same s810
        have g4 := g4.same s810
        have hP10 := hP8.same s810
        have gT := g8.same s810
        have b10 := b8.trans (SameBut.of s810)
        have M10 := M8.same s810
        have all : ∀ (j : Nat) (a : Addr) (zz : List Int), (g :: qs')[j]? = some a → (st :: (startsI B B.length).filter fun z => decide (z ≠ st))[j]? = some zz → zz ∈ startsI B B.length ∧ Gr H10 a B zz := by
          intro j a zz e1 e2
          cases j with
          | zero =>
            obtain rfl : g = a := Option.some.inj e1
            obtain rfl : st = zz := Option.some.inj e2
            exact ⟨hin, tb, ts, ps, g1, g2, gR, g4, h5⟩
          | succ j =>
            obtain ⟨p, a1, a2⟩ := hP10.2 j a zz e1 e2
            have hz := (List.mem_filter.mp (List.mem_of_getElem? e2)).1
            exact ⟨hz, tb, p, ps, a1, g2, gR, ⟨a2, by have := (entry zz hz).1; omega, (entry zz hz).2⟩, hlen zz hz⟩
        have key : (st :: (startsI B B.length).filter fun z => decide (z ≠ st)).countP (fun z => (placeI B z t B.length).isSome) = 1 := one_lot _ st _ hin hnd (hone t)
        have lall : (g :: qs').length = (st :: (startsI B B.length).filter fun z => decide (z ≠ st)).length := by rw [List.length_cons, List.length_cons, lq']
        have lbig : (st :: (startsI B B.length).filter fun z => decide (z ≠ st)).length ≤ 300 := by
          rw [List.length_cons]
          omega
        have eL : (V.ref g :: List.map V.ref qs') = (g :: qs').map V.ref := rfl
        replace gL : Tp H10 L ((g :: qs').map V.ref) := gL
        generalize (st :: (startsI B B.length).filter fun z => decide (z ≠ st)) = zs at all key lall lbig
        generalize g :: qs' = as at all lall gL
        refine ⟨L, rfl, ⟨_, gL.t⟩, fun Y nY => ?_⟩
        refine walk_run (walk_tup (K := K) (a := L) (xs := as.map V.ref)) _ (fun k H' => ∃ ys, Same H10 H' ∧ H' Y = some (.lst ys) ∧ ys.length = (zs.take k).countP fun z => (placeI B z t B.length).isSome) ⟨[], same_new nY, upd_same, rfl⟩ (fun k H' _ ⟨_, s', _⟩ => (gL.same s').t) ?_ ?_
        · rintro k x Hk Hk' hk ⟨ys, sk, dk, wk⟩ ⟨rfl, hx⟩
          obtain ⟨a, ha, rfl⟩ := map_get hx
          rw [List.length_map] at hk
          obtain ⟨zz, hzz⟩ : ∃ zz, zs[k]? = some zz := ⟨_, List.getElem?_eq_getElem (by omega)⟩
          obtain ⟨hz, Ga⟩ := all k a zz ha hzz
          have e9 : zs.take (k + 1) = zs.take k ++ [zz] := by
            rw [List.take_add_one, hzz]
            rfl
          have cle : (zs.take k).countP (fun z => (placeI B z t B.length).isSome) ≤ 300 := Nat.le_trans List.countP_le_length (by rw [List.length_take]; omega)
          refine ⟨rfl, ?_⟩
          refine ⟨.ref a, rfl, .ref T, rfl, a, T, B, zz, t, rfl, Ga.same sk, ⟨gT.same sk, by omega, fun y hy => Nat.lt_of_le_of_lt (bd y hy) (by decide)⟩, by omega, by omega, fun j hj => by have := hdg j hj; omega, fun j y hj e y' hy' => ?_, fun e H' s' => ?_, fun y e p H' s' => ?_⟩
          · have h9 := place_small (n := n) (most := (most : Int)) hRow (by omega) hn (hbd zz hz) (by rw [hlen zz hz]; exact lB) bd j y (by omega) e y' hy'
            exact Nat.lt_of_le_of_lt h9 (Nat.pow_lt_pow_right (by decide) (by omega))
          · refine ⟨rfl, _, rfl, iteF' (by rfl) ?_⟩
            refine ⟨ys, sk.trans s', s' _ _ dk, ?_⟩
            rw [e9, List.countP_append, wk, List.countP_singleton, e]
            rfl
          · refine ⟨rfl, _, rfl, iteT ⟨.ref a, rfl, ys, s' _ _ dk, big (by omega), ?_⟩⟩
            refine ⟨ys ++ [.ref a], same_put (sk.trans s') nY, upd_same, ?_⟩
            rw [e9, List.countP_append, List.length_append, wk, List.countP_singleton, e]
            rfl
        · rintro H11 ⟨ys, s11, d11, w11⟩
          rw [List.length_map, lall, List.take_length, key] at w11
          refine ⟨.ref Y, rfl, Y, ys, rfl, .inl (SqL.of d11), rfl, _, rfl, iteF' (by rw [w11]; rfl) ?_⟩
          exact ⟨⟨_, _, _, _, _, _, rfl⟩, b10.trans (SameBut.of s11), (M10.same s11).mono (by omega)⟩
      · rintro σ H6 ⟨_, b6, M6⟩
        exact k H6 ((b1.trans (SameBut.of s15)).trans b6) (M6.mono (by omega))
end
end K15
namespace K15
open PySem PySem.Spec PyProof.Rows L2 Vk
instance (n : Nat) (a : Int) : Decidable (SmZ n a) := Nat.decLt _ _
theorem MOk.ext {H H' : Hp} {m r : Addr} {n : Nat} (h : MOk H m r n) (e : LamX.ExtN H H') : MOk H' m r n := by
  obtain ⟨L, sd, sp, cells, h1, h2, h3⟩ := h
  exact ⟨L, sd, sp, cells, e _ _ h1 (fun ps z => by cases z), e _ _ h2 (fun ps z => by cases z), h3⟩
theorem sql_ext {K : PySem.W.Frag} {H H' : Hp} {a : Addr} {xs : List V} (h : SqL K H a xs) (e : LamX.ExtN H H') : SqL K H' a xs := by
  rcases h with (h | ⟨o, h⟩) | h
  · exact .inl (.inl (e _ _ h fun ps z => by cases z))
  · exact .inl (.inr ⟨o, e _ _ h fun ps z => by cases z⟩)
  · exact .inr h
theorem ext_but {H H1 H2 : Hp} {m : Addr} (hm : H m = none) (a : LamX.ExtN H H1) (b : SameBut m H1 H2) : LamX.ExtN H H2 := fun c o h n => b c o (ne_of_none h hm) (a c o h n)
theorem tabs_but {T : List (Addr × Str)} {H H' : Hp} {m : Addr} {kvs : List (Key × V)} (hT : LamX.Tabs T H) (hm : H m = some (.dK kvs)) (s : SameBut m H H') : LamX.Tabs T H' := fun p hp => by
  obtain ⟨ps, h1, h2, h3⟩ := hT p hp
  refine ⟨ps, s _ _ (ne_of h1 hm (by intro z; cases z)) h1, h2, fun pos cv hc => ?_⟩
  obtain ⟨c, e1, e2⟩ := h3 pos cv hc
  exact ⟨c, e1, s _ _ (ne_of e2 hm (by intro z; unfold LamX.CodeO at z; cases z)) e2⟩
theorem ext_same {H H1 H2 : Hp} (a : LamX.ExtN H H1) (b : Same H1 H2) : LamX.ExtN H H2 := a.trans (LamX.ExtN.of b)
theorem Tp.ext {H H' : Hp} {a : Addr} {xs : List V} (h : Tp H a xs) (e : LamX.ExtN H H') : Tp H' a xs := e _ _ h fun ps z => by cases z
theorem Gr.ext {H H' : Hp} {g : Addr} {B : List (List Int)} {s : List Int} (h : Gr H g B s) (e : LamX.ExtN H H') : Gr H' g B s := by
  obtain ⟨tb, ts, ps, h1, h2, h3, h4, h5⟩ := h
  exact ⟨tb, ts, ps, Tp.ext h1 e, Tp.ext h2 e, ⟨h3.1, fun i p r a b => ⟨⟨Tp.ext (h3.2 i p r a b).1.1 e, (h3.2 i p r a b).1.2⟩, (h3.2 i p r a b).2⟩⟩, ⟨Tp.ext h4.1 e, h4.2⟩, h5⟩
theorem cons_ {te : TE} {t : TA} {σ : L2.St} {H : Hp} {R : List V → Hp → Prop} (h : te σ H fun x H1 => t σ H1 fun xs H2 => R (x :: xs) H2) : tCons te t σ H R := h
/-! ### written grids -/
def tInts : List Int → TA
  | [] => tNil
  | x :: r => tCons (tC (.int x)) (tInts r)
def tRows : List (List Int) → TA
  | [] => tNil
  | x :: r => tCons (tTup (tInts x)) (tRows r)
theorem ints_ {σ : L2.St} {H : Hp} : ∀ (xs : List Int) {R : List V → Hp → Prop}, R (xs.map V.int) H → tInts xs σ H R
  | [], _, h => h
  | x :: r, R, h => ints_ r (R := fun vs H' => R (.int x :: vs) H') h
theorem row_ {σ : L2.St} {H : Hp} (xs : List Int) (hl : xs.length ≤ 100) {Q : VK} (h : ∀ p H', Same H H' → Tp H' p (xs.map V.int) → Q (.ref p) H') : tTup (tInts xs) σ H Q :=
  ints_ xs ⟨by rw [List.length_map]; exact Nat.le_of_lt (small hl), fun p np => h p _ (same_new np) upd_same⟩
theorem rows_ {n : Nat} {σ : L2.St} : ∀ (rs : List (List Int)) {H : Hp} {R : List V → Hp → Prop}, (∀ r ∈ rs, r.length = n ∧ n ≤ 100 ∧ ∀ x ∈ r, SmZ 300 x) → (∀ ps H', Same H H' → Rws H' ps rs n → R (ps.map V.ref) H') → tRows rs σ H R
  | [], H, R, _, h => h [] H (Same.refl _) ⟨rfl, fun i p r e _ => by cases e⟩
  | x :: rs, H, R, hx, h => by
    obtain ⟨l, ln, z⟩ := hx x (List.mem_cons_self ..)
    show tTup (tInts x) σ H fun v H1 => tRows rs σ H1 fun xs H2 => R (v :: xs) H2
    refine row_ x (by omega) fun p H1 s1 g1 => ?_
    refine rows_ rs (fun r hr => hx r (List.mem_cons_of_mem _ hr)) fun ps H2 s2 w2 => ?_
    refine h (p :: ps) H2 (s1.trans s2) ⟨by rw [List.length_cons, List.length_cons, w2.1], fun i q r e1 e2 => ?_⟩
    cases i with
    | zero =>
      obtain rfl : p = q := Option.some.inj e1
      obtain rfl : x = r := Option.some.inj e2
      exact ⟨⟨g1.same s2, by omega, z⟩, l⟩
    | succ i => exact w2.2 i q r e1 e2
/-- ((rows), start) -/
theorem grid_ {σ : L2.St} {H : Hp} (B : List (List Int)) (s : List Int) (hB : ∀ r ∈ B, r.length = B.length ∧ ∀ x ∈ r, SmZ 300 x) (hs : s.length = B.length ∧ ∀ x ∈ s, SmZ 300 x) (hl : B.length ≤ 9) {Q : VK} (h : ∀ g tb ts ps H', Same H H' → Tp H' g [.ref tb, .ref ts] → Tp H' tb (ps.map V.ref) → Rws H' ps B B.length → Row H' ts s → Q (.ref g) H') :
    tTup (tCons (tTup (tRows B)) (tCons (tTup (tInts s)) tNil)) σ H Q := by
  show tRows B σ H _
  refine rows_ B (n := B.length) (fun r hr => ⟨(hB r hr).1, by omega, (hB r hr).2⟩) fun ps H1 s1 w1 => ?_
  refine ⟨by rw [List.length_map, w1.1]; exact Nat.le_of_lt (small (by omega)), fun tb n2 => ?_⟩
  have s2 : Same H1 (upd H1 tb (.tup (ps.map V.ref))) := same_new n2
  have g2 : Tp (upd H1 tb (.tup (ps.map V.ref))) tb (ps.map V.ref) := upd_same
  generalize upd H1 tb (.tup (ps.map V.ref)) = H2 at s2 g2 ⊢
  show tTup (tInts s) σ H2 _
  refine row_ s (by omega) fun ts H3 s3 g3 => ?_
  refine ⟨by show 2 ≤ sizeLine; decide, fun g n4 => ?_⟩
  have s4 : Same H3 (upd H3 g (.tup [.ref tb, .ref ts])) := same_new n4
  exact h g tb ts ps _ (((s1.trans s2).trans s3).trans s4) upd_same (g2.same (s3.trans s4)) (w1.same ((s2.trans s3).trans s4)) ⟨g3.same s4, by omega, hs.2⟩
end K15
namespace K15
open PySem PySem.Spec PyProof.Rows L2 Vk
abbrev s_law : Stmt := topS 22
theorem sc_law : FnScope ["script", "turn", "m", "size_so", "side", "wide"] ["script"] (defScope s_law) := ⟨rfl, rfl, rfl, by decide +kernel, rfl, by decide +kernel, by decide +kernel⟩
def spLaw (T : List (Addr × Str)) (K : PySem.W.Frag) : Sp := fun vs H Q _ => ∃ (a : Addr) (ns : List Int), vs = [.ref a] ∧ SqL K H a (ns.map V.int) ∧ ns.length ≤ 63 ∧ LamX.Tabs T H ∧ ∀ H', Q (.bl true) H'
def mostOf (i : Nat) : Nat := [1, 60, 14, 6, 4].getD i 1
theorem dg_small {B : List (List Int)} {n : Nat} (hl : B.length ≤ n) (h : ∀ i, i < n → SmZ 300 (dg B i)) : ∀ i, SmZ 300 (dg B i) := fun i => by
  by_cases hi : i < n
  · exact h i hi
  · have e : B.getD i [] = [] := by
      rw [List.getD_eq_getElem?_getD, List.getElem?_eq_none (by omega)]
      rfl
    unfold dg
    rw [e]
    exact (by decide : (0 : Int).natAbs < 2 ^ 300)
theorem smz_le {x b : Int} (h0 : 0 ≤ x) (h1 : x ≤ b) (hb : b.natAbs < 2 ^ 300) : SmZ 300 x := smz_of (b := b) (by omega) h1 hb
theorem flt_one {s : List Int} {ss : List (List Int)} (hs : s ∈ ss) (nd : ss.Nodup) : (ss.filter fun z => decide (z ≠ s)).length + 1 = ss.length := by
  have h := one_lot (fun z => decide (z = s)) s ss hs nd (by
    have e : ss.countP (fun z => decide (z = s)) = ss.count s := by
      unfold List.count
      refine List.countP_congr fun z _ => ?_
      simp
    rw [e, nd.count, if_pos hs])
  have e : (ss.filter fun z => decide (z ≠ s)) = ss.erase s := by
    rw [nd.erase_eq_filter]
    refine List.filter_congr fun z _ => ?_
    by_cases hz : z = s <;> simp [hz]
  rw [e, List.length_erase_of_mem hs]
  have := List.length_pos_of_mem hs
  omega
section
variable {P : Program} {w : World} {K : PySem.W.Frag} {mg : Str → Option Value} {base : Heap}
theorem ok_law {f c1 P1 gH CT CM CN : Addr} {T : List (Addr × Str)} {oc kV doc pm ct : Value} {od an : Option Addr} {osl : Array (Option Value)}
    (lk : K.lookup f = some ⟨oc, od, .func (PySem.W.fnOf "law" "law" (defArgs s_law) (defBody s_law) (defScope s_law) .none kV doc pm an (.ref c1) ct), osl⟩) (hcd : PySem.W.codeIn K (.ref c1) "law" = true)
    (TB : LamX.TabB base mg c1 P1) (hT : (P1, ("law.<locals>.<lambda>" : Str)) ∈ T) (hu : ∀ p ∈ T, p.1 = P1 → p.2 = "law.<locals>.<lambda>") (HF : HeardF K mg gH) (X : Exs K mg CT CM CN)
    (C__law_begun : Cal P w K mg base 1 "_law_begun" ["script", "k_so"] (spBegun K)) (C__law_draw : Cal P w K mg base 1 "_law_draw" ["m", "bound"] spDraw) (C__law_right : CalG P w K mg base 3 "_law_right" ["m", "size_so", "most"] spRight)
    (C__law_like : CalG P w K mg base 1 "_law_like" ["got", "due"] (spLike K)) (C_others : Cal P w K mg base 2 "others" ["grid"] spOthers) (CX_others : CalX P w K mg base 3 "others" ["grid"] (spMany CM))
    (m_isinstance : mg "isinstance" = none) (m_range : mg "range" = none) (m_len : mg "len" = none) :
    FnG P w K mg base 7 f (PySem.W.fnOf "law" "law" (defArgs s_law) (defBody s_law) (defScope s_law) .none kV doc pm an (.ref c1) ct) ["script"] (spLaw T K) := by
  have sc := sc_law
  refine fnG_of lk hcd sc (fun vs H Q E h => ?_) (fun A outer s H vs Q E hG0 hr h => ?_)
  · obtain ⟨a, ns, rfl, _⟩ := h
    rfl
  · obtain ⟨a0, ns, rfl, hS, hl, hTab, k⟩ := h
    have hG : Quiet (cxOf CX0 P w K mg base ["script", "turn", "m", "size_so", "side", "wide"] "law" (defScope s_law) f (.ref c1) A outer s H E).nox.A := hG0.deeper _
    obtain ⟨gH1, gH2, ocH, kVH, docH, pmH, cdvH, ctH, odH, anH, oslH, lkH, hcH, bH⟩ := HF
    obtain ⟨fX, fdX, FX, gX, kX, bX⟩ := CX_others
    refine ⟨_, (pss_cons (ps_for PassesOwn.never rfl (pi_range1 rfl m_range (pa_cons pe_int pa_nil)) (pg_name (i := 1) sc.nd rfl (Or.inl rfl))
      (pss_cons (ps_set (i := 2) sc.nd rfl (Or.inr rfl) (call_ C__law_begun (hr.mono (by decide)) (by rfl) (pa_cons (pv 0) (pa_cons (pv 1) pa_nil))))
    (pss_cons (ps_for PassesOwn.never rfl (pi_list (pe_lst (pa_cons pe_int (pa_cons pe_int (pa_cons pe_int (pa_cons pe_int (pa_cons pe_int pa_nil))))))) (pg_name (i := 3) sc.nd rfl (Or.inl rfl))
      (pss_one (ps_if (pt_not (pt_val (callG hG C__law_right (hr.mono (by decide)) (by rfl) (pa_cons (pv 2) (pa_cons (pv 3) (pa_cons (pe_ix ix_list (pe_lst (pa_cons pe_int (pa_cons pe_int (pa_cons pe_int (pa_cons pe_int (pa_cons pe_int pa_nil)))))) (pv 3) (fun _ _ => rfl)) pa_nil))))))
      (pss_one (ps_ret pe_bl))
      pss_nil)))
    (pss_cons (ps_set (i := 4) sc.nd rfl (Or.inr rfl) (pe_op op_add pe_int (call_ C__law_draw (hr.mono (by decide)) (by rfl) (pa_cons (pv 2) (pa_cons (pe_op op_pow pe_int pe_int) pa_nil)))))
    (pss_cons (ps_if (pt_cmpR op_ne (LamX.pe_lamcall (T := T) (k := 3) (TT := THeard CM) (t := fun E => tCall (spMany CM) [] E (tCons (tTup (tCons (tTup (tCons (tTup (tCons (tVar 4) tNil)) tNil)) (tCons (tTup (tCons (tCal spDraw (tCons (tVar 2) (tCons (tVar 4) tNil))) tNil)) tNil))) tNil)) rfl gH1 gH2 lkH hcH bH sc_heard rfl (Or.inl rfl) (heard_gives X m_isinstance) TB rfl hT hu (hr.mono (by decide)) (LamX.lamS_by (sc := defScope s_law) (by decide +kernel)) rfl (fun _ _ _ _ _ => rfl)
      (fun A' outer' s' H' E' f' c' hr' => pe_call FX (hr'.mono (by decide)) (by rfl) gX kX bX .nil (passes_call (takes_of rfl rfl rfl rfl) (fun _ _ _ _ z => z)) (pa_cons (pe_tup (pa_cons (pe_tup (pa_cons (pe_tup (pa_cons (pv 4) pa_nil)) pa_nil)) (pa_cons (pe_tup (pa_cons (call_ C__law_draw (hr'.mono (by decide)) (by rfl) (pa_cons (pv 2) (pa_cons (pv 4) pa_nil))) pa_nil)) pa_nil))) pa_nil))) pe_int (nomark _))
      (pss_one (ps_ret pe_bl))
      pss_nil)
    (pss_cons (ps_set (i := 5) sc.nd rfl (Or.inr rfl) (pe_tup (pa_cons (pe_tup (pa_cons (pe_tup (pa_cons pe_int (pa_cons pe_int (pa_cons pe_int pa_nil)))) (pa_cons (pe_tup (pa_cons pe_int (pa_cons pe_int (pa_cons pe_int pa_nil)))) (pa_cons (pe_tup (pa_cons pe_int (pa_cons pe_int (pa_cons pe_int pa_nil)))) pa_nil)))) (pa_cons (pe_tup (pa_cons pe_int (pa_cons pe_int (pa_cons pe_int pa_nil)))) pa_nil))))
    (pss_one (ps_if (pt_cmpR op_ne (LamX.pe_lamcall (T := T) (k := 3) (TT := THeard CM) (t := fun E => tCall (spMany CM) [] E (tCons (tVar 5) tNil)) rfl gH1 gH2 lkH hcH bH sc_heard rfl (Or.inl rfl) (heard_gives X m_isinstance) TB rfl hT hu (hr.mono (by decide)) (LamX.lamS_by (sc := defScope s_law) (by decide +kernel)) rfl (fun _ _ _ _ _ => rfl)
      (fun A' outer' s' H' E' f' c' hr' => pe_call FX (hr'.mono (by decide)) (by rfl) gX kX bX .nil (passes_call (takes_of rfl rfl rfl rfl) (fun _ _ _ _ z => z)) (pa_cons (pv 5) pa_nil))) pe_int (nomark _))
      (pss_one (ps_ret pe_bl))
      pss_nil))))))))
    (pss_cons (ps_if (PW.pt (pw_and (pt_cmpR op_eq (call_ C__law_draw (hr.mono (by decide)) (by rfl) (pa_cons (pv 2) (pa_cons pe_int pa_nil))) pe_int (nomark _)) (pw_and1 (pt_cmpR op_ne (pe_callB call_len_seq (by rfl) m_len (by decide +kernel) (pa_cons (call_ C_others (hr.mono (by decide)) (by rfl) (pa_cons (pe_tup (pa_cons (pe_tup (pa_cons (pe_tup (pa_cons pe_int pa_nil)) pa_nil)) (pa_cons (pe_tup (pa_cons pe_int pa_nil)) pa_nil))) pa_nil)) pa_nil)) pe_int (nomark _)))))
      (pss_one (ps_ret pe_bl))
      pss_nil)
    (pss_one (ps_ret (callG hG C__law_like (hr.mono (by decide)) (by rfl) (pa_cons (call_ C_others (hr.mono (by decide)) (by rfl) (pa_cons (pe_tup (pa_cons (pe_tup (pa_cons (pe_tup (pa_cons pe_int (pa_cons pe_int pa_nil))) (pa_cons (pe_tup (pa_cons pe_int (pa_cons pe_int pa_nil))) pa_nil))) (pa_cons (pe_tup (pa_cons pe_int (pa_cons pe_int pa_nil))) pa_nil))) pa_nil)) (pa_cons (pe_tup (pa_cons (pe_tup (pa_cons (pe_tup (pa_cons (pe_tup (pa_cons pe_int (pa_cons pe_int pa_nil))) (pa_cons (pe_tup (pa_cons pe_int (pa_cons pe_int pa_nil))) pa_nil))) (pa_cons (pe_tup (pa_cons pe_int (pa_cons pe_int pa_nil))) pa_nil))) (pa_cons (pe_tup (pa_cons (pe_tup (pa_cons (pe_tup (pa_cons pe_int (pa_cons pe_int pa_nil))) (pa_cons (pe_tup (pa_cons pe_int (pa_cons pe_int pa_nil))) pa_nil))) (pa_cons (pe_tup (pa_cons pe_int (pa_cons pe_int pa_nil))) pa_nil))) (pa_cons (pe_tup (pa_cons (pe_tup (pa_cons (pe_tup (pa_cons pe_int (pa_cons pe_int pa_nil))) (pa_cons (pe_tup (pa_cons pe_int (pa_cons pe_int pa_nil))) pa_nil))) (pa_cons (pe_tup (pa_cons pe_int (pa_cons pe_int pa_nil))) pa_nil))) pa_nil)))) pa_nil))))))), ?_⟩
    refine ⟨3, rfl, by decide, by decide, for_range (lo := 0) (n := 3) (fun i σ H' => (∃ y1 y2 y3 y4 y5, σ = [some (.ref a0), y1, y2, y3, y4, y5] ∧ (0 < i → ∃ m r, y2 = some (.ref m) ∧ MOk H' m r 1000)) ∧ LamX.ExtN H H' ∧ LamX.Tabs T H') ⟨⟨none, none, none, none, none, rfl, fun z => absurd z (Nat.lt_irrefl 0)⟩, LamX.ExtN.refl _, hTab⟩ ?_ ?_⟩
    · rintro i σ H0 hi ⟨⟨y1, y2, y3, y4, y5, rfl, _⟩, e0, T0⟩
      refine ⟨.ref a0, rfl, .int (0 + i), rfl, a0, 0 + i, ns, rfl, sql_ext hS e0, hl, by omega, by omega, fun H1 m r s1 nm M1 => ?_⟩
      refine ⟨by show 5 ≤ sizeLine; decide, fun L nL => ?_⟩
      have s2 : Same H1 (upd H1 L (.lst [.int 0, .int 1, .int 2, .int 3, .int 4])) := same_new nL
      have gL : upd H1 L (.lst [.int 0, .int 1, .int 2, .int 3, .int 4]) L = some (.lst [.int 0, .int 1, .int 2, .int 3, .int 4]) := upd_same
      obtain ⟨kv1, hm1⟩ := M1.m_some
      have Lm : L ≠ m := Ne.symm (ne_of_none hm1 nL)
      generalize upd H1 L (.lst [.int 0, .int 1, .int 2, .int 3, .int 4]) = H2 at s2 gL ⊢
      have M2 := M1.same s2
      obtain ⟨kv2, hm2⟩ := M2.m_some
      have e2 : LamX.ExtN H0 H2 := LamX.ExtN.of (s1.trans s2)
      have T2 := (T0.ext s1).ext s2
      refine ⟨L, rfl, ⟨_, SqL.of gL⟩, ?_⟩
      refine for_it (walk_list (K := K) (a := L) (xs := [.int 0, .int 1, .int 2, .int 3, .int 4])) (fun j σ H' => (∃ y3 y4 y5, σ = [some (.ref a0), some (.int (0 + i)), some (.ref m), y3, y4, y5]) ∧ SameBut m H2 H' ∧ MOk H' m r (60 * j)) ⟨⟨_, _, _, rfl⟩, SameBut.refl _ _, M2⟩ (fun j σ H' _ p => SqL.of (p.2.1 _ _ Lm gL)) ?_ ?_
      · rintro j x σ H3 H4 hj ⟨⟨y3, y4, y5, rfl⟩, b3, M3⟩ ⟨rfl, hx⟩
        have hj5 : j < 5 := hj
        obtain ⟨most, rfl, hmo, m0, m1, mp⟩ : ∃ most : Nat, x = .int ((j : Nat) : Int) ∧ ([V.int 1, .int 60, .int 14, .int 6, .int 4] : List V)[j]? = some (.int (most : Int)) ∧ 1 ≤ most ∧ most ≤ 100 ∧ most ^ j ≤ 256 := by
          match j, hj5 with
          | 0, _ => exact ⟨1, (Option.some.inj hx).symm, rfl, by decide, by decide, by decide⟩
          | 1, _ => exact ⟨60, (Option.some.inj hx).symm, rfl, by decide, by decide, by decide⟩
          | 2, _ => exact ⟨14, (Option.some.inj hx).symm, rfl, by decide, by decide, by decide⟩
          | 3, _ => exact ⟨6, (Option.some.inj hx).symm, rfl, by decide, by decide, by decide⟩
          | 4, _ => exact ⟨4, (Option.some.inj hx).symm, rfl, by decide, by decide, by decide⟩
        refine ⟨.ref m, rfl, .int (j : Nat), rfl, by show 5 ≤ sizeLine; decide, fun L2 nL2 => ?_⟩
        have s5 : Same H4 (upd H4 L2 (.lst [.int 1, .int 60, .int 14, .int 6, .int 4])) := same_new nL2
        have g5 : upd H4 L2 (.lst [.int 1, .int 60, .int 14, .int 6, .int 4]) L2 = some (.lst [.int 1, .int 60, .int 14, .int 6, .int 4]) := upd_same
        generalize upd H4 L2 (.lst [.int 1, .int 60, .int 14, .int 6, .int 4]) = H5 at s5 g5 ⊢
        refine ⟨.int (j : Nat), rfl, L2, _, ((j : Nat) : Int), .int (most : Int), rfl, rfl, SqL.of g5, atI_nat hmo, m, r, 60 * j, j, most, rfl, M3.same s5, by omega, by omega, m0, m1, mp, fun H6 b6 M6 => ?_⟩
        exact ⟨_, rfl, iteF ⟨⟨_, _, _, rfl⟩, (b3.trans (SameBut.of s5)).trans b6, M6⟩⟩
      rintro σ H3 ⟨⟨y3, y4, y5, rfl⟩, b3, M3⟩
      have M3 : MOk H3 m r 300 := M3
      have e3 := ext_but nm e2 b3
      have T3 := tabs_but T2 hm2 b3
      have p6 : (10 : Int) ^ (6 : Int).toNat = 1000000 := by decide
      refine ⟨.ref m, rfl, 10, 6, rfl, rfl, ⟨by decide, by decide, by decide⟩, m, r, 300, 1000000, by dsimp only; rw [p6], M3, by decide, by decide, by decide, fun H4 v b4 M4 v0 v1 => ?_⟩
      refine ⟨10002, v, rfl, rfl, ?_⟩
      obtain ⟨kv3, hm3⟩ := M3.m_some
      have e4 := ext_but nm e3 b4
      have T4 := tabs_but T3 hm3 b4
      have M4 := M4.mono (show 301 ≤ 400 by decide)
      obtain ⟨side, hside⟩ : ∃ side : Int, side = 10002 + v := ⟨_, rfl⟩
      show gName 4 (.int (10002 + v)) _ _ _
      rw [← hside]
      have hs0 : 10002 ≤ side ∧ side < 1010002 := by omega
      clear hside
      refine heard_read 10000 T4 (fun H' => LamX.ExtN H0 H' ∧ LamX.Tabs T H' ∧ MOk H' m r 500) ?_ ?_
      rotate_left
      · intro H5 E' Q' e5 T5 hE
        have M5 := M4.ext e5
        refine ⟨.int side, rfl, by show 1 ≤ sizeLine; decide, fun p1 n1 => ?_⟩
        have s6 : Same H5 (upd H5 p1 (.tup [.int side])) := same_new n1
        have g6 : Tp (upd H5 p1 (.tup [.int side])) p1 [.int side] := upd_same
        generalize upd H5 p1 (.tup [.int side]) = H6 at s6 g6 ⊢
        refine ⟨by show 1 ≤ sizeLine; decide, fun p2 n2 => ?_⟩
        have s7 : Same H6 (upd H6 p2 (.tup [.ref p1])) := same_new n2
        have g7 : Tp (upd H6 p2 (.tup [.ref p1])) p2 [.ref p1] := upd_same
        generalize upd H6 p2 (.tup [.ref p1]) = H7 at s7 g7 ⊢
        have s57 := s6.trans s7
        have M7 := M5.same s57
        obtain ⟨kv7, hm7⟩ := M7.m_some
        refine ⟨.ref m, rfl, .int side, rfl, m, r, 400, side, rfl, M7, by decide, by omega, Nat.lt_of_le_of_lt (show side.natAbs ≤ 1010002 by omega) (by decide), fun H8 u b8 M8 u0 u1 => ?_⟩
        have g6 := (g6.same s7).but hm7 b8
        have g7 := g7.but hm7 b8
        refine ⟨by show 1 ≤ sizeLine; decide, fun p3 n3 => ?_⟩
        have s9 : Same H8 (upd H8 p3 (.tup [.int u])) := same_new n3
        have g9 : Tp (upd H8 p3 (.tup [.int u])) p3 [.int u] := upd_same
        generalize upd H8 p3 (.tup [.int u]) = H9 at s9 g9 ⊢
        refine ⟨by show 2 ≤ sizeLine; decide, fun p4 n4 => ?_⟩
        have s10 : Same H9 (upd H9 p4 (.tup [.ref p2, .ref p3])) := same_new n4
        have g10 : Tp (upd H9 p4 (.tup [.ref p2, .ref p3])) p4 [.ref p2, .ref p3] := upd_same
        generalize upd H9 p4 (.tup [.ref p2, .ref p3]) = H10 at s10 g10 ⊢
        have s810 := s9.trans s10
        have zs : SmZ 300 side := smz_le (b := 1010002) (by omega) (by omega) (by decide)
        have zu : SmZ 300 u := smz_le (b := 1010002) (by omega) (by omega) (by decide)
        have e10 : LamX.ExtN H0 H10 := ext_same (ext_but nm (ext_same (e4.trans e5) s57) b8) s810
        have T10 : LamX.Tabs T H10 := (tabs_but ((T5.ext s6).ext s7) hm7 b8).ext s810
        have M10 := M8.same s810
        refine ⟨p4, [[side]], [u], rfl, ⟨p2, p3, [p1], g10, g7.same s810, ⟨rfl, fun i p z h1 h2 => ?_⟩, ⟨g9.same s10, by show 1 ≤ 100; decide, fun x hx => ?_⟩, rfl⟩, by show 1 ≤ 9; decide, dg_small (n := 1) (Nat.le_refl _) (fun i hi => ?_), ?_, fun dx H' s' hd => hE dx H' hd fun e ne => ⟨?_, ?_, ?_⟩⟩
        · cases i with
          | zero =>
            obtain rfl := Option.some.inj h1
            obtain rfl := Option.some.inj h2
            exact ⟨⟨g6.same s810, by show 1 ≤ 100; decide, fun x hx => by
              rw [List.mem_singleton] at hx
              rw [hx]
              exact zs⟩, rfl⟩
          | succ i => cases h1
        · rw [List.mem_singleton] at hx
          rw [hx]
          exact zu
        · obtain rfl : i = 0 := by omega
          exact zs
        · show 10000 < 1 * side - 1
          omega
        · exact ext_same (ext_same e10 s') (same_new ne)
        · exact (T10.ext s').ext (same_new ne)
        · exact ((M10.same s').same (same_new ne)).mono (by decide)
      rintro H5 ⟨e5, T5, M5⟩
      refine ⟨rfl, _, rfl, iteF' (by rfl) ?_⟩
      unfold tNext
      dsimp only
      unfold tSeq tAsg
      refine grid_ [[1, 0, 0], [0, 101, 0], [0, 5, 100]] [0, 3, 7] (by decide) (by decide) (by decide) fun g tb ts ps H6 s6 w1 w2 w3 w4 => ?_
      have G6 : Gr H6 g [[1, 0, 0], [0, 101, 0], [0, 5, 100]] [0, 3, 7] := ⟨tb, ts, ps, w1, w2, w3, w4, rfl⟩
      have e6 := ext_same e5 s6
      have T6 := T5.ext s6
      have M6 := M5.same s6
      refine heard_read 10000 T6 (fun H' => LamX.ExtN H0 H' ∧ LamX.Tabs T H' ∧ MOk H' m r 500) ?_ ?_
      rotate_left
      · intro H7 E' Q' e7 T7 hE
        refine ⟨.ref g, rfl, g, _, _, rfl, G6.ext e7, by decide, dg_small (n := 3) (Nat.le_refl _) (by decide), by decide, fun dx H' s' hd => hE dx H' hd fun e ne => ⟨ext_same (ext_same (e6.trans e7) s') (same_new ne), (T7.ext s').ext (same_new ne), ((M6.ext e7).same s').same (same_new ne)⟩⟩
      rintro H7 ⟨e7, T7, M7⟩
      exact ⟨rfl, _, rfl, iteF' (by rfl) ⟨⟨_, _, _, _, _, rfl, fun _ => ⟨m, r, rfl, M7.mono (by decide)⟩⟩, e0.trans e7, T7⟩⟩
    · rintro σ H0 ⟨⟨y1, y2, y3, y4, y5, rfl, hm⟩, e0, T0⟩
      obtain ⟨m, r, rfl, M0⟩ := hm (by decide)
      refine ⟨.ref m, rfl, m, r, 1000, 5, rfl, M0, by decide, by decide, by decide, fun H1 v b1 M1 v0 v1 => ?_⟩
      clear hS hTab TB hT hu e0 T0
      have rest : ∀ (H' : Hp), L2.tRet (tCal (spLike K) (tCons (tCal spOthers (tCons (tTup (tCons (tTup (tRows [[2, 0], [1, 2]])) (tCons (tTup (tInts [0, 1])) tNil))) tNil)) (tCons (tTup (tCons (tTup (tCons (tTup (tRows [[2, 0], [1, 2]])) (tCons (tTup (tInts [0, 0])) tNil))) (tCons (tTup (tCons (tTup (tRows [[2, 0], [1, 2]])) (tCons (tTup (tInts [1, 0])) tNil))) (tCons (tTup (tCons (tTup (tRows [[2, 0], [1, 2]])) (tCons (tTup (tInts [1, 1])) tNil))) tNil)))) tNil))) { nx := fun _ H' => Q .non H', rt := Q } [some (.ref a0), y1, some (.ref m), y3, y4, y5] H' := by
        intro H'
        unfold tRet tCal
        refine cons_ ?_
        refine cons_ ?_
        refine grid_ [[2, 0], [1, 2]] [0, 1] (by decide) (by decide) (by decide) fun g tb ts ps H1 s1 w1 w2 w3 w4 => ?_
        refine ⟨g, tb, ts, ps, [[2, 0], [1, 2]], [0, 1], rfl, w1, w2, w3, w4, rfl, by decide, dg_small (n := 2) (Nat.le_refl _) (by decide), by decide, by decide, by decide, fun r qs H2 s2 hr hP => ?_⟩
        have w2' := w2.same s2
        have w3' := w3.same s2
        have ed : ((startsI [[2, 0], [1, 2]] 2).filter fun z => decide (z ≠ [0, 1])) = [[0, 0], [1, 0], [1, 1]] := by decide
        replace hP : Prs H2 tb qs [[0, 0], [1, 0], [1, 1]] := by
          rw [← ed]
          exact hP
        refine cons_ ?_
        refine cons_ ?_
        refine grid_ [[2, 0], [1, 2]] [0, 0] (by decide) (by decide) (by decide) fun g1 tb1 ts1 ps1 H3 s3 u1 u2 u3 u4 => ?_
        refine cons_ ?_
        refine grid_ [[2, 0], [1, 2]] [1, 0] (by decide) (by decide) (by decide) fun g2 tb2 ts2 ps2 H4 s4 x1 x2 x3 x4 => ?_
        refine cons_ ?_
        refine grid_ [[2, 0], [1, 2]] [1, 1] (by decide) (by decide) (by decide) fun g3 tb3 ts3 ps3 H5 s5 y1 y2 y3 y4 => ?_
        refine ⟨by show 3 ≤ sizeLine; decide, fun p np => ?_⟩
        have s6 : Same H5 (upd H5 p (.tup [.ref g1, .ref g2, .ref g3])) := same_new np
        have g6 : Tp (upd H5 p (.tup [.ref g1, .ref g2, .ref g3])) p [.ref g1, .ref g2, .ref g3] := upd_same
        generalize upd H5 p (.tup [.ref g1, .ref g2, .ref g3]) = H6 at s6 g6 ⊢
        have s26 := ((s3.trans s4).trans s5).trans s6
        have s36 := (s4.trans s5).trans s6
        have s46 := s5.trans s6
        have d1 : Dp K H6 (.ref g1) (dGrid [[2, 0], [1, 2]] [0, 0]) := dp_grid (u1.same s36) (u2.same s36) (u3.same s36) (u4.same s36).1
        have d2 : Dp K H6 (.ref g2) (dGrid [[2, 0], [1, 2]] [1, 0]) := dp_grid (x1.same s46) (x2.same s46) (x3.same s46) (x4.same s46).1
        have d3 : Dp K H6 (.ref g3) (dGrid [[2, 0], [1, 2]] [1, 1]) := dp_grid (y1.same s6) (y2.same s6) (y3.same s6) (y4.same s6).1
        have fg : ∀ z : List Int, z.length ≤ 4 → (∀ y ∈ z, SmZ 300 y) → FitN 3 26 (dGrid [[2, 0], [1, 2]] z) := fun z hz hy => fit_grid (k := 0) (by decide) (by decide) hz hy
        refine ⟨.ref r, .ref p, .tuple [dGrid [[2, 0], [1, 2]] [0, 0], dGrid [[2, 0], [1, 2]] [1, 0], dGrid [[2, 0], [1, 2]] [1, 1]], rfl, .tup ((show Tp H2 r _ from hr).same s26).t ((hP.same s26).dp (w2'.same s26) (w3'.same s26)), .tup g6.t (.cons d1 (.cons d2 (.cons d3 .nil))), ?_, k _⟩
        exact FitN.mono (FitN.tup (k := 3) (n := 81) (.cons (fg _ (by decide) (by decide)) (.cons (fg _ (by decide) (by decide)) (.cons (fg _ (by decide) (by decide)) (.nil (n := 0)) (Nat.le_refl _)) (Nat.le_refl _)) (Nat.le_refl _))) (by decide) (by decide)
      refine ⟨rfl, _, rfl, ?_⟩
      refine ite2 (fun _ => ?_) (fun _ => iteF (rest H1))
      unfold tTest tOp tCB
      refine cons_ ?_
      unfold tCal
      refine cons_ ?_
      refine grid_ [[10001]] [17] (by decide) (by decide) (by decide) fun g tb ts ps H2 s2 w1 w2 w3 w4 => ?_
      have hdg : ∀ i, i < 1 → 0 < dg [[10001]] i ∧ dg [[10001]] i ≤ (10001 : Nat) := by decide
      refine ⟨g, tb, ts, ps, [[10001]], [17], rfl, w1, w2, w3, w4, rfl, by decide, dg_small (n := 1) (Nat.le_refl _) (by decide), by decide, by decide, fun i hi => ?_, fun r qs H3 s3 hr hP => ?_⟩
      · have h1 := starts_le [[10001]] 10001 i fun j hj => (hdg j (by have : i ≤ 1 := hi; omega)).2
        have h2 : 10001 ^ i ≤ 10001 ^ 1 := Nat.pow_le_pow_right (by decide) hi
        omega
      · have hin : [17] ∈ startsI [[10001]] 1 := mem_starts [[10001]] [17] 1 (by decide) (by decide)
        have h1 := flt_one hin (nodup_starts [[10001]] 1)
        have h2 := starts_size [[10001]] 1 fun j hj => (hdg j hj).1
        have h3 : sizeP [[10001]] 1 = 10001 := by decide
        have h4 : qs.length = _ := hP.1
        have h4 : qs.length = ((startsI [[10001]] 1).filter fun z => decide (z ≠ [17])).length := h4
        have h5 : (qs.map V.ref).length = 10000 := by
          rw [List.length_map]
          omega
        generalize qs.map V.ref = ys at hr h5
        refine ⟨r, ys, rfl, .inr (SqT.of hr), rfl, _, rfl, iteF' ?_ (rest H3)⟩
        rw [h5]
        rfl
end
end K15
/-! The end of a law row for a quiet promise, with the tables of the code objects that hold lambdas. -/
namespace Vk
open PySem PySem.Spec PyProof.Rows L2
/-- what a heap at the law's start tracks -/
inductive Trk (cs : List (Addr × Addr)) (H : Hp) (b : Addr) : Prop
  | no (h : H b = none) : Trk cs H b
  | tab (p : Addr × Addr) (m : p ∈ cs) (e : p.2 = b) (h : H b = some (.tbl #[])) : Trk cs H b
  | frz (o : Obj) (xs : List V) (h : H b = some (.frz o (.lst xs))) : Trk cs H b
/-- what is known of the tables -/
structure TabK (K : PySem.W.Frag) (h : Heap) (p : Addr × Addr) : Prop where
  hd : PySem.W.CodeHd h p.1 p.2
  at_ : h.get? p.2 = some { cls := .none, data := .fields #[] }
  out : K.lookup p.2 = none
/-- the module that the top's names lead to -/
def BMain (mg : Str → Option Value) (h : Heap) : Prop := ∃ bm ob, mg "__builtins__" = some (.ref bm) ∧ bm ≠ builtinsNs ∧ h.get? bm = some ob ∧ ob.cls = .type "module" ∧ ob.dict = some builtinsNs ∧ ob.data = .plain
section
variable {P : Program} {w : World} {K : PySem.W.Frag} {mg mb : Str → Option Value} {k : Nat} {fa a : Addr} {fd : FuncData} {x : Str} {sp : Sp} {s₁ : Shared} {vs : List Value} {ns : List Int} {cs : List (Addr × Addr)}
theorem tabB_hid {H : Hp} {p : Addr × Addr} (T : TabK K s₁.heap p) (fr : ∀ b o, s₁.heap.get? b = some o → o ≠ { cls := .none, data := .fields #[] } → o.cls ≠ .type "list" → H b = none) (hns : s₁.heap.Ns mainGlobals mg) (B : BMain mg s₁.heap) :
    LamX.TabB (hidT s₁.heap H) mg p.1 p.2 := by
  obtain ⟨o, us, file, tf, flags, tg, inF, text, tt, q1, q2, q3, q4, q5⟩ := T.hd
  obtain ⟨bm, ob, b1, b2, b3, b4, b5, b6⟩ := B
  obtain ⟨og, es, ep, g1, g2, g3⟩ := hns
  refine ⟨⟨o, us, file, tf, flags, tg, inF, text, tt, hidT_get q1 (fr _ _ q1 (fun z => ?_) fun z => ?_), q2, q3, q4, q5⟩, ⟨bm, ob, b1, b2, fun z => ?_, fun z => ?_, hidT_get b3 (fr _ _ b3 (fun z => ?_) fun z => ?_), b4, b5, b6⟩, fun z => ?_⟩
  · subst z
    cases q2
  · rw [q2] at z
    exact absurd z (by decide)
  · subst z
    rw [g1] at b3
    obtain rfl := Option.some.inj b3
    rw [b6] at g2
    cases g2
  · subst z
    have y := b3.symm.trans T.at_
    obtain rfl := Option.some.inj y
    cases b4
  · subst z
    cases b4
  · rw [b4] at z
    exact absurd z (by decide)
  · rw [z] at g1
    obtain rfl := Option.some.inj (T.at_.symm.trans g1)
    cases g2
/-- from one abstract heap that holds -/
theorem law_coreT (H : Hp) (KX : K.In s₁.heap) (hns : s₁.heap.Ns mainGlobals mg) (hb : s₁.heap.Ns builtinsNs mb) (hbb : ∀ x : Str, x ≠ "__name__" → mb x = bootBuiltins x) (hlim : s₁.heap.NoLimit) (hg : s₁.gens = #[])
    (TK : ∀ p ∈ cs, TabK K s₁.heap p) (B : BMain mg s₁.heap) (ha : s₁.heap.get? a = some { cls := .type "list", data := .seq vs.toArray }) (hr : Room k callerA)
    (F : ∀ base : Heap, K.In base → base.Ns mainGlobals mg → (∀ p ∈ cs, LamX.TabB base mg p.1 p.2) → FnG P w K mg base k fa fd [x] sp) (hbind : ∀ (s : Shared) (u : Value), BindsTo s fd ⟨[u], []⟩ [(x, u)])
    (trk : ∀ b, Trk cs H b) (hA : ∀ b o xs, H b = some (.frz o (.lst xs)) → b = a) (hK : H a ≠ none → K.lookup a = none) (hok : HOk P w H s₁.heap) (hsp : sp [.ref a] H (fun v _ => v = .bl true) fun _ _ _ => False) :
    codeAny (model P w) callerA (.call (.ref fa) ⟨[.ref a], []⟩) (fun r s' => r = .ok (.ret (.bool true)) ∧ OldK s₁.heap s'.heap ∧ s'.os = s₁.os ∧ AllBare s'.gens) s₁ := by
  have fr : ∀ b o, s₁.heap.get? b = some o → o ≠ { cls := .none, data := .fields #[] } → o.cls ≠ .type "list" → H b = none := fun b o e n1 n2 => by
    cases trk b with
    | no h => exact h
    | tab p m z h =>
      rw [← z, (TK p m).at_] at e
      exact absurd (Option.some.inj e).symm n1
    | frz u xs h =>
      rw [hA b u xs h, ha] at e
      obtain rfl := Option.some.inj e
      exact absurd rfl n2
  have ns_ : ∀ {b : Addr} {m : Str → Option Value}, s₁.heap.Ns b m → (hidT s₁.heap H).Ns b m := by
    rintro b m ⟨o, es, ep, e, d, r⟩
    cases trk b with
    | no h => exact ⟨o, es, ep, hidT_get e h, d, r⟩
    | tab p q z h =>
      rw [← z, (TK p q).at_] at e
      obtain rfl := Option.some.inj e
      cases d
    | frz u xs h =>
      rw [hA b u xs h, ha] at e
      obtain rfl := Option.some.inj e
      cases d
  have inB : K.In (hidT s₁.heap H) := fun b o e => by
    refine hidT_get (KX b o e) ?_
    cases trk b with
    | no h => exact h
    | tab p q z h =>
      rw [← z, (TK p q).out] at e
      cases e
    | frz u xs h =>
      have y := hA b u xs h
      subst y
      rw [hK (by rw [h]; exact fun z => by cases z)] at e
      cases e
  have M : Mod K mg (hidT s₁.heap H) := by
    refine { kin := inB, glob := ns_ hns, blt := ⟨mb, ns_ hb, hbb⟩, nolimit := ?_ }
    obtain ⟨mc, h1, h2⟩ := hlim
    exact ⟨mc, ns_ h1, h2⟩
  have E : Env0 P w K mg (hidT s₁.heap H) callerA [] s₁ H := by
    refine { frames := rfl, mod := M, bs := fun b o e => of_hidT e, bsz := Nat.le_of_eq (hidT_size _ _), funs := trivial, frf := ?_, hok := hok, bare := .of_eq hg }
    intro b z
    cases (show b ∈ ([] : List Addr) from z)
  have R := (F _ inB (ns_ hns) fun p hp => tabB_hid (TK p hp) fr hns B).run callerA [] s₁ H ⟨[.ref a], []⟩ [.ref a] [.ref a] _ _ rfl hr E (hbind s₁ (.ref a)) (.cons rfl .nil) hsp
  refine codeAny_mono R ?_
  intro r s' h
  match r, h with
  | .error e, h => exact False.elim h
  | .ok (.ret u), ⟨v, H', os, bare, un, hok', rv, q⟩ =>
    obtain rfl : v = .bl true := q
    obtain rfl : u = Value.bool true := rv
    have key : ∀ b o, s₁.heap.get? b = some o → s'.heap.get? b = some o ∨ ∃ p ∈ cs, p.2 = b ∧ ∃ more : Array Value, s'.heap.get? b = some { cls := .none, data := .fields more } := fun b o e => by
      cases trk b with
      | no z =>
        refine .inl (un.keep b o e z (fun m => ?_) (fun m => ?_))
        · cases (show b ∈ ([] : List Addr) from m)
        · cases m
      | tab p m z y =>
        obtain ⟨more, y'⟩ := un.tbls b #[] y
        exact .inr ⟨p, m, z, _, hok' b _ y'⟩
      | frz ob xs z =>
        have p1 := (hok b _ z).1
        have p2 := (hok' b _ (un.frzs b ob _ z)).1
        exact .inl (p2.trans (p1.symm.trans e))
    refine ⟨rfl, ⟨fun b o e => ?_, fun b o e => ?_⟩, os, bare⟩
    · rcases key b o e with y | ⟨p, m, rfl, more, y⟩
      · exact .inl y
      · have T := TK p m
        obtain rfl := Option.some.inj (T.at_.symm.trans e)
        refine .inr (.inl ⟨(T.hd.tab T.at_).isCodeTable, rfl, #[], more, rfl, ?_⟩)
        rw [Array.empty_append]
        exact y
    · rcases key b o e with y | ⟨p, m, rfl, more, y⟩
      · exact ⟨o, y⟩
      · exact ⟨_, y⟩
/-- the law's promise, at the heap behind the top -/
theorem law_callT (KX : K.In s₁.heap) (hns : s₁.heap.Ns mainGlobals mg) (hb : s₁.heap.Ns builtinsNs mb) (hbb : ∀ x : Str, x ≠ "__name__" → mb x = bootBuiltins x) (hlim : s₁.heap.NoLimit) (hg : s₁.gens = #[])
    (TK : ∀ p ∈ cs, TabK K s₁.heap p) (B : BMain mg s₁.heap) (ha : s₁.heap.get? a = some { cls := .type "list", data := .seq vs.toArray }) (hi : IntsAre vs ns) (hl : ns.length ≤ sizeLine) (hr : Room k callerA)
    (F : ∀ base : Heap, K.In base → base.Ns mainGlobals mg → (∀ p ∈ cs, LamX.TabB base mg p.1 p.2) → FnG P w K mg base k fa fd [x] sp) (hbind : ∀ (s : Shared) (u : Value), BindsTo s fd ⟨[u], []⟩ [(x, u)])
    (hsp : ∀ H : Hp, (∀ p ∈ cs, H p.2 = some (.tbl #[])) → SqL K H a (ns.map V.int) → sp [.ref a] H (fun v _ => v = .bl true) fun _ _ _ => False) :
    codeAny (model P w) callerA (.call (.ref fa) ⟨[.ref a], []⟩) (fun r s' => r = .ok (.ret (.bool true)) ∧ OldK s₁.heap s'.heap ∧ s'.os = s₁.os ∧ AllBare s'.gens) s₁ := by
  classical
  have rv := vals_ints hi
  let tb : Hp := fun b => if ∃ p ∈ cs, p.2 = b then some (.tbl #[]) else none
  have tb1 : ∀ p ∈ cs, tb p.2 = some (.tbl #[]) := fun p hp => if_pos ⟨p, hp, rfl⟩
  have tbt : ∀ b, Trk cs tb b := fun b => by
    by_cases z : ∃ p ∈ cs, p.2 = b
    · obtain ⟨p, m, e⟩ := z
      exact .tab p m e (if_pos ⟨p, m, e⟩)
    · exact .no (if_neg z)
  have tbo' : ∀ (H' : Hp) b u, tb b = some u → ObjOk P w H' s₁.heap b u := fun H' b u z => by
    cases tbt b with
    | no h =>
      rw [h] at z
      cases z
    | tab p m e h =>
      rw [h] at z
      obtain rfl := Option.some.inj z
      subst e
      exact (TK p m).at_
    | frz o xs h =>
      rw [h] at z
      obtain rfl := Option.some.inj z
      unfold tb at h
      split at h <;> cases h
  have tbo : HOk P w tb s₁.heap := tbo' tb
  have tbf : ∀ b o xs, tb b ≠ some (.frz o (.lst xs)) := fun b o xs h => by
    unfold tb at h
    split at h <;> cases h
  have na : ∀ p ∈ cs, p.2 ≠ a := fun p hp z => by
    have e := (TK p hp).at_
    rw [z, ha] at e
    cases congrArg Obj.data (Option.some.inj e)
  have tba : tb a = none := if_neg fun ⟨p, hp, z⟩ => na p hp z
  cases hk : K.lookup a with
  | some o =>
    have e := (KX a o hk).symm.trans ha
    obtain rfl := Option.some.inj e
    refine law_coreT tb KX hns hb hbb hlim hg TK B ha hr F hbind tbt (fun b o xs z => absurd z (tbf b o xs)) (fun z => absurd tba z) tbo (hsp _ tb1 (.inr ⟨_, vs.toArray, _, hk, rfl, rfl, rfl, ?_, ?_⟩))
    · rw [List.size_toArray, hi.length]
      exact hl
    · simpa using rv
  | none =>
    let fz : HO := .frz { cls := .type "list", data := .seq vs.toArray } (.lst (ns.map V.int))
    refine law_coreT (upd tb a fz) KX hns hb hbb hlim hg TK B ha hr F hbind (fun b => ?_) (fun b o xs z => ?_) (fun _ => hk) (fun b u z => ?_) (hsp _ (fun p hp => ?_) (.inl (.inr ⟨_, upd_same⟩)))
    · by_cases e : b = a
      · subst e
        exact .frz _ _ upd_same
      · cases tbt b with
        | no h => exact .no (by rw [upd_ne e]; exact h)
        | tab p m q h => exact .tab p m q (by rw [upd_ne e]; exact h)
        | frz o xs h => exact .frz o xs (by rw [upd_ne e]; exact h)
    · by_cases e : b = a
      · exact e
      · rw [upd_ne e] at z
        exact absurd z (tbf b o xs)
    · by_cases e : b = a
      · subst e
        rw [upd_same] at z
        obtain rfl := Option.some.inj z
        refine ⟨ha, ?_, vs, _, rv, ha⟩
        rw [List.length_map]
        exact hl
      · rw [upd_ne e] at z
        exact tbo' _ b u z
    · rw [upd_ne (na p hp)]
      exact tb1 p hp
end
/-- the tables of the top's defs, by their names -/
def TabsOf (q : Program) (K : PySem.W.Frag) (h : Heap) : Prop := ∀ (y : Str) (d : DefRec) (c P : Addr), (recsOf q).find? (fun e => e.name == y) = some d → PySem.W.tabIn K y = some (c, P) → K.lookup P = none → TabK K h (c, P)
/-- the end of the row -/
theorem walk_ofT {l : PySem.W.OpenLaw} {n k : Nat} {q : Program} {loose : List Str} {XP : (Str → Option Value) → Heap → Prop} {YP : World → Heap → Prop} {d : DefRec} {K : Params → PySem.W.Frag} {x : Str}
    (hn : l.most = some n) (hn2 : n ≤ sizeLine) (hdf : d.params.defaults = []) (hr : Room k callerA) (hY : ∀ (w : World) (h : Heap), YP w h → (K w.params).In h)
    (F : ∀ (w : World) (mg : Str → Option Value) (fa : Addr) (h : Heap), (K w.params).In h → h.Ns mainGlobals mg → mg d.name = some (.ref fa) → TabsOf q (K w.params) h →
      ∃ (fd : FuncData) (cs : List (Addr × Addr)) (sp : Sp), (∀ p ∈ cs, TabK (K w.params) h p) ∧ (∀ (s : Shared) (u : Value), BindsTo s fd ⟨[u], []⟩ [(x, u)]) ∧
        (∀ (H : Hp) (a : Addr) (ns : List Int), ns.length ≤ n → (∀ p ∈ cs, H p.2 = some (.tbl #[])) → SqL (K w.params) H a (ns.map V.int) → sp [.ref a] H (fun v _ => v = .bl true) fun _ _ _ => False) ∧
        ∀ base : Heap, (K w.params).In base → base.Ns mainGlobals mg → (∀ p ∈ cs, LamX.TabB base mg p.1 p.2) → FnG l.prog w (K w.params) mg base k fa fd [x] sp) :
    PySem.W.WalkO q loose XP YP l.row.toRowW d [] (fun f vs => PySem.call f vs) := by
  refine Att.attach_call hn hdf ?_
  intro w s₀ s₁ mg mb fa o pm cd doc a vs ns G Y ho hd hcd hmg hobj hints hlen hg
  have KX := hY w _ Y
  obtain ⟨fd, cs, sp, hT, hb, hsp, hF⟩ := F w mg fa _ KX G.T.g hmg fun y d c P h1 h2 h3 => by
    obtain ⟨t1, t2⟩ := PySem.W.tab_of G.T KX h1 h2
    exact ⟨t1, t2, h3⟩
  exact law_callT KX G.T.g G.T.b G.T.builtins G.T.nolimit hg hT G.T.bmain hobj hints (Nat.le_trans hlen hn2) hr hF hb fun H hT' hS => hsp H a ns hlen hT' hS
end Vk
namespace K15
open PySem PySem.Spec PyProof.Rows L2 Vk
section
variable {P : Program} {w : World} {K : PySem.W.Frag} {mg : Str → Option Value} {base : Heap}
/-- a def of the text by its name -/
theorem cal_of {x : Str} {st : Stmt} {f : Addr} {fd : FuncData} {k : Nat} {ps : List Str} {sp : Sp} (F : Fun K x x st f fd) (g : mg x = some (.ref f)) (G : FnOk P w K mg base CX0 k f fd ps sp) (b : Binds K fd ps []) : Cal P w K mg base k x ps sp := ⟨f, fd, G, g, F.kp, b⟩
theorem calG_of {x : Str} {st : Stmt} {f : Addr} {fd : FuncData} {k : Nat} {ps : List Str} {sp : Sp} (F : Fun K x x st f fd) (g : mg x = some (.ref f)) (G : FnG P w K mg base k f fd ps sp) (b : Binds K fd ps []) : CalG P w K mg base k x ps sp := ⟨f, fd, G, g, F.kp, b⟩
theorem tab_in {x : Str} {f c P : Addr} {oc oc2 : Value} {od od2 : Option Addr} {fd : FuncData} {sl sl2 : Array (Option Value)} {vs : Array Value} (a : PySem.W.nsIn K mainGlobals x = some (some (.ref f))) (l : K.lookup f = some ⟨oc, od, .func fd, sl⟩) (hc : fd.code = .ref c) (q : K.lookup c = some ⟨oc2, od2, .fields vs, sl2⟩) (v : vs[11]? = some (.ref P)) :
    PySem.W.tabIn K x = some (c, P) := by
  unfold PySem.W.tabIn
  simp only [a, l, hc, q, v]
theorem tabs_one {P1 : Addr} {x1 : Str} {H : Hp} (h1 : H P1 = some (.tbl #[])) : LamX.Tabs [(P1, x1)] H := by
  intro p hp
  rw [List.mem_singleton] at hp
  subst hp
  exact .nil h1
theorem one_tab {P1 : Addr} {x1 : Str} : ∀ p ∈ [(P1, x1)], p.1 = P1 → p.2 = x1 := by
  intro p hp e
  rw [List.mem_singleton] at hp
  subst hp
  rfl
theorem all_mk {l : PySem.W.OpenLaw} {q : Program} {dL_law : DefRec} {h : Heap} {fa f_size f_others f_begun f_draw f_like f_signed f_grid f_place f_starts f_heard f_right f_law f_init CT CM CN cd_law P_law : Addr} (X : K.In h) (G : h.Ns mainGlobals mg) (hfa : mg "law" = some (.ref fa)) (TO : TabsOf q K h)
    {nmC qC NC bsC bmC snC subC abC colC ddC k0C k1C k2C k3C k5C : _} {tM : Nat} {od_size an_size od_others an_others od_begun an_begun od_draw an_draw od_like an_like od_signed an_signed od_grid an_grid od_place an_place od_starts an_starts od_heard an_heard od_right an_right od_law an_law od_init an_init : Option Addr} {sl_size sl_others sl_begun sl_draw sl_like sl_signed sl_grid sl_place sl_starts sl_heard sl_right sl_law sl_init : Array (Option Value)}
    {odq_law : Option Addr} {slq_law : Array (Option Value)} {ocq_law : Value} {vsq_law : Array Value}
    {oc_size kV_size dc_size pm_size cd_size ct_size oc_others kV_others dc_others pm_others cd_others ct_others oc_begun kV_begun dc_begun pm_begun cd_begun ct_begun oc_draw kV_draw dc_draw pm_draw cd_draw ct_draw oc_like kV_like dc_like pm_like cd_like ct_like oc_signed kV_signed dc_signed pm_signed cd_signed ct_signed oc_grid kV_grid dc_grid pm_grid cd_grid ct_grid oc_place kV_place dc_place pm_place cd_place ct_place oc_starts kV_starts dc_starts pm_starts cd_starts ct_starts oc_heard kV_heard dc_heard pm_heard cd_heard ct_heard oc_right kV_right dc_right pm_right cd_right ct_right oc_law kV_law dc_law pm_law ct_law oc_init kV_init dc_init pm_init cd_init ct_init : Value}
    (a_CT : PySem.W.nsIn K mainGlobals "TallyError" = some (some (.ref CT)))
    (a_CM : PySem.W.nsIn K mainGlobals "TooMany" = some (some (.ref CM)))
    (a_CN : PySem.W.nsIn K mainGlobals "NotFit" = some (some (.ref CN)))
    (o_cls : K.lookup CM = some (excClassObj nmC qC CM NC bsC bmC true snC subC abC colC ddC k0C k1C k2C k3C k5C "ValueError.__new__"))
    (o_vb : PySem.HandSPX.refsVE bmC = true)
    (o_sa : PySem.W.findIn K (.ref CM) "__setattr__" = some (some (.builtin "object.__setattr__")))
    (e_b : PySem.W.subIn K (.ref CM) (.type "BaseException") = some true)
    (e_t : PySem.W.typeIn K (.ref CM) = some (.type "type"))
    (e_k : PySem.W.keepIn K (.ref CM) = true)
    (x_g : PySem.W.findIn K (.ref CM) "__getattribute__" = some (some (.builtin "BaseException.__getattribute__")))
    (x_k : PySem.W.findIn K (.ref CM) "__getattr__" = some none)
    (x_d : PySem.W.hasDictIn K CM = true)
    (x_a : PySem.W.findIn K (.ref CM) "__class__" = some (some (.builtin "object.__class__")))
    (x_n : PySem.W.specialIn K (.builtin "object.__class__") "__get__" = some (some (.builtin "getset_descriptor.__get__")))
    (x_t : PySem.W.takesIn K (.builtin "object.__class__") = some true)
    (x_m : PySem.W.mroIn K CM (.type "object") = some true)
    (x_p : PySem.W.findIn K (.ref CM) "limit" = some none)
    (y_e : PySem.W.exmOne K (.ref CM) (.ref CT) = some true)
    (y_M : PySem.W.kitOne K (.ref CM) (.ref CM) = some true)
    (y_N : PySem.W.kitOne K (.ref CM) (.ref CN) = some false)
    (a_MOST : PySem.W.nsIn K mainGlobals "MOST_OTHERS" = some (some (.int 10000 tM)))
    (a_size : PySem.W.nsIn K mainGlobals "size_of" = some (some (.ref f_size)))
    (l_size : K.lookup f_size = some ⟨oc_size, od_size, .func (PySem.W.fnOf "size_of" "size_of" (defArgs s_size) (defBody s_size) (defScope s_size) .none kV_size dc_size pm_size an_size (cd_size) ct_size), sl_size⟩)
    (c_size : PySem.W.codeIn K (cd_size) "size_of" = true)
    (k_size : PySem.W.keepIn K (.ref f_size) = true)
    (a_others : PySem.W.nsIn K mainGlobals "others" = some (some (.ref f_others)))
    (l_others : K.lookup f_others = some ⟨oc_others, od_others, .func (PySem.W.fnOf "others" "others" (defArgs s_others) (defBody s_others) (defScope s_others) .none kV_others dc_others pm_others an_others (cd_others) ct_others), sl_others⟩)
    (c_others : PySem.W.codeIn K (cd_others) "others" = true)
    (k_others : PySem.W.keepIn K (.ref f_others) = true)
    (a_begun : PySem.W.nsIn K mainGlobals "_law_begun" = some (some (.ref f_begun)))
    (l_begun : K.lookup f_begun = some ⟨oc_begun, od_begun, .func (PySem.W.fnOf "_law_begun" "_law_begun" (defArgs s_begun) (defBody s_begun) (defScope s_begun) .none kV_begun dc_begun pm_begun an_begun (cd_begun) ct_begun), sl_begun⟩)
    (c_begun : PySem.W.codeIn K (cd_begun) "_law_begun" = true)
    (k_begun : PySem.W.keepIn K (.ref f_begun) = true)
    (a_draw : PySem.W.nsIn K mainGlobals "_law_draw" = some (some (.ref f_draw)))
    (l_draw : K.lookup f_draw = some ⟨oc_draw, od_draw, .func (PySem.W.fnOf "_law_draw" "_law_draw" (defArgs s_draw) (defBody s_draw) (defScope s_draw) .none kV_draw dc_draw pm_draw an_draw (cd_draw) ct_draw), sl_draw⟩)
    (c_draw : PySem.W.codeIn K (cd_draw) "_law_draw" = true)
    (k_draw : PySem.W.keepIn K (.ref f_draw) = true)
    (a_like : PySem.W.nsIn K mainGlobals "_law_like" = some (some (.ref f_like)))
    (l_like : K.lookup f_like = some ⟨oc_like, od_like, .func (PySem.W.fnOf "_law_like" "_law_like" (defArgs s_like) (defBody s_like) (defScope s_like) .none kV_like dc_like pm_like an_like (cd_like) ct_like), sl_like⟩)
    (c_like : PySem.W.codeIn K (cd_like) "_law_like" = true)
    (k_like : PySem.W.keepIn K (.ref f_like) = true)
    (a_signed : PySem.W.nsIn K mainGlobals "_law_signed" = some (some (.ref f_signed)))
    (l_signed : K.lookup f_signed = some ⟨oc_signed, od_signed, .func (PySem.W.fnOf "_law_signed" "_law_signed" (defArgs s_signed) (defBody s_signed) (defScope s_signed) .none kV_signed dc_signed pm_signed an_signed (cd_signed) ct_signed), sl_signed⟩)
    (c_signed : PySem.W.codeIn K (cd_signed) "_law_signed" = true)
    (k_signed : PySem.W.keepIn K (.ref f_signed) = true)
    (a_grid : PySem.W.nsIn K mainGlobals "_law_grid" = some (some (.ref f_grid)))
    (l_grid : K.lookup f_grid = some ⟨oc_grid, od_grid, .func (PySem.W.fnOf "_law_grid" "_law_grid" (defArgs s_grid) (defBody s_grid) (defScope s_grid) .none kV_grid dc_grid pm_grid an_grid (cd_grid) ct_grid), sl_grid⟩)
    (c_grid : PySem.W.codeIn K (cd_grid) "_law_grid" = true)
    (k_grid : PySem.W.keepIn K (.ref f_grid) = true)
    (a_place : PySem.W.nsIn K mainGlobals "_law_place" = some (some (.ref f_place)))
    (l_place : K.lookup f_place = some ⟨oc_place, od_place, .func (PySem.W.fnOf "_law_place" "_law_place" (defArgs s_place) (defBody s_place) (defScope s_place) .none kV_place dc_place pm_place an_place (cd_place) ct_place), sl_place⟩)
    (c_place : PySem.W.codeIn K (cd_place) "_law_place" = true)
    (k_place : PySem.W.keepIn K (.ref f_place) = true)
    (a_starts : PySem.W.nsIn K mainGlobals "_law_starts" = some (some (.ref f_starts)))
    (l_starts : K.lookup f_starts = some ⟨oc_starts, od_starts, .func (PySem.W.fnOf "_law_starts" "_law_starts" (defArgs s_starts) (defBody s_starts) (defScope s_starts) .none kV_starts dc_starts pm_starts an_starts (cd_starts) ct_starts), sl_starts⟩)
    (c_starts : PySem.W.codeIn K (cd_starts) "_law_starts" = true)
    (k_starts : PySem.W.keepIn K (.ref f_starts) = true)
    (a_heard : PySem.W.nsIn K mainGlobals "_law_heard" = some (some (.ref f_heard)))
    (l_heard : K.lookup f_heard = some ⟨oc_heard, od_heard, .func (PySem.W.fnOf "_law_heard" "_law_heard" (defArgs s_heard) (defBody s_heard) (defScope s_heard) .none kV_heard dc_heard pm_heard an_heard (cd_heard) ct_heard), sl_heard⟩)
    (c_heard : PySem.W.codeIn K (cd_heard) "_law_heard" = true)
    (k_heard : PySem.W.keepIn K (.ref f_heard) = true)
    (a_right : PySem.W.nsIn K mainGlobals "_law_right" = some (some (.ref f_right)))
    (l_right : K.lookup f_right = some ⟨oc_right, od_right, .func (PySem.W.fnOf "_law_right" "_law_right" (defArgs s_right) (defBody s_right) (defScope s_right) .none kV_right dc_right pm_right an_right (cd_right) ct_right), sl_right⟩)
    (c_right : PySem.W.codeIn K (cd_right) "_law_right" = true)
    (k_right : PySem.W.keepIn K (.ref f_right) = true)
    (a_law : PySem.W.nsIn K mainGlobals "law" = some (some (.ref f_law)))
    (l_law : K.lookup f_law = some ⟨oc_law, od_law, .func (PySem.W.fnOf "law" "law" (defArgs s_law) (defBody s_law) (defScope s_law) .none kV_law dc_law pm_law an_law (.ref cd_law) ct_law), sl_law⟩)
    (c_law : PySem.W.codeIn K (.ref cd_law) "law" = true)
    (k_law : PySem.W.keepIn K (.ref f_law) = true)
    (a_init : PySem.W.findIn K (.ref CM) "__init__" = some (some (.ref f_init)))
    (l_init : K.lookup f_init = some ⟨oc_init, od_init, .func (PySem.W.fnOf "__init__" "TooMany.__init__" (defArgs s_init) (defBody s_init) (defScope s_init) .none kV_init dc_init pm_init an_init (cd_init) ct_init), sl_init⟩)
    (c_init : PySem.W.codeIn K (cd_init) "TooMany.__init__" = true)
    (k_init : PySem.W.keepIn K (.ref f_init) = true)
    (t_init : PySem.W.typeIn K (.ref f_init) = some (.type "function"))
    (m_isinstance : PySem.W.nsIn K mainGlobals "isinstance" = some none)
    (m_int : PySem.W.nsIn K mainGlobals "int" = some none)
    (m_tuple : PySem.W.nsIn K mainGlobals "tuple" = some none)
    (m_len : PySem.W.nsIn K mainGlobals "len" = some none)
    (m_repr : PySem.W.nsIn K mainGlobals "repr" = some none)
    (m_range : PySem.W.nsIn K mainGlobals "range" = some none)
    (m_sum : PySem.W.nsIn K mainGlobals "sum" = some none)
    (m_enumerate : PySem.W.nsIn K mainGlobals "enumerate" = some none)
    (q_law : K.lookup cd_law = some ⟨ocq_law, odq_law, .fields vsq_law, slq_law⟩)
    (v_law : vsq_law[11]? = some (.ref P_law))
    (n_law : K.lookup P_law = none)
    (r_law : (recsOf q).find? (fun e => e.name == ("law" : Str)) = some dL_law) :
    ∃ (fd : FuncData) (cs : List (Addr × Addr)) (sp : Sp), (∀ p ∈ cs, TabK K h p) ∧ (∀ (s : Shared) (u : Value), BindsTo s fd ⟨[u], []⟩ [("script", u)]) ∧
      (∀ (H : Hp) (a : Addr) (ns : List Int), ns.length ≤ 63 → (∀ p ∈ cs, H p.2 = some (.tbl #[])) → SqL K H a (ns.map V.int) → sp [.ref a] H (fun v _ => v = .bl true) fun _ _ _ => False) ∧
      ∀ base : Heap, K.In base → base.Ns mainGlobals mg → (∀ p ∈ cs, LamX.TabB base mg p.1 p.2) → FnG l.prog w K mg base 7 fa fd ["script"] sp := by
  obtain rfl := Value.ref.inj (Option.some.inj (hfa.symm.trans (PySem.W.mg_of X G a_law)))
  have F_size := fun_mk (st := s_size) l_size c_size k_size
  have G_size := PySem.W.mg_of X G a_size
  have B_size := F_size.binds (ps := ["grid"]) fun _ _ _ _ _ _ us hl => match us, hl with | [_], _ => rfl
  have F_others := fun_mk (st := s_others) l_others c_others k_others
  have G_others := PySem.W.mg_of X G a_others
  have B_others := F_others.binds (ps := ["grid"]) fun _ _ _ _ _ _ us hl => match us, hl with | [_], _ => rfl
  have F_begun := fun_mk (st := s_begun) l_begun c_begun k_begun
  have G_begun := PySem.W.mg_of X G a_begun
  have B_begun := F_begun.binds (ps := ["script", "k_so"]) fun _ _ _ _ _ _ us hl => match us, hl with | [_, _], _ => rfl
  have F_draw := fun_mk (st := s_draw) l_draw c_draw k_draw
  have G_draw := PySem.W.mg_of X G a_draw
  have B_draw := F_draw.binds (ps := ["m", "bound"]) fun _ _ _ _ _ _ us hl => match us, hl with | [_, _], _ => rfl
  have F_like := fun_mk (st := s_like) l_like c_like k_like
  have G_like := PySem.W.mg_of X G a_like
  have B_like := F_like.binds (ps := ["got", "due"]) fun _ _ _ _ _ _ us hl => match us, hl with | [_, _], _ => rfl
  have F_signed := fun_mk (st := s_signed) l_signed c_signed k_signed
  have G_signed := PySem.W.mg_of X G a_signed
  have B_signed := F_signed.binds (ps := ["m", "most"]) fun _ _ _ _ _ _ us hl => match us, hl with | [_, _], _ => rfl
  have F_grid := fun_mk (st := s_grid) l_grid c_grid k_grid
  have G_grid := PySem.W.mg_of X G a_grid
  have B_grid := F_grid.binds (ps := ["m", "size_so", "most"]) fun _ _ _ _ _ _ us hl => match us, hl with | [_, _, _], _ => rfl
  have F_place := fun_mk (st := s_place) l_place c_place k_place
  have G_place := PySem.W.mg_of X G a_place
  have B_place := F_place.binds (ps := ["grid_so", "t"]) fun _ _ _ _ _ _ us hl => match us, hl with | [_, _], _ => rfl
  have F_starts := fun_mk (st := s_starts) l_starts c_starts k_starts
  have G_starts := PySem.W.mg_of X G a_starts
  have B_starts := F_starts.binds (ps := ["grid_so"]) fun _ _ _ _ _ _ us hl => match us, hl with | [_], _ => rfl
  have F_heard := fun_mk (st := s_heard) l_heard c_heard k_heard
  have G_heard := PySem.W.mg_of X G a_heard
  have B_heard := F_heard.binds (ps := ["call"]) fun _ _ _ _ _ _ us hl => match us, hl with | [_], _ => rfl
  have F_right := fun_mk (st := s_right) l_right c_right k_right
  have G_right := PySem.W.mg_of X G a_right
  have B_right := F_right.binds (ps := ["m", "size_so", "most"]) fun _ _ _ _ _ _ us hl => match us, hl with | [_, _, _], _ => rfl
  have F_law := fun_mk (st := s_law) l_law c_law k_law
  have G_law := PySem.W.mg_of X G a_law
  have B_law := F_law.binds (ps := ["script"]) fun _ _ _ _ _ _ us hl => match us, hl with | [_], _ => rfl
  have F_init := fun_mk (st := s_init) l_init c_init k_init
  have B_init := F_init.binds (ps := ["self", "limit"]) fun _ _ _ _ _ _ us hl => match us, hl with | [_, _], _ => rfl
  have M_isinstance := PySem.W.mg_none_of X G m_isinstance
  have M_int := PySem.W.mg_none_of X G m_int
  have M_tuple := PySem.W.mg_none_of X G m_tuple
  have M_len := PySem.W.mg_none_of X G m_len
  have M_repr := PySem.W.mg_none_of X G m_repr
  have M_range := PySem.W.mg_none_of X G m_range
  have M_sum := PySem.W.mg_none_of X G m_sum
  have M_enumerate := PySem.W.mg_none_of X G m_enumerate
  have g_CT := PySem.W.mg_of X G a_CT
  have g_CM := PySem.W.mg_of X G a_CM
  have g_CN := PySem.W.mg_of X G a_CN
  have gMO := PySem.W.mg_of X G a_MOST
  have OC : OexC K CM := ⟨⟨_, _, _, _, _, _, _, _, _, _, _, _, _, _, _, o_cls, o_vb⟩, o_sa, e_b, e_t, e_k⟩
  have EX : Exs K mg CT CM CN := ⟨g_CT, g_CM, g_CN, ⟨x_g, x_k, e_b, x_d, x_a, x_n, x_t, x_m⟩, ⟨x_g, x_k, e_b, x_d⟩, x_p, y_e, y_M, y_N⟩
  have HF : HeardF K mg f_heard := ⟨G_heard, F_heard.kp, oc_heard, kV_heard, dc_heard, pm_heard, cd_heard, ct_heard, od_heard, an_heard, sl_heard, l_heard, c_heard, B_heard⟩
  have t_law : PySem.W.tabIn K "law" = some (cd_law, P_law) := tab_in a_law l_law rfl q_law v_law
  have TL := TO _ _ _ _ r_law t_law n_law
  refine ⟨PySem.W.fnOf "law" "law" (defArgs s_law) (defBody s_law) (defScope s_law) .none kV_law dc_law pm_law an_law (.ref cd_law) ct_law, [(cd_law, P_law)], spLaw [(P_law, "law.<locals>.<lambda>")] K, ?_, fun s v => .of_eq rfl, ?_, ?_⟩
  · intro p hp
    rw [List.mem_singleton] at hp
    subst hp
    exact TL
  · intro H a ns hl hT hS
    exact ⟨a, ns, rfl, hS, hl, tabs_one (hT _ (List.mem_cons_self)), fun _ => rfl⟩
  intro base KB NB TB
  have tL := TB _ (List.mem_cons_self)
  have TM : TmT l.prog w K mg base CM := ⟨g_CM, OC, f_init, _, a_init, t_init, ok_init F_init OC x_p, B_init⟩
  have C_size := cal_of (P := l.prog) (w := w) (base := base) F_size G_size (ok_size F_size M_enumerate) B_size
  have C_others := cal_of (P := l.prog) (w := w) (base := base) F_others G_others (ok_others F_others C_size gMO M_enumerate M_range M_tuple) B_others
  have C_begun := cal_of (P := l.prog) (w := w) (base := base) F_begun G_begun (ok_begun F_begun M_int) B_begun
  have C_draw := cal_of (P := l.prog) (w := w) (base := base) F_draw G_draw (ok_draw F_draw M_int M_len) B_draw
  have C_like := calG_of (P := l.prog) (w := w) (base := base) F_like G_like (ok_like F_like M_repr) B_like
  have C_signed := cal_of (P := l.prog) (w := w) (base := base) F_signed G_signed (ok_signed F_signed C_draw) B_signed
  have C_grid := cal_of (P := l.prog) (w := w) (base := base) F_grid G_grid (ok_grid F_grid C_draw M_tuple M_range) B_grid
  have C_place := cal_of (P := l.prog) (w := w) (base := base) F_place G_place (ok_place F_place M_len M_range M_sum M_int M_tuple) B_place
  have C_starts := cal_of (P := l.prog) (w := w) (base := base) F_starts G_starts (ok_starts F_starts M_len M_range) B_starts
  have C_right := calG_of (P := l.prog) (w := w) (base := base) F_right G_right (ok_right F_right C_grid C_starts C_others C_like C_signed C_place M_tuple M_range M_len) B_right
  have X_others : CalX l.prog w K mg base 3 "others" ["grid"] (spMany CM) := ⟨_, _, ok_many F_others TM C_size gMO, G_others, F_others.kp, B_others⟩
  exact ok_law l_law c_law tL (List.mem_cons_self) one_tab HF EX C_begun C_draw C_right C_like C_others X_others M_isinstance M_range M_len
end
end K15
open PySem PySem.W PyProof.Rows
set_option maxHeartbeats 0 in
theorem PySem.Challenge.cw_pointtally_k15_whole_other_cosets_holds : PySem.Challenge.rw_pointtally_k15_whole_other_cosets.Holds := by
  w_on; o_law; k_head; (case hw => w_witness2)
  k_fill
  refine Vk.walk_ofT (l := PySem.Challenge.rw_pointtally_k15_whole_other_cosets) (n := 63) (k := 7) (x := "script") rfl (by decide) rfl ⟨rfl, by decide, by decide⟩ (fun w h Y => PySem.W.km_in_of Y) ?F
  case F =>
    intro w mg fa h KX G hmg TO
    refine' K15.all_mk KX G hmg TO ?a_CT ?a_CM ?a_CN ?o_cls ?o_vb ?o_sa ?e_b ?e_t ?e_k ?x_g ?x_k ?x_d ?x_a ?x_n ?x_t ?x_m ?x_p ?y_e ?y_M ?y_N ?a_MOST ?a_size ?l_size ?c_size ?k_size ?a_others ?l_others ?c_others ?k_others ?a_begun ?l_begun ?c_begun ?k_begun ?a_draw ?l_draw ?c_draw ?k_draw ?a_like ?l_like ?c_like ?k_like ?a_signed ?l_signed ?c_signed ?k_signed ?a_grid ?l_grid ?c_grid ?k_grid ?a_place ?l_place ?c_place ?k_place ?a_starts ?l_starts ?c_starts ?k_starts ?a_heard ?l_heard ?c_heard ?k_heard ?a_right ?l_right ?c_right ?k_right ?a_law ?l_law ?c_law ?k_law ?a_init ?l_init ?c_init ?k_init ?t_init ?m_isinstance ?m_int ?m_tuple ?m_len ?m_repr ?m_range ?m_sum ?m_enumerate ?q_law ?v_law ?n_law ?r_law
    (case a_CT => k_is)
    (case a_CM => k_is)
    (case a_CN => k_is)
    (case o_cls => k_is)
    (case o_vb => kernel_rfl)
    (case o_sa => k_is)
    (case e_b => k_is)
    (case e_t => k_is)
    (case e_k => k_is)
    (case x_g => k_is)
    (case x_k => k_is)
    (case x_d => k_is)
    (case x_a => k_is)
    (case x_n => k_is)
    (case x_t => k_is)
    (case x_m => k_is)
    (case x_p => k_is)
    (case y_e => kernel_rfl)
    (case y_M => kernel_rfl)
    (case y_N => kernel_rfl)
    (case a_MOST => k_is)
    (case a_size => k_is)
    (case l_size => k_is)
    (case c_size => k_is)
    (case k_size => k_is)
    (case a_others => k_is)
    (case l_others => k_is)
    (case c_others => k_is)
    (case k_others => k_is)
    (case a_begun => k_is)
    (case l_begun => k_is)
    (case c_begun => k_is)
    (case k_begun => k_is)
    (case a_draw => k_is)
    (case l_draw => k_is)
    (case c_draw => k_is)
    (case k_draw => k_is)
    (case a_like => k_is)
    (case l_like => k_is)
    (case c_like => k_is)
    (case k_like => k_is)
    (case a_signed => k_is)
    (case l_signed => k_is)
    (case c_signed => k_is)
    (case k_signed => k_is)
    (case a_grid => k_is)
    (case l_grid => k_is)
    (case c_grid => k_is)
    (case k_grid => k_is)
    (case a_place => k_is)
    (case l_place => k_is)
    (case c_place => k_is)
    (case k_place => k_is)
    (case a_starts => k_is)
    (case l_starts => k_is)
    (case c_starts => k_is)
    (case k_starts => k_is)
    (case a_heard => k_is)
    (case l_heard => k_is)
    (case c_heard => k_is)
    (case k_heard => k_is)
    (case a_right => k_is)
    (case l_right => k_is)
    (case c_right => k_is)
    (case k_right => k_is)
    (case a_law => k_is)
    (case l_law => k_is)
    (case c_law => k_is)
    (case k_law => k_is)
    (case a_init => k_is)
    (case l_init => k_is)
    (case c_init => k_is)
    (case k_init => k_is)
    (case t_init => k_is)
    (case m_isinstance => k_is)
    (case m_int => k_is)
    (case m_tuple => k_is)
    (case m_len => k_is)
    (case m_repr => k_is)
    (case m_range => k_is)
    (case m_sum => k_is)
    (case m_enumerate => k_is)
    (case q_law => k_is)
    (case v_law => rfl)
    (case n_law => kernel_rfl)
    (case r_law => rfl)
