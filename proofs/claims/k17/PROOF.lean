import PyProof.Rows.All
import Wide.All
import OpenK.AllK
import Wide.FinOn
import HandS.Base
import HandS.Call
import HandS.List
import HandS.Comp
import HandS.Ends
import HandS.Dict
import HandS.Iter
import HandS.Words
import HandS.WordsList
import HandS.WordsDict
import HandS.Exc
import HandS.TryOnly
import HandS.ExcOwn
import HandS.Lambda
import HandS.IsInst
import HandS.Wide
import PyProof.ReprRoads
import PyProof.ReprBulk
import PyProof.FitsInt
import HandS.ExcIs
import HandS.EndTab
import KE.KNest
import HandS.Walk
import KE.GoesZip
import KE.GoesMore
import KE.GoesEnum
import HandS.Star
import HandS.TupAny
import HandS.ExcField
import HandS.ExcInit
import KE.KExcIs
import HandS.TupMul
import KE.KEqDeep
import HandS.WordsExc
import HandS.ExcValue
import KE.KMathGC
import HandS.Gcd
import PySem.Challenge.RW_pointtally_k17_whole_amounts
set_option Elab.async false
set_option linter.all false
set_option maxRecDepth 100000
set_option maxHeartbeats 4000000
set_option exponentiation.threshold 20000
/-! Promises that know that nothing is being shown around them (so that repr tells its whole text). -/
namespace Vk
open PySem PySem.Spec PyProof.Rows L2

/-- nothing is being shown -/
def Quiet (A : Around) : Prop := A.guards = some []
theorem Quiet.deeper {A : Around} (q : Quiet A) (env : Env) : Quiet (A.deeper env) := by
  unfold Quiet at q ⊢
  first
    | exact q
    | (show pushGuards _ A.guards = some []; rw [q]; rfl)
    | simpa [Around.deeper, Around.under, q] using q

/-- a def's promise where nothing is being shown -/
structure FnG (P : Program) (w : World) (K : PySem.W.Frag) (mg : Str → Option Value) (base : Heap) (k : Nat) (f : Addr) (fd : FuncData) (ps : List Str) (sp : Sp) : Prop where
  len : ∀ vs H Q E, sp vs H Q E → vs.length = ps.length
  run : ∀ (A : Around) (outer : List Env) (s : Shared) (H : Hp) (args : Args) (us : List Value) (vs : List V) (Q : VK) (E : XK),
    Quiet A → Room k A → Env0 P w K mg base A outer s H → BindsTo s fd args (ps.zip us) → Vals vs us → sp vs H Q E →
      codeAny (model P w) A (.call (.ref f) args) (CR CX0 outer P w H s Q E) s

section
variable {P : Program} {w : World} {K : PySem.W.Frag} {mg : Str → Option Value} {base : Heap}
/-- a body's end is the call's end -/
theorem endsG {N : List Str} {qual : Str} {scope : Scope} {f : Addr} {cdv : Value} {A : Around} {outer : List Env} {s s' : Shared} {H : Hp} {Q : VK} {E : XK} {fl : Flow}
    (h : SP (cxOf CX0 P w K mg base N qual scope f cdv A outer s H E) [] { nx := fun _ H' => Q .non H', rt := Q } fl s') :
    ∃ u, (match fl with | .ret v => v | _ => Value.none) = u ∧ CE outer P w H s Q u s' ∧ (fl = .next ∨ ∃ v, fl = .ret v) := by
  cases fl with
  | next =>
    obtain ⟨σ', H', J, q⟩ := h
    exact ⟨_, rfl, ⟨.non, H', J.os, J.bare, J.base, J.hok, rfl, q⟩, .inl rfl⟩
  | ret v =>
    obtain ⟨x, σ', H', J, rv, q⟩ := h
    exact ⟨_, rfl, ⟨x, H', J.os, J.bare, J.base, J.hok, rv, q⟩, .inr ⟨v, rfl⟩⟩
  | brk =>
    obtain ⟨_, _, _, q⟩ := h
    exact q.elim
  | cont =>
    obtain ⟨_, _, _, q⟩ := h
    exact q.elim
/-- a def, by its body: its code object is told -/
theorem fnG_of {x qual : Str} {st : Stmt} {f : Addr} {N ps : List Str} {k : Nat} {sp : Sp} {oc kV doc pm cdv ct : Value} {od an : Option Addr} {osl : Array (Option Value)}
    (lk : K.lookup f = some ⟨oc, od, .func (PySem.W.fnOf x qual (defArgs st) (defBody st) (defScope st) .none kV doc pm an cdv ct), osl⟩) (hcd : PySem.W.codeIn K cdv qual = true) (S : FnScope N ps (defScope st))
    (len : ∀ vs H Q E, sp vs H Q E → vs.length = ps.length)
    (hbody : ∀ (A : Around) (outer : List Env) (s : Shared) (H : Hp) (vs : List V) (Q : VK) (E : XK),
      Quiet A → Room k (A.deeper (envOfC qual (defScope st) s.heap.objs.size f cdv)) → sp vs H Q E →
        ∃ t, PSs (cxOf CX0 P w K mg base N qual (defScope st) f cdv A outer s H E).nox (defBody st) t ∧ t { nx := fun _ H' => Q .non H', rt := Q } (start N vs) H) :
    FnG P w K mg base (k + 1) f (PySem.W.fnOf x qual (defArgs st) (defBody st) (defScope st) .none kV doc pm an cdv ct) ps sp := by
  refine ⟨len, fun A outer s H args us vs Q E hG hr e0 hb r hsp => ?_⟩
  have inK : K.In s.heap := e0.mod.kin.keeps fun b o e => (e0.bs b o e).left
  have noL : s.heap.NoLimit := e0.mod.nolimit.keeps fun b o e => (e0.bs b o e).left
  have hpar : ∀ y ∈ ps.zip us, (defScope st).names.lookup y.1 = some .local ∨
      ((defScope st).names.lookup y.1 = some .cell ∧ ((cellsFrom (s.heap.objs.size + 1) (defScope st).names []).lookup y.1).isSome = true) := by
    rintro ⟨n, v⟩ hy
    cases S.par n (List.of_mem_zip hy).left with
    | inl q => exact .inl q
    | inr q => exact .inr ⟨q, PySem.W.cellsFrom_some _ _ _ (.inl q)⟩
  have bnd := hb
  refine codeAny_call_function hr.depth (inK _ _ lk) rfl S.co S.gen rfl
    (PySem.W.codeRec_of inK hcd) (bnd _ _ _ _ ?_)
  refine wpAny_newFunctionEnv_cells S.kind hpar
    fun env he s1 x => ?_
  subst he
  refine ⟨noL.keeps x.toInCall.keep,
    codeAny_func ?_⟩
  obtain ⟨t, ht, hq⟩ := hbody A outer s H vs Q E hG (hr.deeper _) hsp
  have J := inv_start (CX := CX0) (P := P) (w := w) (K := K) (mg := mg) (base := base) (qual := qual) (f := f) (cd := cdv) (E := E) S hr.hd e0 (len _ _ _ _ hsp) r x
  refine wpAny_mono (ht.nox.run [] s1 _ H _ J hq) (fun fl s' hs => ?_)
    (fun e s' hs => hs)
  obtain ⟨u, hu, hce, hfl⟩ := endsG hs
  rcases hfl with rfl | ⟨v, rfl⟩
  · obtain rfl := hu
    exact hce
  · obtain rfl := hu
    exact hce
/-- a def of the text, by its body -/
theorem okG {x qual : Str} {st : Stmt} {f : Addr} {fd : FuncData} {N ps : List Str} {k : Nat} {sp : Sp} (F : Fun K x qual st f fd) (S : FnScope N ps (defScope st))
    (len : ∀ vs H Q E, sp vs H Q E → vs.length = ps.length)
    (hbody : ∀ (cdv : Value) (A : Around) (outer : List Env) (s : Shared) (H : Hp) (vs : List V) (Q : VK) (E : XK),
      Quiet A → Room k (A.deeper (envOfC qual (defScope st) s.heap.objs.size f cdv)) → sp vs H Q E →
        ∃ t, PSs (cxOf CX0 P w K mg base N qual (defScope st) f cdv A outer s H E).nox (defBody st) t ∧ t { nx := fun _ H' => Q .non H', rt := Q } (start N vs) H) :
    FnG P w K mg base (k + 1) f fd ps sp := by
  obtain ⟨oc, od, kV, doc, pm, an, cdv, ct, osl, rfl, lk, hcd⟩ := F.ex
  exact fnG_of lk hcd S len fun A outer s H vs Q E => hbody cdv A outer s H vs Q E
end

section
variable {X : Cx} {k : Nat} {f : Addr} {fd : FuncData} {ps : List Str} {sp : Sp} {E : XK} {x : Str} {p pos : Pos} {e : Expr} {es : List Expr} {t : TA}
/-- a call of such a def -/
theorem pe_callG (hG : Quiet X.A) (F : FnG X.prog X.w X.K X.mg X.base k f fd ps sp) (hr : Room k X.A) (hg : Gl X x) (hm : X.mg x = some (.ref f)) (hk : PySem.W.keepIn X.K (.ref f) = true) (hb : Binds X.K fd ps [])
    (ha : PA X (e :: es) t) (hdb : (x == ("__debug__" : Str)) = false := by decide) (he : starEach (e :: es) X.env = (false, eval e X.env) :: starEach es X.env := by rfl)
    (hpl : (backTo pos (starEach es X.env)).any (·.1) = false := by rfl) :
    PE X (.Call (.Name x p) (e :: es) [] pos) (fun σ H Q => t σ H fun vs H1 => sp vs H1 Q E) := by
  refine ⟨fun pins s σ H Q I h => wpAny_Call_Name_kw (ld_glob I hg hm ?_ hdb)⟩
  refine PySem.W.callWith_K (h₀ := X.base) I.ok.mod.kin hk (thn (ha.run pos pins s σ H _ I h) ?_) he hpl
  rintro us s1 ⟨vs, H1, I1, r, q⟩
  refine ⟨I1.kIn, ?_⟩
  have hl : us.length = ps.length := r.length.symm.trans (F.len _ _ _ _ q)
  have hbt := hb s1 us I1.kIn (by rw [List.append_nil]; exact hl)
  rw [List.append_nil] at hbt
  refine wpAny_call (codeAny_mono (F.run X.A X.stack s1 H1 ⟨us, []⟩ us vs Q E hG hr I1.env0 hbt r q) ?_)
  intro r2 s2 hq
  match r2, hq with
  | .error e, hq => exact False.elim hq
  | .ok (.ret u), hq => exact I1.after hq
end

/-! ### repr -/
/-- the text of a value's data -/
def rRep (K : PySem.W.Frag) : List V → Hp → VK → Prop := fun xs H Q => ∃ x d, xs = [x] ∧ Dp K H x d ∧ d.showable = true ∧ d.hasDict = false ∧ d.depth ≤ 60 ∧ d.shown.length ≤ sizeLine ∧ Q (.str d.shown) H
theorem call_rep {X : Cx} (hG : Quiet X.A) (hu : X.A.units + 64 < cLine) : CallR X (.builtin "repr") (rRep X.K) := by
  intro pins s σ H xs us Q I r h
  obtain ⟨x, d, rfl, hD, hs, hd, hdep, hz, q⟩ := h
  obtain ⟨u, rfl, ru⟩ := vals1 r
  obtain ⟨as, hr⟩ := Dp.reads I d x u hD ru
  cases hD with
  | non =>
    cases ru
    exact PySem.P.repr_of_none ⟨.str _, H, I.tok _, ⟨_, rfl⟩, by simpa only [PyData.shown] using q⟩
  | bl b =>
    cases ru
    exact PySem.P.repr_of_bool ⟨.str _, H, I.tok _, ⟨_, rfl⟩, by simpa only [PyData.shown] using q⟩
  | int i =>
    obtain ⟨t, rfl⟩ := ru
    exact PySem.P.repr_of_int (by simpa [PyData.showable] using hs) ⟨.str _, H, I.tok _, ⟨_, rfl⟩, by simpa only [PyData.shown] using q⟩
  | str z =>
    obtain ⟨t, rfl⟩ := ru
    exact PySem.P.repr_of_str ⟨.str _, H, I.tok _, ⟨_, rfl⟩, by simpa only [PyData.shown] using q⟩ (by simpa only [PyData.shown] using hz)
  | lst h1 h2 =>
    cases ru
    exact repr_of_reads' hr hs (PyData.noDict_hsm hd) hG (by omega) (fun _ _ e => e) (fun h' u tk hk => ⟨.str _, H, I.kept hk, ⟨_, rfl⟩, q⟩) hz
  | tup h1 h2 =>
    cases ru
    exact repr_of_reads' hr hs (PyData.noDict_hsm hd) hG (by omega) (fun _ _ e => e) (fun h' u tk hk => ⟨.str _, H, I.kept hk, ⟨_, rfl⟩, q⟩) hz
end Vk

namespace Vk
open PySem PySem.Spec PyProof.Rows L2
/-! ### defs by their names -/
/-- the def of this name keeps the promise -/
def Cal (P : Program) (w : World) (K : PySem.W.Frag) (mg : Str → Option Value) (base : Heap) (k : Nat) (x : Str) (ps : List Str) (sp : Sp) : Prop :=
  ∃ f fd, FnOk P w K mg base CX0 k f fd ps sp ∧ mg x = some (.ref f) ∧ PySem.W.keepIn K (.ref f) = true ∧ Binds K fd ps []
def CalG (P : Program) (w : World) (K : PySem.W.Frag) (mg : Str → Option Value) (base : Heap) (k : Nat) (x : Str) (ps : List Str) (sp : Sp) : Prop :=
  ∃ f fd, FnG P w K mg base k f fd ps sp ∧ mg x = some (.ref f) ∧ PySem.W.keepIn K (.ref f) = true ∧ Binds K fd ps []
/-- the reading of a call -/
def tCal (sp : Sp) (t : TA) : TE := fun σ H Q => t σ H fun vs H1 => sp vs H1 Q E0
section
variable {X : Cx} {k : Nat} {ps : List Str} {sp : Sp} {x : Str} {p pos : Pos} {e : Expr} {es : List Expr} {t : TA}
theorem call_ (C : Cal X.prog X.w X.K X.mg X.base k x ps sp) (hr : Room k X.A) (hg : Gl X x) (ha : PA X (e :: es) t) (hdb : (x == ("__debug__" : Str)) = false := by decide)
    (he : starEach (e :: es) X.env = (false, eval e X.env) :: starEach es X.env := by rfl) (hpl : (backTo pos (starEach es X.env)).any (·.1) = false := by rfl) :
    PE X (.Call (.Name x p) (e :: es) [] pos) (tCal sp t) := by
  obtain ⟨f, fd, F, hm, hk, hb⟩ := C
  refine ⟨fun pins s σ H Q I h => ?_⟩
  refine (pe_call F hr hg hm hk hb .nil pass0 ha hdb he hpl).run pins s σ H Q I ?_
  show t σ H fun vs H1 => sp (vs ++ []) H1 Q E0
  have e0 : (fun vs H1 => sp (vs ++ []) H1 Q E0) = fun vs H1 => sp vs H1 Q E0 := by
    funext vs H1
    rw [List.append_nil]
  rw [e0]
  exact h
theorem callG (hG : Quiet X.A) (C : CalG X.prog X.w X.K X.mg X.base k x ps sp) (hr : Room k X.A) (hg : Gl X x) (ha : PA X (e :: es) t) (hdb : (x == ("__debug__" : Str)) = false := by decide)
    (he : starEach (e :: es) X.env = (false, eval e X.env) :: starEach es X.env := by rfl) (hpl : (backTo pos (starEach es X.env)).any (·.1) = false := by rfl) :
    PE X (.Call (.Name x p) (e :: es) [] pos) (tCal sp t) := by
  obtain ⟨f, fd, F, hm, hk, hb⟩ := C
  exact ⟨fun pins s σ H Q I h => (pe_callG hG F hr hg hm hk hb ha hdb he hpl).run pins s σ H Q I h⟩
end
/-! ### ints of any size -/
def CDivX (_ j : Int) : Prop := j ≠ 0 ∧ j.natAbs.log2 < 9000
theorem op_fdivX {X : Cx} : OpR X (binaryOp .FloorDiv) (rI CDivX fun i j => .int (i.fdiv j)) :=
  opI fun _ _ _ _ _ _ _ hc q => floordiv_int hc.1 q (.inl (PyProof.noPylong_of_log2 hc.2))
/-! ### heaps -/
/-- all but what stands at m stays -/
def SameBut (m : Addr) (H H' : Hp) : Prop := ∀ b o, b ≠ m → H b = some o → H' b = some o
theorem SameBut.refl (m : Addr) (H : Hp) : SameBut m H H := fun _ _ _ h => h
theorem SameBut.trans {m : Addr} {H H1 H2 : Hp} (a : SameBut m H H1) (b : SameBut m H1 H2) : SameBut m H H2 := fun c o n h => b c o n (a c o n h)
theorem SameBut.of {m : Addr} {H H1 : Hp} (a : Same H H1) : SameBut m H H1 := fun c o _ h => a c o h
theorem same_new {H : Hp} {p : Addr} {o : HO} (h : H p = none) : Same H (upd H p o) := fun b x e => by
  rw [upd_ne (ne_of_none e h)]
  exact e
theorem but_put {H : Hp} {m : Addr} {o : HO} : SameBut m H (upd H m o) := fun b x n e => by
  rw [upd_ne n]
  exact e
end Vk

namespace Vk
open PySem PySem.Spec PyProof.Rows L2
theorem same_put {H H1 : Hp} {q : Addr} {o : HO} (s : Same H H1) (hq : H q = none) : Same H (upd H1 q o) := fun b x e => by
  rw [upd_ne (ne_of_none e hq)]
  exact s b x e
theorem cut_ints (ns : List Int) (a b : Option Int) : ∃ l : List Int, cutV (ns.map V.int) a b = l.map V.int ∧ l.length ≤ ns.length := by
  refine ⟨(ns.drop (HT.sIx (ns.map V.int).length 0 a)).take (HT.sIx (ns.map V.int).length (ns.map V.int).length b - HT.sIx (ns.map V.int).length 0 a), ?_, ?_⟩
  · unfold cutV
    rw [← List.map_drop, ← List.map_take]
  · rw [List.length_take, List.length_drop]
    omega
/-- a list of ints as data -/
theorem dp_ints {K : PySem.W.Frag} {H : Hp} : ∀ ns : List Int, DpAll K H (ns.map V.int) (ns.map PyData.int)
  | [] => .nil
  | n :: r => .cons (.int n) (dp_ints r)
theorem lay_ints : ∀ ns : List Int, PyData.canLayAll0 (ns.map PyData.int) = true ∧ PyData.depthAll (ns.map PyData.int) = 0
  | [] => ⟨by simp [PyData.canLayAll0], by simp [PyData.depthAll]⟩
  | n :: r => by
    obtain ⟨h1, h2⟩ := lay_ints r
    exact ⟨by simp [PyData.canLayAll0, PyData.canLay0, h1], by simp [PyData.depthAll, PyData.depth, h2]⟩
theorem shaped_ints (ns : List Int) : SeqAt.shaped (.list (ns.map PyData.int)) = true := by
  obtain ⟨h1, h2⟩ := lay_ints ns
  simp [SeqAt.shaped, PyData.canLay0, PyData.depth, h1, h2]
end Vk

namespace Vk
open PySem PySem.Spec PyProof.Rows L2
/-- both ways of a conditional expression lead to what follows -/
theorem tif_both {c : Bool} {ta tb : TE} {σ : L2.St} {H : Hp} {Q : VK} (Good : V → Prop) (hQ : ∀ v, Good v → Q v H) (ha : c = true → (∀ v, Good v → Q v H) → ta σ H Q) (hb : c = false → (∀ v, Good v → Q v H) → tb σ H Q) :
    if c = true then ta σ H Q else tb σ H Q := by
  cases c with
  | true => exact iteT (ha rfl hQ)
  | false => exact iteF (hb rfl hQ)
end Vk
/-! The end of a law row for a promise of the quiet kind. -/
namespace Vk
open PySem PySem.Spec PyProof.Rows L2

section
variable {P : Program} {w : World} {K : PySem.W.Frag} {mg mb : Str → Option Value} {k : Nat} {fa a : Addr} {fd : FuncData} {x : Str} {sp : Sp} {s₁ : Shared} {vs : List Value} {ns : List Int}
/-- from one abstract heap that holds -/
theorem law_coreG (H : Hp) (KX : K.In s₁.heap) (hns : s₁.heap.Ns mainGlobals mg) (hb : s₁.heap.Ns builtinsNs mb) (hbb : ∀ x : Str, x ≠ "__name__" → mb x = bootBuiltins x) (hlim : s₁.heap.NoLimit) (hg : s₁.gens = #[])
    (ha : s₁.heap.get? a = some { cls := .type "list", data := .seq vs.toArray }) (hr : Room k callerA)
    (F : ∀ base : Heap, K.In base → base.Ns mainGlobals mg → FnG P w K mg base k fa fd [x] sp) (hbind : ∀ (s : Shared) (u : Value), BindsTo s fd ⟨[u], []⟩ [(x, u)])
    (hO : Only H) (hsp : sp [.ref a] H (fun v _ => v = .bl true) fun _ _ _ => False) (hok : HOk P w H s₁.heap) (hA : ∀ b u, H b = some u → b = a) (hK : ∀ u, H a = some u → K.lookup a = none) :
    codeAny (model P w) callerA (.call (.ref fa) ⟨[.ref a], []⟩) (fun r s' => r = .ok (.ret (.bool true)) ∧ OldK s₁.heap s'.heap ∧ s'.os = s₁.os ∧ AllBare s'.gens) s₁ := by
  have free : ∀ {b : Addr} {o : Obj}, s₁.heap.get? b = some o → (∀ n, o.data ≠ .seq vs.toArray n) → H b = none := fun {b o} e d => by
    cases q : H b with
    | none => rfl
    | some u =>
      obtain rfl := hA b u q
      rw [ha] at e
      exact absurd rfl (by have := Option.some.inj e; subst this; exact d _)
  have nsK : ∀ {b : Addr} {m : Str → Option Value}, s₁.heap.Ns b m → (hidT s₁.heap H).Ns b m := by
    rintro b m ⟨o, es, ep, e, d, r⟩
    exact ⟨o, es, ep, hidT_get e (free e fun n z => by rw [d] at z; cases z), d, r⟩
  have inB : K.In (hidT s₁.heap H) := fun b o e => by
    refine hidT_get (KX b o e) ?_
    cases q : H b with
    | none => rfl
    | some u =>
      obtain rfl := hA b u q
      rw [hK u q] at e
      cases e
  have lim : (hidT s₁.heap H).NoLimit := by
    obtain ⟨mc, h1, h2⟩ := hlim
    exact ⟨mc, nsK h1, h2⟩
  have M : Mod K mg (hidT s₁.heap H) := { kin := inB, glob := nsK hns, blt := ⟨mb, nsK hb, hbb⟩, nolimit := lim }
  have E : Env0 P w K mg (hidT s₁.heap H) callerA [] s₁ H := by
    refine { frames := rfl, mod := M, bs := fun b o e => of_hidT e, bsz := Nat.le_of_eq (hidT_size _ _), funs := trivial, frf := ?_, hok := hok, bare := .of_eq hg }
    intro b z
    cases (show b ∈ ([] : List Addr) from z)
  have R := (F _ inB (nsK hns)).run callerA [] s₁ H ⟨[.ref a], []⟩ [.ref a] [.ref a] _ _ rfl hr E (hbind s₁ (.ref a)) (.cons rfl .nil) hsp
  refine codeAny_mono R ?_
  intro r s' h
  match r, h with
  | .error e, h => exact False.elim h
  | .ok (.ret u), ⟨v, H', os, bare, un, hok', rv, q⟩ =>
    obtain rfl : v = .bl true := q
    obtain rfl : u = Value.bool true := rv
    refine ⟨rfl, OldK.of_keep fun b o e => ?_, os, bare⟩
    rcases hO b with z | ⟨ob, xs, z⟩
    · refine un.keep b o e z (fun m => ?_) (fun m => ?_)
      · cases (show b ∈ ([] : List Addr) from m)
      · cases m
    · have p1 := (hok b _ z).1
      have p2 := (hok' b _ (un.frzs b ob _ z)).1
      exact p2.trans (p1.symm.trans e)
/-- the law's promise, at the heap behind the top -/
theorem law_callG (KX : K.In s₁.heap) (hns : s₁.heap.Ns mainGlobals mg) (hb : s₁.heap.Ns builtinsNs mb) (hbb : ∀ x : Str, x ≠ "__name__" → mb x = bootBuiltins x) (hlim : s₁.heap.NoLimit) (hg : s₁.gens = #[])
    (ha : s₁.heap.get? a = some { cls := .type "list", data := .seq vs.toArray }) (hi : IntsAre vs ns) (hl : ns.length ≤ sizeLine) (hr : Room k callerA)
    (F : ∀ base : Heap, K.In base → base.Ns mainGlobals mg → FnG P w K mg base k fa fd [x] sp) (hbind : ∀ (s : Shared) (u : Value), BindsTo s fd ⟨[u], []⟩ [(x, u)])
    (hsp : ∀ H : Hp, Only H → SqL K H a (ns.map V.int) → sp [.ref a] H (fun v _ => v = .bl true) fun _ _ _ => False) :
    codeAny (model P w) callerA (.call (.ref fa) ⟨[.ref a], []⟩) (fun r s' => r = .ok (.ret (.bool true)) ∧ OldK s₁.heap s'.heap ∧ s'.os = s₁.os ∧ AllBare s'.gens) s₁ := by
  have rv := vals_ints hi
  cases hk : K.lookup a with
  | some o =>
    have e := (KX a o hk).symm.trans ha
    obtain rfl := Option.some.inj e
    have hO : Only (fun _ => none) := fun _ => .inl rfl
    refine law_coreG (fun _ => none) KX hns hb hbb hlim hg ha hr F hbind hO (hsp _ hO (.inr ⟨_, vs.toArray, _, hk, rfl, rfl, rfl, ?_, ?_⟩)) ?_ ?_ ?_
    · rw [List.size_toArray, hi.length]
      exact hl
    · simpa using rv
    · intro b u z
      cases (show (none : Option HO) = some u from z)
    · intro b u z
      cases (show (none : Option HO) = some u from z)
    · intro u z
      cases (show (none : Option HO) = some u from z)
  | none =>
    let fz : HO := .frz { cls := .type "list", data := .seq vs.toArray } (.lst (ns.map V.int))
    have only : ∀ b u, upd (fun _ => none) a fz b = some u → b = a ∧ u = fz := fun b u z => by
      by_cases e : b = a
      · subst e
        rw [upd_same] at z
        exact ⟨rfl, (Option.some.inj z).symm⟩
      · rw [upd_ne e] at z
        cases z
    have hO : Only (upd (fun _ => none) a fz) := fun b => by
      cases q : upd (fun _ => none) a fz b with
      | none => exact .inl rfl
      | some u =>
        obtain ⟨_, rfl⟩ := only b u q
        exact .inr ⟨_, _, rfl⟩
    refine law_coreG _ KX hns hb hbb hlim hg ha hr F hbind hO (hsp _ hO (.inl (.inr ⟨_, upd_same⟩))) ?_ (fun b u z => (only b u z).1) (fun _ _ => hk)
    intro b u z
    obtain ⟨rfl, rfl⟩ := only b u z
    refine ⟨ha, ?_, vs, _, rv, ha⟩
    rw [List.length_map]
    exact hl
end

/-- the end of the row -/
theorem walk_ofG {l : PySem.W.OpenLaw} {n k : Nat} {q : Program} {loose : List Str} {XP : (Str → Option Value) → Heap → Prop} {YP : World → Heap → Prop} {d : DefRec} {K : Params → PySem.W.Frag} {sp : PySem.W.Frag → Sp} {x : Str}
    (hn : l.most = some n) (hn2 : n ≤ sizeLine) (hdf : d.params.defaults = []) (hr : Room k callerA)
    (hY : ∀ (w : World) (h : Heap), YP w h → (K w.params).In h)
    (F : ∀ (w : World) (mg : Str → Option Value) (fa : Addr) (h : Heap), (K w.params).In h → h.Ns mainGlobals mg → mg d.name = some (.ref fa) →
      ∃ fd : FuncData, (∀ (s : Shared) (u : Value), BindsTo s fd ⟨[u], []⟩ [(x, u)]) ∧
        ∀ base : Heap, (K w.params).In base → base.Ns mainGlobals mg → FnG l.prog w (K w.params) mg base k fa fd [x] (sp (K w.params)))
    (hsp : ∀ (K : PySem.W.Frag) (H : Hp) (a : Addr) (ns : List Int), ns.length ≤ n → Only H → SqL K H a (ns.map V.int) → sp K [.ref a] H (fun v _ => v = .bl true) fun _ _ _ => False) :
    PySem.W.WalkO q loose XP YP l.row.toRowW d [] (fun f vs => PySem.call f vs) := by
  refine Att.attach_call hn hdf ?_
  intro w s₀ s₁ mg mb fa o pm cd doc a vs ns G Y ho hd hcd hmg hobj hints hlen hg
  obtain ⟨fd, hb, hF⟩ := F w mg fa _ (hY w _ Y) G.T.g hmg
  exact law_callG (hY w _ Y) G.T.g G.T.b G.T.builtins G.T.nolimit hg hobj hints (Nat.le_trans hlen hn2) hr hF hb fun H hO hS => hsp _ H a ns hlen hO hS
end Vk
/-! Data that is shown by a short text. -/
namespace Vk
open PySem PySem.Spec PyProof.Rows L2
/-- levels at most k, items at most n, each int of few bits -/
structure FitN (k n : Nat) (d : PyData) : Prop where
  s : d.showable = true
  h : d.hasDict = false
  dp : d.depth ≤ k
  l : d.leavesShort 2000 = true
  b : d.bulk ≤ n
structure FitLN (k n : Nat) (ds : List PyData) : Prop where
  s : PyData.showableAll ds = true
  h : PyData.hasDictAll ds = false
  dp : PyData.depthAll ds ≤ k
  l : PyData.leavesShortAll 2000 ds = true
  b : PyData.bulkAll ds ≤ n
theorem FitLN.nil {k n : Nat} : FitLN k n [] := ⟨by simp [PyData.showableAll], by simp [PyData.hasDictAll], by simp [PyData.depthAll], by simp [PyData.leavesShortAll], by simp [PyData.bulkAll]⟩
theorem FitLN.cons {k a b n : Nat} {d : PyData} {ds : List PyData} (x : FitN k a d) (y : FitLN k b ds) (hn : a + 1 + b ≤ n) : FitLN k n (d :: ds) :=
  ⟨by simp [PyData.showableAll, x.s, y.s], by simp [PyData.hasDictAll, x.h, y.h], by have := x.dp; have := y.dp; simp only [PyData.depthAll]; omega, by simp [PyData.leavesShortAll, x.l, y.l], by have := x.b; have := y.b; simp only [PyData.bulkAll]; omega⟩
theorem FitN.list {k n : Nat} {ds : List PyData} (y : FitLN k n ds) : FitN (k + 1) n (.list ds) :=
  ⟨by simp [PyData.showable, y.s], by simp [PyData.hasDict, y.h], by have := y.dp; simp only [PyData.depth]; omega, by simp [PyData.leavesShort, y.l], by have := y.b; simp only [PyData.bulk]; omega⟩
theorem FitN.tup {k n : Nat} {ds : List PyData} (y : FitLN k n ds) : FitN (k + 1) n (.tuple ds) :=
  ⟨by simp [PyData.showable, y.s], by simp [PyData.hasDict, y.h], by have := y.dp; simp only [PyData.depth]; omega, by simp [PyData.leavesShort, y.l], by have := y.b; simp only [PyData.bulk]; omega⟩
theorem FitN.non {k n : Nat} : FitN k n .none := ⟨by simp [PyData.showable], by simp [PyData.hasDict], by simp [PyData.depth], by simp [PyData.leavesShort], by simp [PyData.bulk]⟩
theorem FitN.bl {k n : Nat} (b : Bool) : FitN k n (.bool b) := ⟨by simp [PyData.showable], by simp [PyData.hasDict], by simp [PyData.depth], by simp [PyData.leavesShort], by simp [PyData.bulk]⟩
theorem FitN.int {k n : Nat} {i : Int} (hi : i.natAbs < 2 ^ 1900) : FitN k n (.int i) := by
  have lg : i.natAbs.log2 < 1900 := PySem.Flt.log2_lt_of (by decide) hi
  refine ⟨by simp only [PyData.showable, decide_eq_true_eq]; omega, by simp [PyData.hasDict], by simp [PyData.depth], ?_, by simp [PyData.bulk]⟩
  have h1 := int_text_length_le (by decide) lg
  have h2 : (PyData.shown (.int i)).length = (Str.ofString (toString i)).length := by simp only [PyData.shown]
  rw [PySem.ofString_length] at h2
  have h3 : (PyData.shown (.int i)).length ≤ 2000 := by omega
  simpa only [PyData.leavesShort, decide_eq_true_eq] using h3
theorem FitN.str {k n : Nat} (x : Str) (h : (x.cps.toList.all fun c => decide (c < 16 ^ 8)) = true) (hn : x.cps.size ≤ n) : FitN k n (.str x) :=
  ⟨by simp [PyData.showable], by simp [PyData.hasDict], by simp [PyData.depth], by simpa only [PyData.leavesShort] using h, by simp only [PyData.bulk]; omega⟩
theorem FitN.mono {k n k' n' : Nat} {d : PyData} (x : FitN k n d) (h1 : k ≤ k') (h2 : n ≤ n') : FitN k' n' d := ⟨x.s, x.h, Nat.le_trans x.dp h1, x.l, Nat.le_trans x.b h2⟩
/-- the text is not too long -/
theorem FitN.len {k n : Nat} {d : PyData} (x : FitN k n d) (hn : n ≤ 8000) : d.shown.length ≤ sizeLine := by
  have h := PyData.shown_le_bulk 2000 (by decide) d x.l
  have h2 : (2000 + 2) * d.bulk ≤ 2002 * 8000 := Nat.mul_le_mul_left _ (Nat.le_trans x.b hn)
  rw [sizeLine_eq]
  omega
/-- the text of a short value -/
def Fit (d : PyData) : Prop := FitN 60 8000 d
theorem rep_ {K : PySem.W.Frag} {H : Hp} {x : V} {d : PyData} {Q : VK} (hD : Dp K H x d) (f : Fit d) (q : Q (.str d.shown) H) : rRep K [x] H Q := ⟨x, d, rfl, hD, f.s, f.h, f.dp, f.len (Nat.le_refl _), q⟩
end Vk
namespace Vk
open PySem PySem.Spec PyProof.Rows L2
/-- both ways of an if lead to what follows -/
theorem tifs_both {c : Bool} {t u : TS} {D : Ends} {σ : L2.St} {H : Hp} (Good : L2.St → Hp → Prop) (hQ : ∀ σ' H', Good σ' H' → D.nx σ' H') (ht : c = true → (∀ σ' H', Good σ' H' → D.nx σ' H') → t D σ H)
    (hu : c = false → (∀ σ' H', Good σ' H' → D.nx σ' H') → u D σ H) : if c = true then t D σ H else u D σ H := by
  cases c with
  | true => exact iteT (ht rfl hQ)
  | false => exact iteF (hu rfl hQ)
theorem SameBut.free {m p : Addr} {H H' : Hp} (s : SameBut m H H') (hm : ∃ o, H' m = some o) (h : H' p = none) : H p = none := by
  cases q : H p with
  | none => rfl
  | some o =>
    by_cases e : p = m
    · subst e
      obtain ⟨o', z⟩ := hm
      rw [h] at z
      cases z
    · have z := s p o e q
      rw [h] at z
      cases z
end Vk
namespace Vk
open PySem PySem.Spec PyProof.Rows L2
/-- both ways of a conditional expression lead to what follows, where they make things -/
theorem tif_bothH {c : Bool} {ta tb : TE} {σ : L2.St} {H : Hp} {Q : VK} (Good : V → Hp → Prop) (hQ : ∀ v H', Good v H' → Q v H') (ha : c = true → (∀ v H', Good v H' → Q v H') → ta σ H Q) (hb : c = false → (∀ v H', Good v H' → Q v H') → tb σ H Q) :
    if c = true then ta σ H Q else tb σ H Q := by
  cases c with
  | true => exact iteT (ha rfl hQ)
  | false => exact iteF (hb rfl hQ)
end Vk
/-! An exception that is caught and kept in a local. -/
namespace Vk
open PySem PySem.Spec PyProof.Rows L2
/-- an exception of the class cls, own dict d, that was caught -/
def ExK (cls : Value) (d : Option Addr) (a : Addr) : HO := .ext fun h => ∃ oe : Obj, h.get? a = some oe ∧ Zc cls d oe ∧ ∃ vs, oe.data = .fields vs
section
variable {X : Cx} {pins : List (Addr × Obj)} {σ : L2.St} {H : Hp} {s : Shared}
/-- what is pinned is tracked from now on -/
theorem keep_pinned {a : Addr} {oe : Obj} {cls : Value} {d : Option Addr} (I : Inv X ((a, oe) :: pins) σ H s) (hz : Zc cls d oe) (hf : ∃ vs, oe.data = .fields vs) (n0 : X.s_0.heap.get? a = none) (np : ∀ p ∈ X.pn ++ pins, p.1 ≠ a) :
    Inv X pins σ (upd H a (ExK cls d a)) s := by
  obtain ⟨ga, na, nL, nF, nc⟩ := I.pin (a, oe) (List.mem_append_right _ List.mem_cons_self)
  have ga : s.heap.get? a = some oe := ga
  have na : H a = none := na
  have nC : ∀ x c, X.env.cells.lookup x = some c → c ≠ a := by
    rintro x c e rfl
    obtain ⟨v, o, ho, hd⟩ := I.cell x c e
    obtain rfl := Option.some.inj (ho.symm.trans ga)
    exact nc v hd
  have off : ∀ b, b ≠ a → upd H a (ExK cls d a) b = H b := fun b hb => upd_ne hb
  have some_ne : ∀ b u, H b = some u → b ≠ a := fun b u e z => by
    rw [z, na] at e
    cases e
  refine { ok := I.ok, os := I.os, bare := I.bare, base := ?_, loc := I.loc, cell := I.cell, free := ?_, freeC := ?_, pin := ?_, hok := ?_, len := I.len }
  · have old : ∀ b o, X.s_0.heap.get? b = some o → b ≠ a := fun b o e z => by
      rw [z, n0] at e
      cases e
    refine { keep := I.base.keep, slot := I.base.slot, free := ?_, there := I.base.there, tups := ?_, frzs := ?_, tbls := ?_ }
    · intro b o e n hx
      rw [off b (old b o e)]
      exact I.base.free b o e n hx
    · intro b xs e
      have q := I.base.tups b xs e
      rw [off b (some_ne b _ q)]
      exact q
    · intro b o u e
      have q := I.base.frzs b o u e
      rw [off b (some_ne b _ q)]
      exact q
    · intro b ps e
      obtain ⟨more, q⟩ := I.base.tbls b ps e
      refine ⟨more, ?_⟩
      rw [off b (some_ne b _ q)]
      exact q
  · rw [off _ (Ne.symm nL)]
    exact I.free
  · intro x c e
    rw [off c (nC x c e)]
    exact I.freeC x c e
  · intro p hp
    have hp' : p ∈ X.pn ++ (a, oe) :: pins := by
      rcases List.mem_append.mp hp with z | z
      · exact List.mem_append_left _ z
      · exact List.mem_append_right _ (List.mem_cons_of_mem _ z)
    obtain ⟨e1, e2, e3, e4, e5⟩ := I.pin p hp'
    refine ⟨e1, ?_, e3, e4, e5⟩
    rw [off p.1 (np p hp)]
    exact e2
  · intro b u e
    by_cases hb : b = a
    · subst hb
      rw [upd_same] at e
      obtain rfl := Option.some.inj e
      exact ⟨⟨oe, ga, hz, hf⟩, ⟨oe, ga⟩, fun h1 h2 ⟨o, q1, q2, q3⟩ st => ⟨o, st o q1, q2, q3⟩⟩
    · rw [off b hb] at e
      refine (I.hok b u e).stay (fun c v _ q => q) (fun c q => ?_) (fun c xs q => ?_)
      · rw [off c (some_ne c _ q)]
        exact q
      · rw [off c (some_ne c _ q)]
        exact q
end
/-- the wish of an except clause that keeps what it caught: the exception is known behind it -/
def wKp (K : PySem.W.Frag) (len : Nat) (c : Value) (i : Nat) (ts : Addr → Value → Option Addr → TS) (D : Ends) : WX := fun cls d σ H =>
  PySem.W.exmOne K cls c = some true ∧ (σ.length = len → ∀ a, H a = none →
    ts a cls d { nx := fun σ' H' => D.nx (σ'.set i none) (upd H' a (ExK cls d a)), rt := fun _ _ => False, bk := fun _ _ => False, ct := fun _ _ => False } (σ.set i (some (.ref a))) H)
section
variable {X : Cx} {x n : Str} {c : Value} {i : Nat} {body suite : List Stmt} {b₀ : Stmt} {np pos pos' : Pos} {tb : WX → TS} {ts : Addr → Value → Option Addr → TS}
/-- what is wanted of an exception of the body: the clauses look at it -/
def landing (X : Cx) (hs : List ExceptHandler) (R : Flow → Shared → Prop) : Value → Shared → Prop := fun e s0 =>
  wpAny (model X.prog X.w) X.A (noteFrame e X.env) (fun _ s1 => wpAny (model X.prog X.w) X.A (setFlight e none)
    (fun _ s2 => wpAny (model X.prog X.w) X.A (handleBy e X.env hs) R X.xe s2) X.xe s1) X.xe s0
/-- try: .. except x as n: suite (the suite runs through) -/
theorem ps_try_keep (hs : X.stack = X.env :: X.outer) (hf : X.env.frame = some X.env.locals) (hex : X.ex = []) (hN : X.N.Nodup) (hi : X.N[i]? = some n) (hln : X.env.kindOf n = some .local) (hc : Names X x c)
    (hb : ∀ (W : WX) (pn : List (Addr × Obj)) (xe : Value → Shared → Prop), Takes (X.tr pn xe) W → PassesOwn (model X.prog X.w) X.A X.env xe → PSs (X.tr pn xe) body (tb W))
    (hsu : ∀ (a : Addr) (oe : Obj) (cls : Value) (d : Option Addr) (pn : List (Addr × Obj)), Zc cls d oe → (∃ vs, oe.data = .fields vs) → PSs (X.suite a ((a, oe) :: pn)) (b₀ :: suite) (ts a cls d)) :
    PS X (.Try body [.ExceptHandler (some (.Name x np)) (some n) (b₀ :: suite) pos'] [] [] pos) (fun D σ H => tb (wKp X.K X.N.length c i ts D) D σ H) := by
  refine ⟨fun pins s σ H D I h => wpAny_Try_except ?_⟩
  have ok := I.ok
  have frm : X.A.frames = some (X.env :: X.outer) := by rw [ok.frames, hs]
  have run := (hb (wKp X.K X.N.length c i ts D) (X.pn ++ pins) (landing X [.ExceptHandler (some (.Name x np)) (some n) (b₀ :: suite) pos'] (SP X pins D)) (fun u s' xx => ?_) PassesOwn.looking).run [] s σ H D (I.toTry _) h
  · refine wpAny_mono run (fun fl s1 hsp => ?_) (fun e s1 he => he)
    match fl, hsp with
    | .next, ⟨σ', H', J, q⟩ => exact wpAny_execs_nil ⟨σ', H', J.ofTry ok, q⟩
    | .brk, ⟨σ', H', J, q⟩ => exact ⟨σ', H', J.ofTry ok, q⟩
    | .cont, ⟨σ', H', J, q⟩ => exact ⟨σ', H', J.ofTry ok, q⟩
    | .ret u, ⟨v, σ', H', J, r, q⟩ => exact ⟨v, σ', H', J.ofTry ok, r, q⟩
  · -- what was raised lands here
    obtain ⟨a, B, sI, pins', σ', H', cls, d, rfl, J', nb, up, sky, na, os, ag, hyes, hgo⟩ := xx
    have J : Inv X pins σ' H' sI := J'.ofTry ok
    have air : Sky B (X.env :: X.outer) a (Zc cls d) X.env.locals s'.heap := by
      rw [← hs]
      exact sky
    show wpAny (model X.prog X.w) X.A (noteFrame (.ref a) X.env) _ _ _
    refine Sky.land Zc.steady frm hf air fun h3 fl3 up3 => ?_
    have J3 : Inv X pins σ' H' { s' with heap := h3 } := J.landed nb fl3.1 (up.trans up3) os ag
    obtain ⟨oe3, vs3, he3, hz3, hd3⟩ := fl3.there
    have nB : B.get? a = none := fl3.2.1
    have nfr : a ∉ frs (X.env :: X.outer) := fun hm => by
      obtain ⟨_, o', e', hnf⟩ := fl3.2.2.1.mem hm
      obtain rfl := Option.some.inj (he3.symm.trans e')
      exact hnf _ hd3
    have nL : a ≠ X.env.locals := fun z => nfr (List.mem_filterMap.mpr ⟨X.env, List.mem_cons_self, by rw [hf, z]⟩)
    have nF : a ∉ X.fs := fun hm => by
      obtain ⟨e, he, q⟩ := List.mem_filterMap.mp hm
      exact nfr (List.mem_filterMap.mpr ⟨e, List.mem_cons_of_mem _ he, q⟩)
    have fresh : ∀ b o, sI.heap.get? b = some o → b ≠ a := by
      rintro b o e rfl
      have z := nb b o e (by rw [hs]; exact nfr)
      rw [nB] at z
      cases z
    have n0 : X.s_0.heap.get? a = none := by
      cases q : X.s_0.heap.get? a with
      | none => rfl
      | some o =>
        obtain ⟨o', z⟩ := J.base.there a o q (by rw [hex]; exact List.not_mem_nil)
        exact absurd rfl (fresh a o' z)
    have npp : ∀ p ∈ X.pn ++ pins, p.1 ≠ a := fun p hp => fresh p.1 p.2 (J.pin p hp).1
    have S3 := J3.suite he3 hd3 na nL nF
    refine wpAny_handleBy_cons (codeAny_handlers_test ?_) (by intro q; cases q)
    have seen : PySem.W.Looks (model X.prog X.w) h3 (typeOf (.ref a)) cls := fun A Q E s k q => wpAny_typeOf_ref (k _ _ he3) (by
      rw [hz3.1]
      exact q)
    have fits := PySem.W.exm_one (M := model X.prog X.w) J3.kIn seen hyes
    have look : ∀ {Q : Value → Shared → Prop} {E : Value → Shared → Prop}, Q c { s' with heap := h3 } → wpAny (model X.prog X.w) (X.A.mark (some (.ref a))) (eval (.Name x np) X.env) Q E { s' with heap := h3 } := by
      intro Q E q
      obtain ⟨hg, hdbg, hm | ⟨hm, hv, hnn⟩⟩ := hc
      · exact ld_glob (X := X.suite a ((a, oe3) :: (X.pn ++ pins))) S3 hg hm q hdbg
      · exact ld_blt (X := X.suite a ((a, oe3) :: (X.pn ++ pins))) S3 hg hm hv q hnn hdbg
    refine look (fits.here (codeAny_handlers_suite_as ?_))
    refine HandSPX.lands_againZ fl3 fun h4 fl4 up4 => ?_
    have J4 : Inv X pins σ' H' { s' with heap := h4 } := J.landed nb fl4.1 ((up.trans up3).trans up4) os ag
    obtain ⟨oe4, vs4, he4, hz4, hd4⟩ := fl4.there
    have S4 := J4.suite he4 hd4 na nL nF
    refine store_ok (X := X.suite a ((a, oe4) :: (X.pn ++ pins))) (v := .ref a) S4 hN hi (.inl hln) rfl (fun s5 S5 => ?_) (.inr hln)
    refine wpAny_mono ((hsu a oe4 cls d (X.pn ++ pins) hz4 ⟨_, hd4⟩).run [] s5 _ H' _ S5 (hgo J.len a na)) (fun fl s6 hsp => ?_) (fun _ _ z => False.elim z)
    match fl, hsp with
    | .brk, ⟨_, _, _, q⟩ => exact False.elim q
    | .cont, ⟨_, _, _, q⟩ => exact False.elim q
    | .ret u, ⟨_, _, _, _, _, q⟩ => exact False.elim q
    | .next, ⟨σ6, H6, S6, q6⟩ =>
      obtain ⟨g6, n6, _⟩ := S6.pin (a, oe4) (List.mem_append_left _ List.mem_cons_self)
      have J6 : Inv X ((a, oe4) :: pins) σ6 H6 s6 := (S6.unsuite ok).pins_of fun p hp => by
        rcases List.mem_cons.mp hp with e | hp
        · rw [e]
          exact ⟨g6, n6, nL, nF, fun v z => by
            have z' : oe4.data = .cell v := z
            rw [hd4] at z'
            cases z'⟩
        · exact (S6.unsuite ok).pin p (List.mem_append_right _ hp)
      exact gone_ok J6 hN hi hln fun s7 J7 => ⟨_, _, keep_pinned J7 hz4 ⟨_, hd4⟩ n0 npp, q6⟩
end
/-- isinstance(e, c), e such an exception -/
def rIsK (K : PySem.W.Frag) (D : Addr) : List V → Hp → VK → Prop := fun xs H Q => ∃ (a : Addr) (c : V) (cv : Value) (b : Bool), xs = [.ref a, c] ∧ H a = some (ExK (.ref D) none a) ∧ ClsV c cv ∧ PySem.W.kitOne K (.ref D) cv = some b ∧ Q (.bl b) H
theorem call_isK {X : Cx} {D : Addr} (C : ExcC X.K D) : CallR X (.builtin "isinstance") (rIsK X.K D) := by
  intro pins s σ H xs us Q I r h
  obtain ⟨a, c, cv, b, rfl, ha, hcv, e, q⟩ := h
  obtain ⟨u1, u2, rfl, r1, r2⟩ := vals2 r
  obtain rfl : u1 = Value.ref a := r1
  obtain rfl := hcv.eq r2
  obtain ⟨⟨oe, g, hz, vs, hv⟩, _, _⟩ := I.hok a _ ha
  have J : PySem.W.InstAt s.heap a oe D none := by
    obtain ⟨oc, od, oda, osl⟩ := oe
    obtain ⟨h1, h2⟩ := hz
    dsimp only at h1 h2 hv
    subst h1 h2 hv
    exact ⟨g, rfl, rfl, trivial⟩
  exact PySem.W.kia_one (PySem.W.handS_kitx_exc C.hg C.hk C.hs C.hd C.ha C.hn C.ht C.hm) I.kIn J e (fun z => nomatch z) fun tk => ⟨.bl b, H, I.kept (t' := tk) fun _ _ z => z, rfl, q⟩
end Vk
/-! The end of a law row for a quiet promise, with the tables of the code objects that hold lambdas. -/
namespace Vk
open PySem PySem.Spec PyProof.Rows L2
/-- what a heap at the law's start tracks -/
inductive Trk (cs : List (Addr × Addr)) (H : Hp) (b : Addr) : Prop
  | no (h : H b = none) : Trk cs H b
  | tab (p : Addr × Addr) (m : p ∈ cs) (e : p.2 = b) (h : H b = some (.tbl #[])) : Trk cs H b
  | frz (o : Obj) (xs : List V) (h : H b = some (.frz o (.lst xs))) : Trk cs H b
/-- what is known of the tables -/
structure TabK (K : PySem.W.Frag) (h : Heap) (p : Addr × Addr) : Prop where
  hd : PySem.W.CodeHd h p.1 p.2
  at_ : h.get? p.2 = some { cls := .none, data := .fields #[] }
  out : K.lookup p.2 = none
/-- the module that the top's names lead to -/
def BMain (mg : Str → Option Value) (h : Heap) : Prop := ∃ bm ob, mg "__builtins__" = some (.ref bm) ∧ bm ≠ builtinsNs ∧ h.get? bm = some ob ∧ ob.cls = .type "module" ∧ ob.dict = some builtinsNs ∧ ob.data = .plain
section
variable {P : Program} {w : World} {K : PySem.W.Frag} {mg mb : Str → Option Value} {k : Nat} {fa a : Addr} {fd : FuncData} {x : Str} {sp : Sp} {s₁ : Shared} {vs : List Value} {ns : List Int} {cs : List (Addr × Addr)}
theorem tabB_hid {H : Hp} {p : Addr × Addr} (T : TabK K s₁.heap p) (fr : ∀ b o, s₁.heap.get? b = some o → o ≠ { cls := .none, data := .fields #[] } → o.cls ≠ .type "list" → H b = none) (hns : s₁.heap.Ns mainGlobals mg) (B : BMain mg s₁.heap) :
    LamX.TabB (hidT s₁.heap H) mg p.1 p.2 := by
  obtain ⟨o, us, file, tf, flags, tg, inF, text, tt, q1, q2, q3, q4, q5⟩ := T.hd
  obtain ⟨bm, ob, b1, b2, b3, b4, b5, b6⟩ := B
  obtain ⟨og, es, ep, g1, g2, g3⟩ := hns
  refine ⟨⟨o, us, file, tf, flags, tg, inF, text, tt, hidT_get q1 (fr _ _ q1 (fun z => ?_) fun z => ?_), q2, q3, q4, q5⟩, ⟨bm, ob, b1, b2, fun z => ?_, fun z => ?_, hidT_get b3 (fr _ _ b3 (fun z => ?_) fun z => ?_), b4, b5, b6⟩, fun z => ?_⟩
  · subst z
    cases q2
  · rw [q2] at z
    exact absurd z (by decide)
  · subst z
    rw [g1] at b3
    obtain rfl := Option.some.inj b3
    rw [b6] at g2
    cases g2
  · subst z
    have y := b3.symm.trans T.at_
    obtain rfl := Option.some.inj y
    cases b4
  · subst z
    cases b4
  · rw [b4] at z
    exact absurd z (by decide)
  · rw [z] at g1
    obtain rfl := Option.some.inj (T.at_.symm.trans g1)
    cases g2
/-- from one abstract heap that holds -/
theorem law_coreT (H : Hp) (KX : K.In s₁.heap) (hns : s₁.heap.Ns mainGlobals mg) (hb : s₁.heap.Ns builtinsNs mb) (hbb : ∀ x : Str, x ≠ "__name__" → mb x = bootBuiltins x) (hlim : s₁.heap.NoLimit) (hg : s₁.gens = #[])
    (TK : ∀ p ∈ cs, TabK K s₁.heap p) (B : BMain mg s₁.heap) (ha : s₁.heap.get? a = some { cls := .type "list", data := .seq vs.toArray }) (hr : Room k callerA)
    (F : ∀ base : Heap, K.In base → base.Ns mainGlobals mg → (∀ p ∈ cs, LamX.TabB base mg p.1 p.2) → FnG P w K mg base k fa fd [x] sp) (hbind : ∀ (s : Shared) (u : Value), BindsTo s fd ⟨[u], []⟩ [(x, u)])
    (trk : ∀ b, Trk cs H b) (hA : ∀ b o xs, H b = some (.frz o (.lst xs)) → b = a) (hK : H a ≠ none → K.lookup a = none) (hok : HOk P w H s₁.heap) (hsp : sp [.ref a] H (fun v _ => v = .bl true) fun _ _ _ => False) :
    codeAny (model P w) callerA (.call (.ref fa) ⟨[.ref a], []⟩) (fun r s' => r = .ok (.ret (.bool true)) ∧ OldK s₁.heap s'.heap ∧ s'.os = s₁.os ∧ AllBare s'.gens) s₁ := by
  have fr : ∀ b o, s₁.heap.get? b = some o → o ≠ { cls := .none, data := .fields #[] } → o.cls ≠ .type "list" → H b = none := fun b o e n1 n2 => by
    cases trk b with
    | no h => exact h
    | tab p m z h =>
      rw [← z, (TK p m).at_] at e
      exact absurd (Option.some.inj e).symm n1
    | frz u xs h =>
      rw [hA b u xs h, ha] at e
      obtain rfl := Option.some.inj e
      exact absurd rfl n2
  have ns_ : ∀ {b : Addr} {m : Str → Option Value}, s₁.heap.Ns b m → (hidT s₁.heap H).Ns b m := by
    rintro b m ⟨o, es, ep, e, d, r⟩
    cases trk b with
    | no h => exact ⟨o, es, ep, hidT_get e h, d, r⟩
    | tab p q z h =>
      rw [← z, (TK p q).at_] at e
      obtain rfl := Option.some.inj e
      cases d
    | frz u xs h =>
      rw [hA b u xs h, ha] at e
      obtain rfl := Option.some.inj e
      cases d
  have inB : K.In (hidT s₁.heap H) := fun b o e => by
    refine hidT_get (KX b o e) ?_
    cases trk b with
    | no h => exact h
    | tab p q z h =>
      rw [← z, (TK p q).out] at e
      cases e
    | frz u xs h =>
      have y := hA b u xs h
      subst y
      rw [hK (by rw [h]; exact fun z => by cases z)] at e
      cases e
  have M : Mod K mg (hidT s₁.heap H) := by
    refine { kin := inB, glob := ns_ hns, blt := ⟨mb, ns_ hb, hbb⟩, nolimit := ?_ }
    obtain ⟨mc, h1, h2⟩ := hlim
    exact ⟨mc, ns_ h1, h2⟩
  have E : Env0 P w K mg (hidT s₁.heap H) callerA [] s₁ H := by
    refine { frames := rfl, mod := M, bs := fun b o e => of_hidT e, bsz := Nat.le_of_eq (hidT_size _ _), funs := trivial, frf := ?_, hok := hok, bare := .of_eq hg }
    intro b z
    cases (show b ∈ ([] : List Addr) from z)
  have R := (F _ inB (ns_ hns) fun p hp => tabB_hid (TK p hp) fr hns B).run callerA [] s₁ H ⟨[.ref a], []⟩ [.ref a] [.ref a] _ _ rfl hr E (hbind s₁ (.ref a)) (.cons rfl .nil) hsp
  refine codeAny_mono R ?_
  intro r s' h
  match r, h with
  | .error e, h => exact False.elim h
  | .ok (.ret u), ⟨v, H', os, bare, un, hok', rv, q⟩ =>
    obtain rfl : v = .bl true := q
    obtain rfl : u = Value.bool true := rv
    have key : ∀ b o, s₁.heap.get? b = some o → s'.heap.get? b = some o ∨ ∃ p ∈ cs, p.2 = b ∧ ∃ more : Array Value, s'.heap.get? b = some { cls := .none, data := .fields more } := fun b o e => by
      cases trk b with
      | no z =>
        refine .inl (un.keep b o e z (fun m => ?_) (fun m => ?_))
        · cases (show b ∈ ([] : List Addr) from m)
        · cases m
      | tab p m z y =>
        obtain ⟨more, y'⟩ := un.tbls b #[] y
        exact .inr ⟨p, m, z, _, hok' b _ y'⟩
      | frz ob xs z =>
        have p1 := (hok b _ z).1
        have p2 := (hok' b _ (un.frzs b ob _ z)).1
        exact .inl (p2.trans (p1.symm.trans e))
    refine ⟨rfl, ⟨fun b o e => ?_, fun b o e => ?_⟩, os, bare⟩
    · rcases key b o e with y | ⟨p, m, rfl, more, y⟩
      · exact .inl y
      · have T := TK p m
        obtain rfl := Option.some.inj (T.at_.symm.trans e)
        refine .inr (.inl ⟨(T.hd.tab T.at_).isCodeTable, rfl, #[], more, rfl, ?_⟩)
        rw [Array.empty_append]
        exact y
    · rcases key b o e with y | ⟨p, m, rfl, more, y⟩
      · exact ⟨o, y⟩
      · exact ⟨_, y⟩
/-- the law's promise, at the heap behind the top -/
theorem law_callT (KX : K.In s₁.heap) (hns : s₁.heap.Ns mainGlobals mg) (hb : s₁.heap.Ns builtinsNs mb) (hbb : ∀ x : Str, x ≠ "__name__" → mb x = bootBuiltins x) (hlim : s₁.heap.NoLimit) (hg : s₁.gens = #[])
    (TK : ∀ p ∈ cs, TabK K s₁.heap p) (B : BMain mg s₁.heap) (ha : s₁.heap.get? a = some { cls := .type "list", data := .seq vs.toArray }) (hi : IntsAre vs ns) (hl : ns.length ≤ sizeLine) (hr : Room k callerA)
    (F : ∀ base : Heap, K.In base → base.Ns mainGlobals mg → (∀ p ∈ cs, LamX.TabB base mg p.1 p.2) → FnG P w K mg base k fa fd [x] sp) (hbind : ∀ (s : Shared) (u : Value), BindsTo s fd ⟨[u], []⟩ [(x, u)])
    (hsp : ∀ H : Hp, (∀ p ∈ cs, H p.2 = some (.tbl #[])) → SqL K H a (ns.map V.int) → sp [.ref a] H (fun v _ => v = .bl true) fun _ _ _ => False) :
    codeAny (model P w) callerA (.call (.ref fa) ⟨[.ref a], []⟩) (fun r s' => r = .ok (.ret (.bool true)) ∧ OldK s₁.heap s'.heap ∧ s'.os = s₁.os ∧ AllBare s'.gens) s₁ := by
  classical
  have rv := vals_ints hi
  let tb : Hp := fun b => if ∃ p ∈ cs, p.2 = b then some (.tbl #[]) else none
  have tb1 : ∀ p ∈ cs, tb p.2 = some (.tbl #[]) := fun p hp => if_pos ⟨p, hp, rfl⟩
  have tbt : ∀ b, Trk cs tb b := fun b => by
    by_cases z : ∃ p ∈ cs, p.2 = b
    · obtain ⟨p, m, e⟩ := z
      exact .tab p m e (if_pos ⟨p, m, e⟩)
    · exact .no (if_neg z)
  have tbo' : ∀ (H' : Hp) b u, tb b = some u → ObjOk P w H' s₁.heap b u := fun H' b u z => by
    cases tbt b with
    | no h =>
      rw [h] at z
      cases z
    | tab p m e h =>
      rw [h] at z
      obtain rfl := Option.some.inj z
      subst e
      exact (TK p m).at_
    | frz o xs h =>
      rw [h] at z
      obtain rfl := Option.some.inj z
      unfold tb at h
      split at h <;> cases h
  have tbo : HOk P w tb s₁.heap := tbo' tb
  have tbf : ∀ b o xs, tb b ≠ some (.frz o (.lst xs)) := fun b o xs h => by
    unfold tb at h
    split at h <;> cases h
  have na : ∀ p ∈ cs, p.2 ≠ a := fun p hp z => by
    have e := (TK p hp).at_
    rw [z, ha] at e
    cases congrArg Obj.data (Option.some.inj e)
  have tba : tb a = none := if_neg fun ⟨p, hp, z⟩ => na p hp z
  cases hk : K.lookup a with
  | some o =>
    have e := (KX a o hk).symm.trans ha
    obtain rfl := Option.some.inj e
    refine law_coreT tb KX hns hb hbb hlim hg TK B ha hr F hbind tbt (fun b o xs z => absurd z (tbf b o xs)) (fun z => absurd tba z) tbo (hsp _ tb1 (.inr ⟨_, vs.toArray, _, hk, rfl, rfl, rfl, ?_, ?_⟩))
    · rw [List.size_toArray, hi.length]
      exact hl
    · simpa using rv
  | none =>
    let fz : HO := .frz { cls := .type "list", data := .seq vs.toArray } (.lst (ns.map V.int))
    refine law_coreT (upd tb a fz) KX hns hb hbb hlim hg TK B ha hr F hbind (fun b => ?_) (fun b o xs z => ?_) (fun _ => hk) (fun b u z => ?_) (hsp _ (fun p hp => ?_) (.inl (.inr ⟨_, upd_same⟩)))
    · by_cases e : b = a
      · subst e
        exact .frz _ _ upd_same
      · cases tbt b with
        | no h => exact .no (by rw [upd_ne e]; exact h)
        | tab p m q h => exact .tab p m q (by rw [upd_ne e]; exact h)
        | frz o xs h => exact .frz o xs (by rw [upd_ne e]; exact h)
    · by_cases e : b = a
      · exact e
      · rw [upd_ne e] at z
        exact absurd z (tbf b o xs)
    · by_cases e : b = a
      · subst e
        rw [upd_same] at z
        obtain rfl := Option.some.inj z
        refine ⟨ha, ?_, vs, _, rv, ha⟩
        rw [List.length_map]
        exact hl
      · rw [upd_ne e] at z
        exact tbo' _ b u z
    · rw [upd_ne (na p hp)]
      exact tb1 p hp
end
/-- the tables of the top's defs, by their names -/
def TabsOf (q : Program) (K : PySem.W.Frag) (h : Heap) : Prop := ∀ (y : Str) (d : DefRec) (c P : Addr), (recsOf q).find? (fun e => e.name == y) = some d → PySem.W.tabIn K y = some (c, P) → K.lookup P = none → TabK K h (c, P)
/-- the end of the row -/
theorem walk_ofT {l : PySem.W.OpenLaw} {n k : Nat} {q : Program} {loose : List Str} {XP : (Str → Option Value) → Heap → Prop} {YP : World → Heap → Prop} {d : DefRec} {K : Params → PySem.W.Frag} {x : Str}
    (hn : l.most = some n) (hn2 : n ≤ sizeLine) (hdf : d.params.defaults = []) (hr : Room k callerA) (hY : ∀ (w : World) (h : Heap), YP w h → (K w.params).In h)
    (F : ∀ (w : World) (mg : Str → Option Value) (fa : Addr) (h : Heap), (K w.params).In h → h.Ns mainGlobals mg → mg d.name = some (.ref fa) → TabsOf q (K w.params) h →
      ∃ (fd : FuncData) (cs : List (Addr × Addr)) (sp : Sp), (∀ p ∈ cs, TabK (K w.params) h p) ∧ (∀ (s : Shared) (u : Value), BindsTo s fd ⟨[u], []⟩ [(x, u)]) ∧
        (∀ (H : Hp) (a : Addr) (ns : List Int), ns.length ≤ n → (∀ p ∈ cs, H p.2 = some (.tbl #[])) → SqL (K w.params) H a (ns.map V.int) → sp [.ref a] H (fun v _ => v = .bl true) fun _ _ _ => False) ∧
        ∀ base : Heap, (K w.params).In base → base.Ns mainGlobals mg → (∀ p ∈ cs, LamX.TabB base mg p.1 p.2) → FnG l.prog w (K w.params) mg base k fa fd [x] sp) :
    PySem.W.WalkO q loose XP YP l.row.toRowW d [] (fun f vs => PySem.call f vs) := by
  refine Att.attach_call hn hdf ?_
  intro w s₀ s₁ mg mb fa o pm cd doc a vs ns G Y ho hd hcd hmg hobj hints hlen hg
  have KX := hY w _ Y
  obtain ⟨fd, cs, sp, hT, hb, hsp, hF⟩ := F w mg fa _ KX G.T.g hmg fun y d c P h1 h2 h3 => by
    obtain ⟨t1, t2⟩ := PySem.W.tab_of G.T KX h1 h2
    exact ⟨t1, t2, h3⟩
  exact law_callT KX G.T.g G.T.b G.T.builtins G.T.nolimit hg hT G.T.bmain hobj hints (Nat.le_trans hlen hn2) hr hF hb fun H hT' hS => hsp H a ns hlen hT' hS
end Vk
/-! zip of a list and a tuple in any mix, enumerate of a tuple. -/
namespace Vk
open PySem PySem.Spec PyProof.Rows L2
/-- a list (true) or a tuple (false) -/
def SqK : Bool → PySem.W.Frag → Hp → Addr → List V → Prop
  | true => SqL
  | false => SqT
def ItA : Bool → Heap → Addr → Addr → Nat → Prop
  | true => Heap.IsListIter
  | false => Heap.IsTupleIter
def AtA : Bool → Heap → Addr → Array Value → Prop
  | true => Heap.IsList
  | false => Heap.IsTuple
/-- a new iterator's object -/
def itO : Bool → Addr → Obj
  | true, l => { cls := .type "list_iterator", data := .fields #[.ref l, .int 0 0] }
  | false, l => { cls := .type "tuple_iterator", data := .fields #[.ref l, .int 0 0] }
section
variable {X : Cx} {pins : List (Addr × Obj)} {σ : L2.St} {H : Hp} {s : Shared} {b : Bool} {a : Addr} {xs ys : List V} {h h' : Heap} {it l : Addr} {i : Nat}
theorem seqK (I : Inv X pins σ H s) (q : SqK b X.K H a xs) : ∃ its : List Value, Vals xs its ∧ AtA b s.heap a its.toArray := by
  cases b with
  | true =>
    obtain ⟨its, r, p, _⟩ := I.list q
    exact ⟨its, r, p.isList⟩
  | false =>
    obtain ⟨its, r, p, _⟩ := I.tuple q
    exact ⟨its, r, p⟩
theorem injK (I : Inv X pins σ H s) (q : SqK b X.K H a xs) (q' : SqK b X.K H a ys) : xs = ys := by
  cases b with
  | true => exact I.list_inj q q'
  | false => exact I.tuple_inj q q'
theorem ItA.at (q : ItA b h it l i) (k : ∀ o, h.get? it = some o → h'.get? it = some o) : ItA b h' it l i := by
  cases b with
  | true => exact Heap.IsListIter.at q k
  | false => exact Heap.IsTupleIter.at q k
theorem ItA.obj (q : ItA b h it l i) : ∃ o, h.get? it = some o ∧ ∀ v, o.data ≠ .cell v := by
  cases b with
  | true =>
    obtain ⟨o, e, _, d⟩ := q
    exact ⟨o, e, fun v z => by rw [d] at z; cases z⟩
  | false =>
    obtain ⟨o, e, _, d⟩ := q
    exact ⟨o, e, fun v z => by rw [d] at z; cases z⟩
theorem ItA.new (q : h.get? it = some (itO b l)) : ItA b h it l 0 := by
  cases b with
  | true => exact ⟨_, q, rfl, rfl⟩
  | false => exact ⟨_, q, rfl, rfl⟩
theorem drawsK {prog : Program} {w : World} {A : Around} (hh : A.handled = none) (hne : l ≠ it) (items : Array Value) :
    Draws prog w A it [it, l] items.size (fun i v => items[i]? = some v) (fun i h => ItA b h it l i ∧ AtA b h l items) := by
  cases b with
  | true => exact Draws.list hh it l hne items
  | false => exact Draws.tuple hh it l hne items
theorem beginsK (l : Addr) (items : Array Value) : Begins (.ref l) (itO b l) fun h => AtA b h l items := by
  cases b with
  | true => exact begins_list l items
  | false => exact begins_tuple l items
theorem AtA.lt {items : Array Value} (q : AtA b h l items) : l < h.objs.size := by
  cases b with
  | true =>
    obtain ⟨o, e, _⟩ := q
    exact Heap.lt_size e
  | false =>
    obtain ⟨o, e, _⟩ := q
    exact Heap.lt_size e
end
/-- two of either kind, the items in new pairs -/
def ItzK (b1 b2 : Bool) (K : PySem.W.Frag) (a b : Addr) : It :=
  ⟨fun i H => ∃ (xs ys : List V) (x y : V), SqK b1 K H a xs ∧ SqK b2 K H b ys ∧ xs[i]? = some x ∧ ys[i]? = some y,
    fun i H v H' => ∃ T x y, v = .ref T ∧ H T = none ∧ H' = upd H T (.tup [x, y]) ∧ (∀ xs, SqK b1 K H a xs → xs[i]? = some x) ∧ ∀ ys, SqK b2 K H b ys → ys[i]? = some y,
    fun i H => ∃ xs ys : List V, SqK b1 K H a xs ∧ SqK b2 K H b ys ∧ i ≤ xs.length ∧ i ≤ ys.length ∧ (i = xs.length ∨ i = ys.length)⟩
theorem walk_zipK {b1 b2 : Bool} {K : PySem.W.Frag} {a b : Addr} {xs ys : List V} {n : Nat} (hn : n = min xs.length ys.length) : Walk (ItzK b1 b2 K a b) n (fun H => SqK b1 K H a xs ∧ SqK b2 K H b ys) (YPair (fun i => xs[i]?) (fun i => ys[i]?)) where
  goes := fun i H hi ⟨q1, q2⟩ => by
    have l1 : i < xs.length := by omega
    have l2 : i < ys.length := by omega
    exact ⟨xs, ys, xs[i], ys[i], q1, q2, List.getElem?_eq_getElem l1, List.getElem?_eq_getElem l2⟩
  stops := fun H ⟨q1, q2⟩ => ⟨xs, ys, q1, q2, by omega, by omega, by omega⟩
  yields := fun i H v H' hi ⟨q1, q2⟩ ⟨T, x, y, e1, e2, e3, f1, f2⟩ => ⟨T, x, y, e1, e2, e3, f1 _ q1, f2 _ q2⟩
section
variable {P : Program} {w : World} {K : PySem.W.Frag} {elts : List Expr} {kk : Nat} {tpos : Pos}
theorem five {c z TI TO i1 i2 : Addr} (h : c ∈ [z, TI, TO, i1, i2]) : c = z ∨ c = TI ∨ c = TO ∨ c = i1 ∨ c = i2 := by simpa using h
theorem turn_zipK {b1 b2 : Bool} {a b z TI TO i1 i2 : Addr} (S : ZipSep2 z TI TO i1 i2 [i1, a] [i2, b]) (ha : a ≠ i1) (hb : b ≠ i2) :
    Turn P w K (.Tuple elts kk tpos) (ItzK b1 b2 K a b) [z, TI, TO, i1, i2] z (fun i h => IsZip h z TI TO .none ∧ IsPair h TI (.ref i1) (.ref i2) ∧ (∃ x y, IsPair h TO x y) ∧ ItA b1 h i1 a i ∧ ItA b2 h i2 b i) where
  mem := List.mem_cons_self
  obj := fun i h st c hc => by
    obtain ⟨hz, hTI, ⟨x, y, hTO⟩, q1, q2⟩ := st
    rcases five hc with rfl | rfl | rfl | rfl | rfl
    · exact ⟨_, hz, fun v q => nomatch q⟩
    · exact ⟨_, hTI, fun v q => nomatch q⟩
    · exact ⟨_, hTO, fun v q => nomatch q⟩
    · exact q1.obj
    · exact q2.obj
  keep := fun i h h' st k => by
    obtain ⟨hz, hTI, ⟨x, y, hTO⟩, q1, q2⟩ := st
    exact ⟨k z (by simp) _ hz, k TI (by simp) _ hTI, ⟨x, y, k TO (by simp) _ hTO⟩, q1.at (k i1 (by simp)), q2.at (k i2 (by simp))⟩
  item := by
    intro X hP hw hK hc i pins s σ H E I hf st hg
    subst hP hw hK
    obtain ⟨hz, hTI, ⟨x0, y0, hTO⟩, q1, q2⟩ := st
    obtain ⟨xs, ys, x, y, sx, sy, hx, hy⟩ := hg
    obtain ⟨its1, r1, p1⟩ := seqK I sx
    obtain ⟨its2, r2, p2⟩ := seqK I sy
    obtain ⟨u, hu, ru⟩ := r1.get hx
    obtain ⟨u2, hu2, ru2⟩ := r2.get hy
    have hd : X.A.in1.handled = none := I.ok.hd hc
    have l1 : i < its1.toArray.size := by
      have := (List.getElem?_eq_some_iff.mp hu).1
      simpa using this
    have l2 : i < its2.toArray.size := by
      have := (List.getElem?_eq_some_iff.mp hu2).1
      simpa using this
    have zl : z < s.heap.objs.size := Heap.lt_size hz
    refine wpAny_pyNext_zipD2_item S (drawsK (prog := X.prog) (w := X.w) (b := b1) hd ha its1.toArray) (drawsK (prog := X.prog) (w := X.w) (b := b2) hd hb its2.toArray) hz hTI hTO ⟨q1, p1⟩ ⟨q2, p2⟩ l1 l2 fun v1 v2 h' tk e1 e2 z' TO' s1' s2' hT hsz hk => ?_
    have ev1 : v1 = u := by
      have : its1[i]? = some v1 := by simpa using e1
      rw [hu] at this
      exact (Option.some.inj this).symm
    have ev2 : v2 = u2 := by
      have : its2[i]? = some v2 := by simpa using e2
      rw [hu2] at this
      exact (Option.some.inj this).symm
    subst ev1 ev2
    refine ⟨_, rfl, wpAny_letOwnedTupleGo_zip (s := { s with heap := h', toks := tk }) z' fun h'' z'' sb => ?_⟩
    have hT2 : h''.get? s.heap.objs.size = some { cls := .type "tuple", data := .seq #[v1, v2] } := (sb.2 _ (Nat.ne_of_gt zl)).trans hT
    have new : ObjOk X.prog X.w (upd H s.heap.objs.size (.tup [x, y])) h'' s.heap.objs.size (.tup [x, y]) :=
      ⟨by show 2 ≤ sizeLine; decide, [v1, v2], .cons ru (.cons ru2 .nil), ⟨_, hT2, rfl, _, rfl⟩⟩
    have I1 : Inv X pins σ (upd H s.heap.objs.size (.tup [x, y])) { s with heap := h'', toks := tk } :=
      I.turnedNew (t' := tk) (ch := [z, TI, TO, i1, i2]) (fun c o hc q => (sb.2 c fun q' => hc (by simp [q'])).trans (hk c o (fun q' => hc (by simp [q'])) (fun q' => hc (by simp [q'])) (fun q' => hc (by simp [q'])) (fun q' => hc (by simp [q'])) q)) hf (Nat.le_refl _) new
    have nz1 : i1 ≠ z := fun e => S.zf1 (by rw [e]; exact List.mem_cons_self)
    have nz2 : i2 ≠ z := fun e => S.zf2 (by rw [e]; exact List.mem_cons_self)
    refine ⟨.ref s.heap.objs.size, _, I1, rfl, ⟨_, x, y, rfl, I.hok.fresh (Nat.le_refl _), rfl, fun l hl => by rw [injK I hl sx]; exact hx, fun l hl => by rw [injK I hl sy]; exact hy⟩, ⟨z'', ?_, ⟨v1, v2, ?_⟩, ?_, ?_⟩, fun c hcm => ?_⟩
    · exact (sb.2 _ S.TIz).trans (hk _ _ S.TIz S.TITO S.TIi1 S.TIi2 hTI)
    · exact (sb.2 _ S.TOz).trans TO'
    · exact s1'.1.at fun o q => (sb.2 _ nz1).trans q
    · exact s2'.1.at fun o q => (sb.2 _ nz2).trans q
    · have lt : c < s.heap.objs.size := by
        rcases five hcm with rfl | rfl | rfl | rfl | rfl
        · exact zl
        · exact Heap.lt_size hTI
        · exact Heap.lt_size hTO
        · obtain ⟨o, e, _⟩ := q1.obj
          exact Heap.lt_size e
        · obtain ⟨o, e, _⟩ := q2.obj
          exact Heap.lt_size e
      rw [upd_ne (Nat.ne_of_lt lt)]
      exact (hf c hcm).1
  done := by
    intro X hP hw hK hc i pins s σ H E I hf st hg
    subst hP hw hK
    obtain ⟨hz, hTI, ⟨x0, y0, hTO⟩, q1, q2⟩ := st
    obtain ⟨xs, ys, sx, sy, l1, l2, le⟩ := hg
    obtain ⟨its1, r1, p1⟩ := seqK I sx
    obtain ⟨its2, r2, p2⟩ := seqK I sy
    have hd : X.A.in1.handled = none := I.ok.hd hc
    have m1 := r1.length
    have m2 := r2.length
    refine wpAny_pyNext_zipD2_end S (drawsK (prog := X.prog) (w := X.w) (b := b1) hd ha its1.toArray) (drawsK (prog := X.prog) (w := X.w) (b := b2) hd hb its2.toArray) hz hTI hTO ⟨q1, p1⟩ ⟨q2, p2⟩ (by simp; omega) (by simp; omega) (by simp; omega) fun h' tk hk => ⟨rfl, ?_⟩
    exact I.turnedL (t' := tk) (ch := [z, TI, TO, i1, i2]) (fun c o hc q => hk c o (fun q' => hc (by simp [q'])) (fun q' => hc (by simp [q'])) (fun q' => hc (by simp [q'])) (fun q' => hc (by simp [q'])) q) hf
  self := fun A i s Q E st h => wpAny_pyIter_zip st.1 h
def iZipK (K : PySem.W.Frag) (ta : TA) : TI := fun σ H R => ta σ H fun vs H1 => ∃ b1 b2 a b xs ys, vs = [.ref a, .ref b] ∧ SqK b1 K H1 a xs ∧ SqK b2 K H1 b ys ∧ R (ItzK b1 b2 K a b) H1
theorem pi_zipK {X : Cx} {e e2 : Expr} {ta : TA} {p pos : Pos} (hg : Gl X "zip") (hm : X.mg "zip" = none) (ha : PA X [e, e2] ta)
    (hs : starEach [e, e2] X.env = (false, eval e X.env) :: starEach [e2] X.env := by rfl) (hpl : (backTo pos (starEach [e2] X.env)).any (·.1) = false := by rfl) :
    PI X (.Tuple elts kk tpos) (.Call (.Name "zip" p) [e, e2] [] pos) (iZipK X.K ta) := by
  refine ⟨fun pins s σ H R I h => ?_⟩
  refine Call_ (ld_blt I hg hm PyProof.Rows.boot_zip (PyProof.Rows.callWith_type1 (thn (ha.run pos pins s σ H _ I h) fun us s1 q => ?_) hs hpl))
  obtain ⟨vs, H1, I1, r1, b1, b2, a, b, xs, ys, rfl, sx, sy, q⟩ := q
  obtain ⟨u1, u2, rfl, e1, e2⟩ := vals2 r1
  cases e1
  cases e2
  obtain ⟨its1, _, p1⟩ := seqK I1 sx
  obtain ⟨its2, _, p2⟩ := seqK I1 sy
  refine zip_begins2 (beginsK (b := b1) a its1.toArray) (beginsK (b := b2) b its2.toArray) p1 p2 fun h' hz hTI hTO g1 g2 hsz hk => wpAny_pyIter_zip hz ?_
  have I2 : Inv X pins σ H1 { s1 with heap := h' } := I1.kept (t' := s1.toks) hk
  have na : a < s1.heap.objs.size := p1.lt
  have nb : b < s1.heap.objs.size := p2.lt
  have S : ZipSep2 (s1.heap.objs.size + 4) (s1.heap.objs.size + 2) (s1.heap.objs.size + 3) s1.heap.objs.size (s1.heap.objs.size + 1) [s1.heap.objs.size, a] [s1.heap.objs.size + 1, b] :=
    zip_sep2 (fun c hc => by rw [List.mem_singleton.mp hc]; exact na) (fun c hc => by rw [List.mem_singleton.mp hc]; exact nb)
  refine ⟨s1.heap.objs.size + 4, [s1.heap.objs.size + 4, s1.heap.objs.size + 2, s1.heap.objs.size + 3, s1.heap.objs.size, s1.heap.objs.size + 1], _, _, H1, rfl, I2, turn_zipK S (Nat.ne_of_lt na) (Nat.ne_of_lt (Nat.lt_succ_of_lt nb)), ⟨hz, hTI, ⟨_, _, hTO⟩, .new g1, .new g2⟩, fun c hc => ?_, q⟩
  have le : s1.heap.objs.size ≤ c := by
    rcases five hc with rfl | rfl | rfl | rfl | rfl <;> omega
  exact I1.fpOk le (I1.hok.fresh le)
theorem meets_enum1 {v : Value} {o : Obj} {H : Heap → Prop} (B : Begins v o H) :
    Meets (Builtin.«enumerate.__new__» ⟨[.type "enumerate", v], []⟩) (fun _ R s => H s.heap ∧
      R (.ok (.ret (.ref (s.heap.push o).objs.size))) { s with heap := (s.heap.push o).push { cls := .type "enumerate", data := .fields #[.none, .bool false, .ref s.heap.objs.size, rawInt 0, .none, .none] } }) :=
  .of_wp fun prog w A R s h => by
    obtain ⟨hp, g, d, tk, os⟩ := s
    obtain ⟨h1, h⟩ := h
    have sub := sub_enumerate
    have it : ∀ {A' : Around} {E : Value → Shared → Prop} {Q : Value → Shared → Prop}, Q (.ref hp.objs.size) ⟨hp.push o, g, d, tk, os⟩ → wpAny (model prog w) A' (pyIter v) Q E ⟨hp, g, d, tk, os⟩ :=
      fun q => B.iter prog w _ _ ⟨hp, g, d, tk, os⟩ _ h1 q
    wp_walk using it
    refine wpAny_stack_any fun st => wpAny_pure ?_
    split
    · rename_i c _ _ _ _ _
      cases (c == Value.type "enumerate") <;> (wp_walk using it; exact ⟨_, rfl, h⟩)
    · wp_walk using it
      exact ⟨_, rfl, h⟩
theorem call_enum1 {prog : Program} {A : Around} {E : Value → Shared → Prop} {s : Shared} {v : Value} {o : Obj} {H : Heap → Prop} {Q : Value → Shared → Prop} (B : Begins v o H) (h1 : H s.heap)
    (h : ∀ h', IsEnum h' (s.heap.objs.size + 1) s.heap.objs.size 0 .none → h'.get? s.heap.objs.size = some o → (∀ b u, s.heap.get? b = some u → h'.get? b = some u) → Q (.ref (s.heap.objs.size + 1)) { s with heap := h' }) :
    wpAny (model prog w) A (call (.type "enumerate") [v]) Q E s := by
  refine callType_new F.called_enumerate (by decide) (F.typeCall_enumerate_1 _) (F.newCall_enumerate_1 _) (fun obj => F.args_object_init_2 obj _) F.entry_enumerate_new (meets_enum1 B) ⟨h1, ?_⟩
  have z : (s.heap.push o).objs.size = s.heap.objs.size + 1 := Heap.size_push ..
  show _ ∧ _
  rw [z]
  have e : IsEnum ((s.heap.push o).push { cls := .type "enumerate", data := .fields #[.none, .bool false, .ref s.heap.objs.size, rawInt 0, .none, .none] }) (s.heap.objs.size + 1) s.heap.objs.size 0 .none := by
    have y := Heap.get?_push_size (s.heap.push o) (o := { cls := .type "enumerate", data := .fields #[.none, .bool false, .ref s.heap.objs.size, rawInt 0, .none, .none] }) rfl
    rw [z] at y
    exact y
  exact ⟨⟨_, e, rfl⟩, h _ e (Heap.get?_push_of_some _ (Heap.get?_push_size _ B.free)) fun b u x => Heap.get?_push_of_some _ (Heap.get?_push_of_some _ x)⟩
/-- one of either kind, each item in a new pair behind its number -/
def IteK (b : Bool) (K : PySem.W.Frag) (a : Addr) : It :=
  ⟨fun i H => ∃ (xs : List V) (x : V), SqK b K H a xs ∧ xs[i]? = some x, fun i H v H' => ∃ T x, v = .ref T ∧ H T = none ∧ H' = upd H T (.tup [.int (i : Nat), x]) ∧ ∀ xs, SqK b K H a xs → xs[i]? = some x,
    fun i H => ∃ xs : List V, SqK b K H a xs ∧ xs.length = i⟩
theorem walk_enumK {b : Bool} {a : Addr} {xs : List V} : Walk (IteK b K a) xs.length (fun H => SqK b K H a xs) (YPair (fun i => some (.int (i : Nat))) (fun i => xs[i]?)) where
  goes := fun i H hi q => ⟨xs, xs[i], q, List.getElem?_eq_getElem hi⟩
  stops := fun H q => ⟨xs, q, rfl⟩
  yields := fun i H v H' hi q ⟨T, x, e1, e2, e3, f⟩ => ⟨T, _, x, e1, e2, e3, rfl, f _ q⟩
theorem turn_enumK {b : Bool} {a e it : Addr} (ha : a ≠ it) (hea : e ≠ a) (hei : e ≠ it) :
    Turn P w K (.Tuple elts kk tpos) (IteK b K a) [e, it] e (fun i h => (∃ old, IsEnum h e it ((i : Nat) : Int) old) ∧ ItA b h it a i) where
  mem := List.mem_cons_self
  obj := fun i h st c hc => by
    obtain ⟨⟨old, he⟩, q⟩ := st
    rcases List.mem_cons.mp hc with rfl | hc
    · exact ⟨_, he, fun v z => nomatch z⟩
    · rw [List.mem_singleton.mp hc]
      exact q.obj
  keep := fun i h h' st k => by
    obtain ⟨⟨old, he⟩, q⟩ := st
    exact ⟨⟨old, k e (by simp) _ he⟩, q.at (k it (by simp))⟩
  item := by
    intro X hP hw hK hc i pins s σ H E I hf st hg
    subst hP hw hK
    obtain ⟨⟨old, he⟩, q⟩ := st
    obtain ⟨xs, x, sx, hx⟩ := hg
    obtain ⟨its, r, p⟩ := seqK I sx
    obtain ⟨u, hu, ru⟩ := r.get hx
    have hd : X.A.in1.handled = none := I.ok.hd hc
    have l1 : i < its.toArray.size := by
      have := (List.getElem?_eq_some_iff.mp hu).1
      simpa using this
    have el : e < s.heap.objs.size := Heap.lt_size he
    have il : it < s.heap.objs.size := by
      obtain ⟨o, z, _⟩ := q.obj
      exact Heap.lt_size z
    refine wpAny_pyNext_enum_itemD (drawsK (prog := X.prog) (w := X.w) (b := b) hd ha its.toArray) he ⟨q, p⟩ l1 hei (by simp [hei, hea]) fun v h' tk e1 ho st' hT hsz hk => ?_
    have ev : v = u := by
      have : its[i]? = some v := by simpa using e1
      rw [hu] at this
      exact (Option.some.inj this).symm
    subst ev
    refine ⟨_, rfl, wpAny_letOwnedTupleGo_enum (s := { s with heap := h', toks := tk + 1 }) ho fun h'' he' sb => ?_⟩
    have hT2 : h''.get? s.heap.objs.size = some { cls := .type "tuple", data := .seq #[.int i tk, v] } := (sb.2 _ (Nat.ne_of_gt el)).trans hT
    have new : ObjOk X.prog X.w (upd H s.heap.objs.size (.tup [.int (i : Nat), x])) h'' s.heap.objs.size (.tup [.int (i : Nat), x]) :=
      ⟨by show 2 ≤ sizeLine; decide, [.int i tk, v], .cons ⟨_, rfl⟩ (.cons ru .nil), ⟨_, hT2, rfl, _, rfl⟩⟩
    have I1 : Inv X pins σ (upd H s.heap.objs.size (.tup [.int (i : Nat), x])) { s with heap := h'', toks := tk + 1 } :=
      I.turnedNew (ch := [e, it]) (fun c o hc z => (sb.2 c fun y => hc (by simp [y])).trans (hk c o (fun y => hc (by simp [y])) (fun y => hc (by simp [y])) z)) hf (Nat.le_refl _) new
    refine ⟨.ref s.heap.objs.size, _, I1, rfl, ⟨_, x, rfl, I.hok.fresh (Nat.le_refl _), rfl, fun ys hy => by rw [injK I hy sx]; exact hx⟩, ⟨⟨v, ?_⟩, st'.1.at fun o z => (sb.2 it (Ne.symm hei)).trans z⟩, fun c hc => ?_⟩
    · have e2 : ((i + 1 : Nat) : Int) = (i : Int) + 1 := by omega
      rw [e2]
      exact he'
    · have lt : c < s.heap.objs.size := by
        rcases List.mem_cons.mp hc with rfl | z
        · exact el
        · rw [List.mem_singleton.mp z]
          exact il
      rw [upd_ne (Nat.ne_of_lt lt)]
      exact (hf c hc).1
  done := by
    intro X hP hw hK hc i pins s σ H E I hf st hg
    subst hP hw hK
    obtain ⟨⟨old, he⟩, q⟩ := st
    obtain ⟨xs, sx, rfl⟩ := hg
    obtain ⟨its, r, p⟩ := seqK I sx
    have hd : X.A.in1.handled = none := I.ok.hd hc
    obtain ⟨f0, f1, f2, f3, f4, f5⟩ := hf it (by simp)
    have hl : xs.length = its.toArray.size := by
      rw [List.size_toArray]
      exact r.length
    refine wpAny_pyNext_enum_endD (drawsK (prog := X.prog) (w := X.w) (b := b) hd ha its.toArray) he (by rw [hl] at q; exact ⟨q, p⟩) fun h' eb => ⟨rfl, I.turned (t' := s.toks) (fun b o hb z => eb b o hb z) f0 f1 f3 f4 f5⟩
  self := fun A i s Q E st h => by
    obtain ⟨⟨old, he⟩, _⟩ := st
    exact wpAny_pyIter_enum he h
def iEnumK (K : PySem.W.Frag) (ta : TA) : TI := fun σ H R => ta σ H fun vs H1 => ∃ b a xs, vs = [.ref a] ∧ SqK b K H1 a xs ∧ R (IteK b K a) H1
theorem pi_enumK {X : Cx} {e : Expr} {ta : TA} {p pos : Pos} (hg : Gl X "enumerate") (hm : X.mg "enumerate" = none) (ha : PA X [e] ta) (hs : starEach [e] X.env = [(false, eval e X.env)] := by rfl) :
    PI X (.Tuple elts kk tpos) (.Call (.Name "enumerate" p) [e] [] pos) (iEnumK X.K ta) := by
  refine ⟨fun pins s σ H R I h => ?_⟩
  refine Call_ (ld_blt I hg hm boot_enumerate (PyProof.Rows.callWith_type1 (thn (ha.run pos pins s σ H _ I h) fun us s1 q => ?_) hs rfl))
  obtain ⟨vs, H1, I1, r1, b, a, xs, rfl, sx, q⟩ := q
  obtain ⟨u, rfl, e1⟩ := vals1 r1
  cases e1
  obtain ⟨its, _, p1⟩ := seqK I1 sx
  refine call_enum1 (beginsK (b := b) a its.toArray) p1 fun h' he g hk => wpAny_pyIter_enum he ?_
  have I2 : Inv X pins σ H1 { s1 with heap := h' } := I1.kept (t' := s1.toks) hk
  have na : a < s1.heap.objs.size := p1.lt
  refine ⟨s1.heap.objs.size + 1, [s1.heap.objs.size + 1, s1.heap.objs.size], _, _, H1, rfl, I2, turn_enumK (Nat.ne_of_lt na) (Nat.ne_of_gt (Nat.lt_succ_of_lt na)) (Nat.succ_ne_self _), ⟨⟨.none, he⟩, .new g⟩, fun c hc => ?_, q⟩
  have le : s1.heap.objs.size ≤ c := by
    rcases List.mem_cons.mp hc with rfl | z
    · exact Nat.le_succ _
    · rw [List.mem_singleton.mp z]
      exact Nat.le_refl _
  exact I1.fpOk le (I1.hok.fresh le)
end
end Vk
namespace Vk
open PySem PySem.Spec PyProof.Rows L2
/-- a value of one of seven kinds -/
inductive Oky (H : Hp) : V → String → Prop where
  | non : Oky H .non "NoneType"
  | bl (b : Bool) : Oky H (.bl b) "bool"
  | int (i : Int) : Oky H (.int i) "int"
  | str (x : Str) : Oky H (.str x) "str"
  | lst {a : Addr} {xs : List V} (e : H a = some (.lst xs)) : Oky H (.ref a) "list"
  | tup {a : Addr} {xs : List V} (e : H a = some (.tup xs)) : Oky H (.ref a) "tuple"
  | dK {a : Addr} {kvs : List (Key × V)} (e : H a = some (.dK kvs)) : Oky H (.ref a) "dict"
theorem Oky.ty {K : PySem.W.Frag} {H : Hp} {x : V} {t : String} (h : Oky H x t) : TyX K H x (.type t) := by
  cases h with
  | non => exact .base .non
  | bl b => exact .base (.bl b)
  | int i => exact .base (.int i)
  | str x => exact .base (.str x)
  | lst e => exact .base (.lst e)
  | tup e => exact .base (.tup e)
  | dK e => exact .base (.dK e)
theorem Oky.same {H H' : Hp} {x : V} {t : String} (h : Oky H x t) (s : Same H H') : Oky H' x t := by
  cases h with
  | non => exact .non
  | bl b => exact .bl b
  | int i => exact .int i
  | str x => exact .str x
  | lst e => exact .lst (s _ _ e)
  | tup e => exact .tup (s _ _ e)
  | dK e => exact .dK (s _ _ e)
theorem Oky.kTup {H : Hp} {x : V} {t : String} (h : Oky H x t) : kitB t "tuple" = some (decide (t = "tuple")) := by
  cases h <;> decide +kernel
theorem Oky.kInt {H : Hp} {x : V} {t : String} (h : Oky H x t) : kitB t "int" = some (decide (t = "int" ∨ t = "bool")) := by
  cases h <;> decide +kernel
theorem Oky.kBool {H : Hp} {x : V} {t : String} (h : Oky H x t) : kitB t "bool" = some (decide (t = "bool")) := by
  cases h <;> decide +kernel
def isInt : V → Bool
  | .int _ => true
  | _ => false
theorem Oky.isInt {H : Hp} {x : V} {t : String} (h : Oky H x t) : isInt x = decide (t = "int") := by
  cases h <;> simp [Vk.isInt]
/-- the reading of isinstance(x, T) -/
theorem isi_ {K : PySem.W.Frag} {H : Hp} {x : V} {t T : String} {b : Bool} {Q : VK} (h : Oky H x t) (k : kitB t T = some b) (q : Q (.bl b) H) : rIsi K [x, .ty T] H Q :=
  ⟨x, .ty T, _, _, b, rfl, .ty T, h.ty, kit_ty k, q⟩
end Vk
/-! Readings by what stands afterwards. -/
namespace Vk
open PySem PySem.Spec PyProof.Rows L2
theorem Same.seqT {K : PySem.W.Frag} {H H' : Hp} {a : Addr} {xs : List V} (s : Same H H') (h : SqT K H a xs) : SqT K H' a xs := by
  rcases h with (h | ⟨o, h⟩) | h
  · exact .inl (.inl (s _ _ h))
  · exact .inl (.inr ⟨o, s _ _ h⟩)
  · exact .inr h
theorem Same.seqK {b : Bool} {K : PySem.W.Frag} {H H' : Hp} {a : Addr} {xs : List V} (s : Same H H') (h : SqK b K H a xs) : SqK b K H' a xs := by
  cases b with
  | true => exact s.seq h
  | false => exact Same.seqT s h
/-- t + u -/
theorem cat_any {K : PySem.W.Frag} {H : Hp} {a b : Addr} {xs ys : List V} {Q : VK} (ha : SqT K H a xs) (hb : SqT K H b ys) (hl : xs.length + ys.length ≤ sizeLine) (q : ∀ r H', Same H H' → SqT K H' r (xs ++ ys) → Q (.ref r) H') : rCatA K (.ref a) (.ref b) H Q := by
  refine ⟨a, b, xs, ys, rfl, rfl, ha, hb, hl, fun e => ?_, fun _ e => ?_, fun _ _ p np => q p _ (same_new np) (SqT.of upd_same)⟩
  · subst e
    exact q b H (Same.refl _) hb
  · subst e
    exact q a H (Same.refl _) (by rw [List.append_nil]; exact ha)
theorem cutV_whole (xs : List V) (lo hi : Option Int) (h : HT.sIx xs.length 0 lo = 0 ∧ HT.sIx xs.length xs.length hi = xs.length) : cutV xs lo hi = xs := by
  unfold cutV
  rw [h.1, h.2, List.drop_zero, Nat.sub_zero, List.take_length]
/-- t[lo:hi] -/
theorem slice_any {K : PySem.W.Frag} {H : Hp} {a : Addr} {xs : List V} {lo hi : Option Int} {Q : VK} (ha : SqT K H a xs) (q : ∀ r H', Same H H' → SqT K H' r (cutV xs lo hi) → Q (.ref r) H') : rSlA K (.ref a) lo hi H Q :=
  ⟨a, xs, rfl, ha, fun h => q a H (Same.refl _) (by rw [cutV_whole xs lo hi h]; exact ha), fun _ p np => q p _ (same_new np) (SqT.of upd_same)⟩
/-- from one on -/
theorem cut1 {xs : List V} {x : V} : cutV (x :: xs) (some 1) none = xs := by
  unfold cutV
  have e1 : HT.sIx (x :: xs).length 0 (some 1) = 1 := by
    have h := HT.sIx_nat (x :: xs).length 0 1
    rw [List.length_cons] at h ⊢
    exact h.trans (by omega)
  have e2 : HT.sIx (x :: xs).length (x :: xs).length none = xs.length + 1 := by
    rw [HT.sIx_none, List.length_cons]
  rw [e1, e2, List.drop_succ_cons, List.drop_zero, Nat.add_sub_cancel, List.take_length]
/-- a comprehension without a test, over any walk, whose items are those of R -/
theorem lc_to {J : It} {n : Nat} {G : Hp → Prop} {Y : Nat → Hp → V → Hp → Prop} (w : Walk J n G Y) {g : TG} {te : TE} {vs : List Nat} {σ : L2.St} {H1 : Hp} {D : Addr} {Qd : Hp → Prop} (R : List V) (hn : R.length = n) (hz : n < sizeLine) (nD : H1 D = none)
    (hG : ∀ H, Same H1 H → G H)
    (hs : ∀ (i : Nat) (x y : V) (H H' : Hp) (Qy : VK), R[i]? = some y → i < n → Same H1 H → Y i H x H' → (∀ H4, Same H H4 → Qy y H4) → g x (wipe σ vs) H' fun σ2 H2 => wipe σ2 vs = wipe σ vs ∧ te σ2 H2 Qy)
    (hd : ∀ H, Same H1 H → H D = some (.lst R) → Qd H) :
    ∃ W : Nat → Nat → Hp → Prop, (∃ m, W 0 m (upd H1 D (.lst []))) ∧ ∀ i m H, W i m H →
      (J.stop i H ∧ Qd H) ∨ (J.go i H ∧ ∃ Nx : Hp → Prop, (∀ H', Nx H' → ∃ m', m' < m ∧ W (i + 1) m' H') ∧ ∀ x H', J.yld i H x H' → g x (wipe σ vs) H' fun σ2 H2 => wipe σ2 vs = wipe σ vs ∧ tYes σ2 H2 fun b H3 =>
        if b = true then te σ2 H3 fun y H4 => ∃ acc, H4 D = some (.lst acc) ∧ acc.length < sizeLine ∧ Nx (upd H4 D (.lst (acc ++ [y]))) else Nx H3) := by
  refine lc_it w (tt := tYes) (fun i H => Same H1 H ∧ H D = some (.lst (R.take i))) ⟨same_new nD, by rw [upd_same]; rfl⟩ (fun i H _ p => hG H p.1) ?_ ?_
  · rintro i x H H' hi ⟨s, d⟩ y
    have hiR : i < R.length := by omega
    obtain ⟨v, hv⟩ : ∃ v, R[i]? = some v := ⟨_, List.getElem?_eq_getElem hiR⟩
    exact hs i x v H H' (fun y H4 => ∃ acc, H4 D = some (.lst acc) ∧ acc.length < sizeLine ∧ Same H1 (upd H4 D (.lst (acc ++ [y]))) ∧ upd H4 D (.lst (acc ++ [y])) D = some (.lst (R.take (i + 1)))) hv hi s y fun H4 s4 => by
      refine ⟨R.take i, s4 _ _ d, ?_, same_put (s.trans s4) nD, ?_⟩
      · rw [List.length_take]
        omega
      · rw [upd_same, List.take_add_one, hv]
        rfl
  · rintro H ⟨s, d⟩
    refine hd H s ?_
    rw [d, ← hn, List.take_length]
/-- a tuple that stands in the heap -/
def Tp (H : Hp) (a : Addr) (xs : List V) : Prop := H a = some (.tup xs)
theorem Tp.same {H H' : Hp} {a : Addr} {xs : List V} (h : Tp H a xs) (s : Same H H') : Tp H' a xs := s _ _ h
theorem Tp.t {K : PySem.W.Frag} {H : Hp} {a : Addr} {xs : List V} (h : Tp H a xs) : SqT K H a xs := SqT.of h
theorem Tp.but {m : Addr} {H H' : Hp} {a : Addr} {xs : List V} {kvs : List (Key × V)} (h : Tp H a xs) (hm : H m = some (.dK kvs)) (s : SameBut m H H') : Tp H' a xs := s _ _ (ne_of h hm (by intro z; cases z)) h
theorem cat_tp {K : PySem.W.Frag} {H : Hp} {a b : Addr} {xs ys : List V} {Q : VK} (ha : Tp H a xs) (hb : Tp H b ys) (hl : xs.length + ys.length ≤ sizeLine) (q : ∀ r H', Same H H' → Tp H' r (xs ++ ys) → Q (.ref r) H') : rCatA K (.ref a) (.ref b) H Q := by
  refine ⟨a, b, xs, ys, rfl, rfl, ha.t, hb.t, hl, fun e => ?_, fun _ e => ?_, fun _ _ p np => q p _ (same_new np) upd_same⟩
  · subst e
    exact q b H (Same.refl _) hb
  · subst e
    exact q a H (Same.refl _) (by rw [List.append_nil]; exact ha)
theorem slice_tp {K : PySem.W.Frag} {H : Hp} {a : Addr} {xs : List V} {lo hi : Option Int} {Q : VK} (ha : Tp H a xs) (q : ∀ r H', Same H H' → Tp H' r (cutV xs lo hi) → Q (.ref r) H') : rSlA K (.ref a) lo hi H Q :=
  ⟨a, xs, rfl, ha.t, fun h => q a H (Same.refl _) (by rw [cutV_whole xs lo hi h]; exact ha), fun _ p np => q p _ (same_new np) upd_same⟩
end Vk
/-! A kept exception with fields of its own. -/
namespace Vk
open PySem PySem.Spec PyProof.Rows L2
/-- a kept exception of the class C with these fields -/
def KxF (H : Hp) (a C : Addr) (fs : List (Str × V)) : Prop := ∃ dd, H a = some (ExK (.ref C) (some dd) a) ∧ H dd = some (.xd fs)
theorem KxF.same {H H' : Hp} {a C : Addr} {fs : List (Str × V)} (k : KxF H a C fs) (s : Same H H') : KxF H' a C fs := by
  obtain ⟨dd, h1, h2⟩ := k
  exact ⟨dd, s _ _ h1, s _ _ h2⟩
theorem KxF.inst {X : Cx} {pins : List (Addr × Obj)} {σ : L2.St} {H : Hp} {s : Shared} {a C : Addr} {fs : List (Str × V)} (I : Inv X pins σ H s) (k : KxF H a C fs) : ∃ (oe od : Obj) (mA : Str → Option Value), PySem.W.InstAt s.heap a oe C (some od) ∧ (∀ f, PySem.W.lookIn f od = some (mA f)) ∧ ∀ f, RelO (fs.lookup f) (mA f) := by
  obtain ⟨dd, h1, h2⟩ := k
  obtain ⟨⟨oe, g, hz, vs, hd⟩, _, _⟩ := I.hok a _ h1
  obtain ⟨mA, hns, hr⟩ := (show ObjOk X.prog X.w H s.heap dd (.xd fs) from I.hok dd _ h2)
  obtain ⟨od, ho, hl⟩ := lookIn_ns hns
  exact ⟨oe, od, mA, ⟨g, hz.1, by unfold PySem.W.notCls; rw [hd] <;> rfl, by rw [hz.2]; exact ho⟩, hl, hr⟩
/-- isinstance(e, c) -/
def rIsF (K : PySem.W.Frag) (C : Addr) : List V → Hp → VK → Prop := fun xs H Q => ∃ (a : Addr) (fs : List (Str × V)) (c : V) (cv : Value) (b : Bool), xs = [.ref a, c] ∧ KxF H a C fs ∧ ClsV c cv ∧ PySem.W.kitOne K (.ref C) cv = some b ∧ Q (.bl b) H
theorem call_isF {X : Cx} {C : Addr} (E : ExcC X.K C) : CallR X (.builtin "isinstance") (rIsF X.K C) := by
  intro pins s σ H xs us Q I r h
  obtain ⟨a, fs, c, cv, b, rfl, k, hcv, e, q⟩ := h
  obtain ⟨u1, u2, rfl, r1, r2⟩ := vals2 r
  obtain rfl : u1 = Value.ref a := r1
  obtain rfl := hcv.eq r2
  obtain ⟨oe, od, mA, J, _, _⟩ := k.inst I
  have hcl : (PySem.W.clsIn X.K C).isSome = true := by
    obtain ⟨cd, hc, _⟩ := PySem.W.any_some E.hd
    rw [hc]
    rfl
  exact PySem.W.kia_one (PySem.W.kitx_exc (od := some od) hcl E.hg E.hk E.hs E.ha E.hn E.ht E.hm) I.kIn J e (fun z => nomatch z) fun tk => ⟨.bl b, H, I.kept (t' := tk) fun _ _ z => z, rfl, q⟩
/-- e.f -/
def tKf (C : Addr) (f : Str) (te : TE) : TE := fun σ H Q => te σ H fun x H1 => ∃ (a : Addr) (fs : List (Str × V)) (v : V), x = .ref a ∧ KxF H1 a C fs ∧ fs.lookup f = some v ∧ Q v H1
theorem pe_kf {X : Cx} {C : Addr} {e : Expr} {te : TE} {pos : Pos} {n : Str} (T : XfC X.K C) (hno : PySem.W.findIn X.K (.ref C) n = some none) (he : PE X e te) (hb : attributeBase e n X.env (eval e X.env) = eval e X.env := by rfl) :
    PE X (.Attribute e n pos) (tKf C n te) := by
  refine ⟨fun pins s σ H Q I h => attr_of hb (thn (he.run pins s σ H _ I h) fun u s1 hh => ?_)⟩
  obtain ⟨x, H1, I1, rx, a, fs, v, rfl, k, l, q⟩ := hh
  obtain rfl : u = Value.ref a := rx
  obtain ⟨oe, od, mA, J, hl, hr⟩ := k.inst I1
  obtain ⟨u, hu, ru⟩ := RelO.some_of (v := v) (o := mA n) (by rw [← l]; exact hr n)
  exact HandSPX.exc_get I1.kIn J T.ga T.gg T.exC (PySem.W.findObj_own T.hdC hno rfl (by rw [hl, hu])) (handed_of ru) ⟨v, H1, I1.tok _, ru, q⟩
end Vk
namespace Vk
open PySem PySem.Spec PyProof.Rows L2
/-- a tuple once is the tuple -/
theorem once_ (l : Addr) (its : Array Value) (n : Nat) (dd : Option Addr) (sl : Array (Option Value)) (u : Tok) :
    Meets (Builtin.«tuple.__mul__» ⟨[.ref l, .int 1 u], []⟩) (fun _ R s => s.heap.get? l = some { cls := .type "tuple", dict := dd, data := .seq its n, slots := sl } ∧ R (.ok (.ret (Value.ref l))) s) :=
  .of_wp fun prog w A R s h => by
    obtain ⟨hp, gs, dr, tk, os⟩ := s
    obtain ⟨at_l, last⟩ := h
    have f1 := AutoSeq1.idx_int
    have one : (its.isEmpty || (1 : Int) == 1) = true := by
      rw [Bool.or_eq_true]
      exact Or.inr rfl
    wp_walk using wpAny_loadPart' at_l
    exact ⟨_, rfl, last⟩
/-- a tuple no times is the empty tuple -/
theorem never_ (l : Addr) (its : Array Value) (n : Nat) (dd : Option Addr) (sl : Array (Option Value)) (u : Tok) (ne : its.isEmpty = false) :
    Meets (Builtin.«tuple.__mul__» ⟨[.ref l, .int 0 u], []⟩) (fun _ R s => s.heap.get? l = some { cls := .type "tuple", dict := dd, data := .seq its n, slots := sl } ∧
      R (.ok (.ret (Value.ref s.heap.objs.size))) { s with heap := s.heap.push { cls := Value.type "tuple", data := Data.seq #[] }, toks := s.toks }) :=
  .of_wp fun prog w A R s h => by
    obtain ⟨hp, gs, dr, tk, os⟩ := s
    obtain ⟨at_l, last⟩ := h
    have f1 := AutoSeq1.idx_int
    have no : (its.isEmpty || (0 : Int) == 1) = false := by
      rw [ne]
      rfl
    wp_walk using wpAny_loadPart' at_l
    exact ⟨_, rfl, last⟩
/-- a tuple some times, be it once or never -/
def rTms (K : PySem.W.Frag) : R2 := fun x y H Q => ∃ (l : Addr) (k : Nat) (xs : List V), x = .ref l ∧ y = .int (k : Int) ∧ SqT K H l xs ∧ xs ≠ [] ∧ k ≤ 1000 ∧ xs.length ≤ 1000 ∧ (k = 1 → Q (.ref l) H) ∧ (k ≠ 1 → ∀ p, H p = none → Q (.ref p) (upd H p (.tup (List.replicate k xs).flatten)))
theorem op_tms {X : Cx} {K : PySem.W.Frag} (h : X.K = K) : OpR X (binaryOp .Mult) (rTms K) := by
  subst h
  intro pins s σ H x y v u Q I rx ry h
  obtain ⟨l, k, xs, rfl, rfl, hT, hne, hk, hx, q1, q2⟩ := h
  by_cases big : 2 ≤ k
  · refine op_repT _ _ _ _ _ _ _ _ _ I rx ry ⟨l, k, xs, rfl, rfl, hT, hne, by omega, by omega, hx, ?_⟩
    rw [Int.toNat_natCast]
    exact q2 (by omega)
  · cases rx
    obtain ⟨tk, rfl⟩ := ry
    obtain ⟨its, r, ⟨⟨cls, dd, data, sl⟩, ho, hc, n, hd⟩, hs⟩ := I.tuple hT
    simp only at hc hd
    subst hc hd
    have full : its.toArray.isEmpty = false := by
      cases its with
      | cons a b => rfl
      | nil => exact absurd (List.eq_nil_of_length_eq_zero r.length) hne
    obtain rfl | rfl : k = 0 ∨ k = 1 := by omega
    · refine wpAny_binaryOp_repeat_ref (T := "tuple") (U := "int") (by decide) ⟨_, ho, rfl⟩ (fun s' => typeIs_int s' _ tk) noFill_tuple_mul F.fills_int_mul F.slot_int_rmul repeat_tuple F.slot_int_index.lookup (call_meets F.slot_int_rmul (typeIs_int s _ tk) F.entry_int_rmul (F.args_int_rmul_2 _ _) (int_rmul_tuple _ tk l its.toArray n dd sl) ⟨ho, rfl, ⟨_, ho, rfl⟩, call_meets F.slot_tuple_mul ⟨_, ho, rfl⟩ F.entry_tuple_mul (F.args_tuple_mul_2 _ _) (never_ l its.toArray n dd sl tk full) ⟨ho, ?_⟩⟩)
      refine ⟨.ref s.heap.objs.size, _, I.laid (t' := s.toks) (o := .tup []) (fun b ob q => Heap.get?_push_of_some _ q) (Nat.le_refl _) ?_, rfl, q2 (by decide) _ (I.hok.fresh (Nat.le_refl _))⟩
      exact ⟨by decide, _, .nil, IsTup.new _ _⟩
    · exact wpAny_binaryOp_repeat_ref (T := "tuple") (U := "int") (by decide) ⟨_, ho, rfl⟩ (fun s' => typeIs_int s' _ tk) noFill_tuple_mul F.fills_int_mul F.slot_int_rmul repeat_tuple F.slot_int_index.lookup (call_meets F.slot_int_rmul (typeIs_int s _ tk) F.entry_int_rmul (F.args_int_rmul_2 _ _) (int_rmul_tuple _ tk l its.toArray n dd sl) ⟨ho, rfl, ⟨_, ho, rfl⟩, call_meets F.slot_tuple_mul ⟨_, ho, rfl⟩ F.entry_tuple_mul (F.args_tuple_mul_2 _ _) (once_ l its.toArray n dd sl tk) ⟨ho, ⟨.ref l, _, I, rfl, q1 rfl⟩⟩⟩)
end Vk
/-! What nearly every law of the table wants: the state of the draws, rows of numbers, short data. -/
namespace Vk
open PySem PySem.Spec PyProof.Rows L2
def mkv (L sd : Int) (c : Addr) (sp : Int) : List (Key × V) := [(.inr "left", .int L), (.inr "seed", .int sd), (.inr "cells", .ref c), (.inr "spot", .int sp)]
theorem val_left {L sd sp : Int} {c : Addr} : valV (mkv L sd c sp) (.inr "left") = some (.int L) := by rfl
theorem val_seed {L sd sp : Int} {c : Addr} : valV (mkv L sd c sp) (.inr "seed") = some (.int sd) := by rfl
theorem val_cells {L sd sp : Int} {c : Addr} : valV (mkv L sd c sp) (.inr "cells") = some (.ref c) := by rfl
theorem val_spot {L sd sp : Int} {c : Addr} : valV (mkv L sd c sp) (.inr "spot") = some (.int sp) := by rfl
theorem put_left {L sd sp i : Int} {c : Addr} : putK (mkv L sd c sp) (.inr "left") (.int i) = mkv i sd c sp := by rfl
theorem put_spot {L sd sp i : Int} {c : Addr} : putK (mkv L sd c sp) (.inr "spot") (.int i) = mkv L sd c i := by rfl
theorem get_m {H : Hp} {m : Addr} {kvs : List (Key × V)} {x : Str} {v : V} (hm : H m = some (.dK kvs)) (h : valV kvs (.inr x) = some v) : DGet H m (.str x) (some v) := by
  have q := DGet.k (k := Sum.inr x) hm
  rw [h] at q
  exact q
theorem put_m {H : Hp} {m : Addr} {L sd sp : Int} {c : Addr} {kvs : List (Key × V)} {x : Str} {v : V} (hm : H m = some (.dK (mkv L sd c sp))) (h : putK (mkv L sd c sp) (.inr x) v = kvs) : DPut H m (.str x) v (upd H m (.dK kvs)) := by
  have q := DPut.k (k := Sum.inr x) (v := v) hm (small1000 (show 4 ≤ 1000 by decide))
  rw [h] at q
  exact q
/-- the state of the draws stands at m; at most n draws were made -/
def MOk (H : Hp) (m c : Addr) (n : Nat) : Prop := ∃ (L sd sp : Int) (cells : List Int), H m = some (.dK (mkv L sd c sp)) ∧ H c = some (.lst (cells.map V.int)) ∧ 0 < cells.length ∧ 0 ≤ sp ∧ sp ≤ n
theorem MOk.but {H H' : Hp} {m c q : Addr} {n : Nat} (h : MOk H m c n) (hq : q ≠ m) (hl : ∀ xs, H q ≠ some (.lst xs)) (s : SameBut q H H') : MOk H' m c n := by
  obtain ⟨L, sd, sp, cells, h1, h2, h3⟩ := h
  refine ⟨L, sd, sp, cells, s _ _ (Ne.symm hq) h1, s _ _ (fun z => hl _ (by rw [← z]; exact h2)) h2, h3⟩
theorem MOk.same {H H' : Hp} {m c : Addr} {n : Nat} (h : MOk H m c n) (s : Same H H') : MOk H' m c n := by
  obtain ⟨L, sd, sp, cells, h1, h2, h3⟩ := h
  exact ⟨L, sd, sp, cells, s _ _ h1, s _ _ h2, h3⟩
def spDraw : Sp := fun vs H Q _ => ∃ (m c : Addr) (n : Nat) (b : Int), vs = [.ref m, .int b] ∧ MOk H m c n ∧ n ≤ 100000 ∧ 0 < b ∧ b.natAbs < 2 ^ 200 ∧
  ∀ H' v, SameBut m H H' → MOk H' m c (n + 1) → 0 ≤ v → v < b → Q (.int v) H'
def spBegun (K : PySem.W.Frag) : Sp := fun vs H Q _ => ∃ (a : Addr) (k : Int) (ns : List Int), vs = [.ref a, .int k] ∧ SqL K H a (ns.map V.int) ∧ ns.length ≤ 63 ∧ 0 ≤ k ∧ k ≤ 100 ∧
  ∀ H' p r, Same H H' → H p = none → MOk H' p r 0 → Q (.ref p) H'
/-- |a| < 2 ^ n -/
def SmZ (n : Nat) (a : Int) : Prop := a.natAbs < 2 ^ n
def dot (xs ys : List Int) : Int := (List.zipWith (· * ·) xs ys).sum
/-- rows of few and small numbers -/
def Row (H : Hp) (a : Addr) (xs : List Int) : Prop := Tp H a (xs.map V.int) ∧ xs.length ≤ 100 ∧ ∀ x ∈ xs, SmZ 300 x
theorem Row.same {H H' : Hp} {a : Addr} {xs : List Int} (h : Row H a xs) (s : Same H H') : Row H' a xs := ⟨h.1.same s, h.2⟩
theorem small {n : Nat} (h : n ≤ 100) : n < sizeLine := Nat.lt_of_le_of_lt h (by decide)
theorem zipW_get {α : Type} {f : Int → Int → α} {xs ys : List Int} {i : Nat} {y : α} (h : (List.zipWith f xs ys)[i]? = some y) : ∃ a b, xs[i]? = some a ∧ ys[i]? = some b ∧ y = f a b := by
  rw [List.getElem?_zipWith] at h
  cases h1 : xs[i]? with
  | none => rw [h1] at h; cases h
  | some a =>
    cases h2 : ys[i]? with
    | none => rw [h1, h2] at h; cases h
    | some b => rw [h1, h2] at h; exact ⟨a, b, rfl, rfl, (Option.some.inj h).symm⟩
theorem map_get {α β : Type} {f : α → β} {xs : List α} {i : Nat} {y : β} (h : (xs.map f)[i]? = some y) : ∃ a, xs[i]? = some a ∧ y = f a := by
  rw [List.getElem?_map] at h
  cases h1 : xs[i]? with
  | none => rw [h1] at h; cases h
  | some a => rw [h1] at h; exact ⟨a, rfl, (Option.some.inj h).symm⟩
theorem wide {a b : Int} (h1 : SmZ 300 a) (h2 : SmZ 300 b) : a.natAbs.log2 + b.natAbs.log2 < 700 := by
  have := PySem.Flt.log2_lt_of (by decide) h1
  have := PySem.Flt.log2_lt_of (by decide) h2
  omega
/-- several rows of n numbers -/
def Rws (H : Hp) (ps : List Addr) (rows : List (List Int)) (n : Nat) : Prop := ps.length = rows.length ∧ ∀ (i : Nat) (p : Addr) (r : List Int), ps[i]? = some p → rows[i]? = some r → Row H p r ∧ r.length = n
theorem Rws.same {H H' : Hp} {ps : List Addr} {rows : List (List Int)} {n : Nat} (h : Rws H ps rows n) (s : Same H H') : Rws H' ps rows n := ⟨h.1, fun i p r h1 h2 => ⟨(h.2 i p r h1 h2).1.same s, (h.2 i p r h1 h2).2⟩⟩
theorem ix_tupK {X : Cx} {K : PySem.W.Frag} (h : X.K = K) : IxR X (rIxT K) := by
  subst h
  exact ix_tup
theorem atI_at {xs : List V} {j : Int} {i : Nat} {v : V} (e : j = ((i : Nat) : Int)) (h : xs[i]? = some v) : atI xs j = some v := by
  rw [e]
  exact atI_nat h
theorem get_map {α β : Type} {f : α → β} {xs : List α} {i : Nat} {x : α} (h : xs[i]? = some x) : (xs.map f)[i]? = some (f x) := by
  rw [List.getElem?_map, h]
  rfl
theorem Row.but {m a : Addr} {H H' : Hp} {xs : List Int} {kvs : List (Key × V)} (h : Row H a xs) (hm : H m = some (.dK kvs)) (s : SameBut m H H') : Row H' a xs := ⟨h.1.but hm s, h.2⟩
theorem Rws.but {m : Addr} {H H' : Hp} {ps : List Addr} {rows : List (List Int)} {n : Nat} {kvs : List (Key × V)} (h : Rws H ps rows n) (hm : H m = some (.dK kvs)) (s : SameBut m H H') : Rws H' ps rows n :=
  ⟨h.1, fun i p r h1 h2 => ⟨(h.2 i p r h1 h2).1.but hm s, (h.2 i p r h1 h2).2⟩⟩
theorem sb_put {m D : Addr} {H1 H4 : Hp} {o : HO} (nD : H1 D = none) (s : SameBut m H1 H4) : SameBut m H1 (upd H4 D o) := fun b u hb e => by
  rw [upd_ne (ne_of_none e nD)]
  exact s _ _ hb e
theorem MOk.m_some {H : Hp} {m c : Addr} {n : Nat} (h : MOk H m c n) : ∃ kvs, H m = some (.dK kvs) := by
  obtain ⟨L, sd, sp, cells, h1, _⟩ := h
  exact ⟨_, h1⟩
theorem MOk.c_some {H : Hp} {m c : Addr} {n : Nat} (h : MOk H m c n) : ∃ xs, H c = some (.lst xs) := by
  obtain ⟨L, sd, sp, cells, _, h2, _⟩ := h
  exact ⟨_, h2⟩
theorem MOk.mono {H : Hp} {m c : Addr} {n n' : Nat} (h : MOk H m c n) (l : n ≤ n') : MOk H m c n' := by
  obtain ⟨L, sd, sp, cells, h1, h2, h3, h4, h5⟩ := h
  exact ⟨L, sd, sp, cells, h1, h2, h3, h4, by omega⟩
theorem MOk.put {H : Hp} {m c D : Addr} {n : Nat} {o : HO} (h : MOk H m c n) (dm : D ≠ m) (dc : D ≠ c) : MOk (upd H D o) m c n := by
  obtain ⟨L, sd, sp, cells, h1, h2, h3, h4, h5⟩ := h
  exact ⟨L, sd, sp, cells, by rw [upd_ne (Ne.symm dm)]; exact h1, by rw [upd_ne (Ne.symm dc)]; exact h2, h3, h4, h5⟩
theorem smz_of {a b : Int} {n : Nat} (h0 : -b ≤ a) (h1 : a ≤ b) (hb : b.natAbs < 2 ^ n) : SmZ n a := by
  unfold SmZ
  have : a.natAbs ≤ b.natAbs := by omega
  omega
theorem smz_mono {a : Int} {n m : Nat} (h : SmZ n a) (l : n ≤ m) : SmZ m a := Nat.lt_of_lt_of_le h (Nat.pow_le_pow_right (by decide) l)
theorem smz_mul {a b : Int} {n m : Nat} (h1 : SmZ n a) (h2 : SmZ m b) : SmZ (n + m) (a * b) := by
  unfold SmZ at *
  rw [Int.natAbs_mul, Nat.pow_add]
  exact Nat.mul_lt_mul'' h1 h2
theorem ix_listK {X : Cx} {K : PySem.W.Frag} (h : X.K = K) : IxR X (rIxL K) := by
  subst h
  exact ix_list
theorem getD_at {xs : List Int} {i : Nat} (hi : i < xs.length) : xs[i]? = some (xs.getD i 0) := by
  rw [List.getD_eq_getElem?_getD, List.getElem?_eq_getElem hi]
  rfl
/-- a run over any walk, whatever a turn's form -/
theorem walk_run {J : It} {n : Nat} {G : Hp → Prop} {Y : Nat → Hp → V → Hp → Prop} (w : Walk J n G Y) (B : (Hp → Prop) → V → Hp → Prop) (Pv : Nat → Hp → Prop) {H0 : Hp} {Z : Hp → Prop} (h0 : Pv 0 H0) (hG : ∀ i H, i ≤ n → Pv i H → G H)
    (hs : ∀ i x H H', i < n → Pv i H → Y i H x H' → B (Pv (i + 1)) x H') (hd : ∀ H, Pv n H → Z H) :
    ∃ W : Nat → Nat → Hp → Prop, (∃ m, W 0 m H0) ∧ ∀ i m H, W i m H → (J.stop i H ∧ Z H) ∨ (J.go i H ∧ ∃ Nx : Hp → Prop, (∀ H', Nx H' → ∃ m', m' < m ∧ W (i + 1) m' H') ∧ ∀ x H', J.yld i H x H' → B Nx x H') := by
  refine ⟨fun i m H => m = n - i ∧ i ≤ n ∧ Pv i H, ⟨n - 0, rfl, Nat.zero_le _, h0⟩, ?_⟩
  rintro i m H ⟨rfl, hi, p⟩
  by_cases lt : i < n
  · exact .inr ⟨w.goes i H lt (hG i H hi p), Pv (i + 1), fun H' p' => ⟨n - (i + 1), by omega, rfl, lt, p'⟩, fun x H' y => hs i x H H' lt p (w.yields i H x H' lt (hG i H hi p) y)⟩
  · obtain rfl : i = n := by omega
    exact .inl ⟨w.stops H (hG _ H hi p), hd H p⟩
/-- several tuples of numbers -/
def Rw (H : Hp) (ps : List Addr) (ss : List (List Int)) : Prop := ps.length = ss.length ∧ ∀ (i : Nat) (p : Addr) (r : List Int), ps[i]? = some p → ss[i]? = some r → Tp H p (r.map V.int)
theorem Rw.same {H H' : Hp} {ps : List Addr} {ss : List (List Int)} (h : Rw H ps ss) (s : Same H H') : Rw H' ps ss := ⟨h.1, fun i p r h1 h2 => (h.2 i p r h1 h2).same s⟩
theorem Rw.snoc {H : Hp} {ps : List Addr} {ss : List (List Int)} {p : Addr} {r : List Int} (h : Rw H ps ss) (hp : Tp H p (r.map V.int)) : Rw H (ps ++ [p]) (ss ++ [r]) := by
  refine ⟨by rw [List.length_append, List.length_append, h.1]; rfl, fun j a z h1 h2 => ?_⟩
  by_cases hj : j < ps.length
  · rw [List.getElem?_append_left hj] at h1
    rw [List.getElem?_append_left (by rw [← h.1]; exact hj)] at h2
    exact h.2 j a z h1 h2
  · rw [List.getElem?_append_right (by omega)] at h1
    rw [List.getElem?_append_right (by rw [← h.1]; omega)] at h2
    have j0 : j - ps.length = 0 := by
      have := (List.getElem?_eq_some_iff.mp h1).1
      simp only [List.length_cons, List.length_nil] at this
      omega
    rw [j0] at h1
    rw [← h.1, j0] at h2
    obtain rfl : p = a := Option.some.inj h1
    obtain rfl : r = z := Option.some.inj h2
    exact hp
theorem eqv_rows (xs ys : List Int) : PyData.eqv (.tuple (xs.map PyData.int)) (.tuple (ys.map PyData.int)) = decide (xs = ys) := by
  rw [show PyData.eqv (.tuple (xs.map PyData.int)) (.tuple (ys.map PyData.int)) = PyData.eqvAll (xs.map PyData.int) (ys.map PyData.int) by simp only [PyData.eqv]]
  exact PySem.W.ked_eqvAll xs ys
theorem shaped_row (ns : List Int) : SeqAt.shaped (.tuple (ns.map PyData.int)) = true := by
  obtain ⟨h1, h2⟩ := lay_ints ns
  simp [SeqAt.shaped, PyData.canLay0, PyData.depth, h1, h2]
theorem pa_starK {X : Cx} {K : PySem.W.Frag} {e : Expr} {es : List Expr} {te : TE} {t : TA} {p : Pos} (h : X.K = K) (he : PE X e te) (hr : PA X es t) (hs : starEach (.Starred e p :: es) X.env = (true, eval e X.env) :: starEach es X.env := by rfl) : PA X (.Starred e p :: es) (StX.tStar K te t) := by
  subst h
  exact StX.pa_star he hr hs
theorem op_neDK {X : Cx} {K : PySem.W.Frag} (h : X.K = K) (hu : X.A.units + 64 < cLine) : OpR X (compareOp .NotEq) (rNeD K) := by
  subst h
  exact op_neD hu
theorem big {n : Nat} (h : n ≤ 40000) : n < sizeLine := Nat.lt_of_le_of_lt h (by decide)
theorem tp_put {H : Hp} {p D : Addr} {xs l : List V} {o : HO} (h : Tp H p xs) (d : H D = some (.lst l)) : Tp (upd H D o) p xs := by
  have ne : p ≠ D := by
    rintro rfl
    have h : H p = some (.tup xs) := h
    rw [h] at d
    cases d
  show upd H D o p = some (.tup xs)
  rw [upd_ne ne]
  exact h
theorem Rw.put {H : Hp} {D : Addr} {l : List V} {o : HO} {ps : List Addr} {ss : List (List Int)} (h : Rw H ps ss) (d : H D = some (.lst l)) : Rw (upd H D o) ps ss := ⟨h.1, fun i p r h1 h2 => tp_put (h.2 i p r h1 h2) d⟩
theorem op_tmsK {X : Cx} {K : PySem.W.Frag} (h : X.K = K) : OpR X (binaryOp .Mult) (rTms K) := op_tms h
theorem tms_tp {K : PySem.W.Frag} {H : Hp} {a : Addr} {xs : List V} {k : Nat} {z : Int} {Q : VK} (ez : z = ((k : Nat) : Int)) (ha : Tp H a xs) (ne : xs ≠ []) (hk : k ≤ 1000) (hx : xs.length ≤ 1000) (q : ∀ r H', Same H H' → Tp H' r (List.replicate k xs).flatten → Q (.ref r) H') : rTms K (.ref a) (.int z) H Q := by
  subst ez
  refine ⟨a, k, xs, rfl, rfl, ha.t, ne, hk, hx, fun e => ?_, fun _ p np => q p _ (same_new np) upd_same⟩
  subst e
  refine q a H (Same.refl _) ?_
  rw [List.replicate_one, List.flatten_singleton]
  exact ha
def spSigned : Sp := fun vs H Q _ => ∃ (m c : Addr) (q : Nat) (b : Int), vs = [.ref m, .int b] ∧ MOk H m c q ∧ q ≤ 50000 ∧ 0 ≤ b ∧ b ≤ 1000 ∧ ∀ H' v, SameBut m H H' → MOk H' m c (q + 2) → -b ≤ v → v ≤ b → Q (.int v) H'
/-- two values of the same data -/
def spLike (K : PySem.W.Frag) : Sp := fun vs H Q _ => ∃ x y d, vs = [x, y] ∧ Dp K H x d ∧ Dp K H y d ∧ Fit d ∧ Q (.bl true) H
theorem iteF' {c : Bool} {A B : Prop} (hc : c = false) (h : B) : if c = true then A else B := by
  subst hc
  exact iteF h
theorem dot_abs (A M : Nat) : ∀ (xs ys : List Int), (∀ x ∈ xs, x.natAbs ≤ A) → (∀ y ∈ ys, y.natAbs ≤ M) → (dot xs ys).natAbs ≤ ys.length * (A * M)
  | [], _, _, _ => by
    show (0 : Int).natAbs ≤ _
    exact Nat.zero_le _
  | x :: xs, [], _, _ => by
    show (0 : Int).natAbs ≤ _
    exact Nat.zero_le _
  | x :: xs, y :: ys, hx, hy => by
    have ih := dot_abs A M xs ys (fun a h => hx a (List.mem_cons_of_mem _ h)) (fun a h => hy a (List.mem_cons_of_mem _ h))
    have e : dot (x :: xs) (y :: ys) = x * y + dot xs ys := by
      unfold dot
      rw [List.zipWith_cons_cons, List.sum_cons]
    rw [e, List.length_cons, Nat.succ_mul]
    have h1 : (x * y).natAbs ≤ A * M := by
      rw [Int.natAbs_mul]
      exact Nat.mul_le_mul (hx x (List.mem_cons_self ..)) (hy y (List.mem_cons_self ..))
    have h2 := Int.natAbs_add_le (x * y) (dot xs ys)
    omega
theorem fdiv_abs {a d : Int} (hd : 0 < d) : (a.fdiv d).natAbs ≤ a.natAbs := by
  rw [Int.fdiv_eq_ediv_of_nonneg _ (Int.le_of_lt hd)]
  exact Int.natAbs_ediv_le_natAbs a d
theorem fit_all {k a : Nat} : ∀ (L : Nat) (ds : List PyData), (∀ d ∈ ds, FitN k a d) → ds.length ≤ L → FitLN k ((a + 1) * L) ds
  | _, [], _, _ => .nil
  | 0, d :: ds, _, h => by cases h
  | L + 1, d :: ds, hd, h => by
    refine .cons (hd d (List.mem_cons_self ..)) (fit_all L ds (fun x hx => hd x (List.mem_cons_of_mem _ hx)) (by rw [List.length_cons] at h; omega)) ?_
    rw [Nat.mul_succ]
    omega
theorem fit_ints {k : Nat} (L : Nat) (xs : List Int) (h : ∀ x ∈ xs, SmZ 300 x) (hl : xs.length ≤ L) : FitN (k + 1) L (.tuple (xs.map PyData.int)) := by
  have q := fit_all (k := k) (a := 0) L (xs.map PyData.int) (fun d hd => by
    obtain ⟨x, hx, rfl⟩ := List.mem_map.mp hd
    exact FitN.int (Nat.lt_of_lt_of_le (h x hx) (Nat.pow_le_pow_right (by decide) (by decide)))) (by rw [List.length_map]; exact hl)
  rw [Nat.zero_add, Nat.one_mul] at q
  exact .tup q
/-- the data of a row, of a table, of a grid -/
def dRow (r : List Int) : PyData := .tuple (r.map PyData.int)
theorem dp_row {K : PySem.W.Frag} {H : Hp} {p : Addr} {r : List Int} (h : Tp H p (r.map V.int)) : Dp K H (.ref p) (dRow r) := .tup h.t (dp_ints r)
theorem dp_all {K : PySem.W.Frag} {H : Hp} : ∀ (qs : List Addr) (ds : List PyData), qs.length = ds.length → (∀ (i : Nat) (q : Addr) (d : PyData), qs[i]? = some q → ds[i]? = some d → Dp K H (.ref q) d) → DpAll K H (qs.map V.ref) ds
  | [], [], _, _ => .nil
  | [], _ :: _, h, _ => by cases h
  | _ :: _, [], h, _ => by cases h
  | q :: qs, d :: ds, h, k => .cons (k 0 q d rfl rfl) (dp_all qs ds (Nat.succ.inj h) fun i a b h1 h2 => k (i + 1) a b h1 h2)
instance (n : Nat) (a : Int) : Decidable (SmZ n a) := Nat.decLt _ _
theorem MOk.ext {H H' : Hp} {m r : Addr} {n : Nat} (h : MOk H m r n) (e : LamX.ExtN H H') : MOk H' m r n := by
  obtain ⟨L, sd, sp, cells, h1, h2, h3⟩ := h
  exact ⟨L, sd, sp, cells, e _ _ h1 (fun ps z => by cases z), e _ _ h2 (fun ps z => by cases z), h3⟩
theorem sql_ext {K : PySem.W.Frag} {H H' : Hp} {a : Addr} {xs : List V} (h : SqL K H a xs) (e : LamX.ExtN H H') : SqL K H' a xs := by
  rcases h with (h | ⟨o, h⟩) | h
  · exact .inl (.inl (e _ _ h fun ps z => by cases z))
  · exact .inl (.inr ⟨o, e _ _ h fun ps z => by cases z⟩)
  · exact .inr h
theorem ext_but {H H1 H2 : Hp} {m : Addr} (hm : H m = none) (a : LamX.ExtN H H1) (b : SameBut m H1 H2) : LamX.ExtN H H2 := fun c o h n => b c o (ne_of_none h hm) (a c o h n)
theorem tabs_but {T : List (Addr × Str)} {H H' : Hp} {m : Addr} {kvs : List (Key × V)} (hT : LamX.Tabs T H) (hm : H m = some (.dK kvs)) (s : SameBut m H H') : LamX.Tabs T H' := fun p hp => by
  obtain ⟨ps, h1, h2, h3⟩ := hT p hp
  refine ⟨ps, s _ _ (ne_of h1 hm (by intro z; cases z)) h1, h2, fun pos cv hc => ?_⟩
  obtain ⟨c, e1, e2⟩ := h3 pos cv hc
  exact ⟨c, e1, s _ _ (ne_of e2 hm (by intro z; unfold LamX.CodeO at z; cases z)) e2⟩
theorem ext_same {H H1 H2 : Hp} (a : LamX.ExtN H H1) (b : Same H1 H2) : LamX.ExtN H H2 := a.trans (LamX.ExtN.of b)
theorem Tp.ext {H H' : Hp} {a : Addr} {xs : List V} (h : Tp H a xs) (e : LamX.ExtN H H') : Tp H' a xs := e _ _ h fun ps z => by cases z
theorem cons_ {te : TE} {t : TA} {σ : L2.St} {H : Hp} {R : List V → Hp → Prop} (h : te σ H fun x H1 => t σ H1 fun xs H2 => R (x :: xs) H2) : tCons te t σ H R := h
def tInts : List Int → TA
  | [] => tNil
  | x :: r => tCons (tC (.int x)) (tInts r)
def tRows : List (List Int) → TA
  | [] => tNil
  | x :: r => tCons (tTup (tInts x)) (tRows r)
theorem ints_ {σ : L2.St} {H : Hp} : ∀ (xs : List Int) {R : List V → Hp → Prop}, R (xs.map V.int) H → tInts xs σ H R
  | [], _, h => h
  | x :: r, R, h => ints_ r (R := fun vs H' => R (.int x :: vs) H') h
theorem row_ {σ : L2.St} {H : Hp} (xs : List Int) (hl : xs.length ≤ 100) {Q : VK} (h : ∀ p H', Same H H' → Tp H' p (xs.map V.int) → Q (.ref p) H') : tTup (tInts xs) σ H Q :=
  ints_ xs ⟨by rw [List.length_map]; exact Nat.le_of_lt (small hl), fun p np => h p _ (same_new np) upd_same⟩
theorem rows_ {n : Nat} {σ : L2.St} : ∀ (rs : List (List Int)) {H : Hp} {R : List V → Hp → Prop}, (∀ r ∈ rs, r.length = n ∧ n ≤ 100 ∧ ∀ x ∈ r, SmZ 300 x) → (∀ ps H', Same H H' → Rws H' ps rs n → R (ps.map V.ref) H') → tRows rs σ H R
  | [], H, R, _, h => h [] H (Same.refl _) ⟨rfl, fun i p r e _ => by cases e⟩
  | x :: rs, H, R, hx, h => by
    obtain ⟨l, ln, z⟩ := hx x (List.mem_cons_self ..)
    show tTup (tInts x) σ H fun v H1 => tRows rs σ H1 fun xs H2 => R (v :: xs) H2
    refine row_ x (by omega) fun p H1 s1 g1 => ?_
    refine rows_ rs (fun r hr => hx r (List.mem_cons_of_mem _ hr)) fun ps H2 s2 w2 => ?_
    refine h (p :: ps) H2 (s1.trans s2) ⟨by rw [List.length_cons, List.length_cons, w2.1], fun i q r e1 e2 => ?_⟩
    cases i with
    | zero =>
      obtain rfl : p = q := Option.some.inj e1
      obtain rfl : x = r := Option.some.inj e2
      exact ⟨⟨g1.same s2, by omega, z⟩, l⟩
    | succ i => exact w2.2 i q r e1 e2
theorem smz_le {x b : Int} (h0 : 0 ≤ x) (h1 : x ≤ b) (hb : b.natAbs < 2 ^ 300) : SmZ 300 x := smz_of (b := b) (by omega) h1 hb
def spOf : Sp := fun vs H Q _ => ∃ (m c L : Addr) (n : Nat) (xs : List V), vs = [.ref m, .ref L] ∧ MOk H m c n ∧ n ≤ 100000 ∧ H L = some (.lst xs) ∧ 0 < xs.length ∧ xs.length ≤ 100 ∧ ∀ H' v, SameBut m H H' → MOk H' m c (n + 1) → v ∈ xs → Q v H'
theorem Row.tail {H : Hp} {a : Addr} {x : Int} {xs : List Int} (h : Row H a (x :: xs)) : xs.length ≤ 100 ∧ ∀ y ∈ xs, SmZ 300 y := ⟨Nat.le_trans (Nat.le_succ _) h.2.1, fun y hy => h.2.2 y (List.mem_cons_of_mem _ hy)⟩
theorem smz_log {a : Int} {n : Nat} (hn : 0 < n) (h : SmZ n a) : a.natAbs.log2 < n := PySem.Flt.log2_lt_of hn h
def spIsn : Sp := fun vs H Q _ => ∃ x t, vs = [x] ∧ Oky H x t ∧ Q (.bl (isInt x)) H
def tupOk (n : Nat) (xs : List V) : Bool := decide (xs.length = n) && xs.all isInt
/-- a value of any kind is judged: an entry of a tuple, too -/
def spAren : Sp := fun vs H Q _ => ∃ (x : V) (n : Nat), vs = [x, .int n] ∧ ((∃ t, Oky H x t ∧ t ≠ "tuple" ∧ Q (.bl false) H) ∨ ∃ a xs, x = .ref a ∧ Tp H a xs ∧ xs.length ≤ 100 ∧ (∀ e ∈ xs, ∃ t, Oky H e t) ∧ ∀ H', Same H H' → Q (.bl (tupOk n xs)) H')
def spPsum : Sp := fun vs H Q _ => ∃ (a b : Addr) (xs ys : List Int), vs = [.ref a, .ref b] ∧ Row H a xs ∧ Row H b ys ∧ xs.length = ys.length ∧ ∀ H', Same H H' → Q (.int (dot xs ys)) H'
def spFval : Sp := fun vs H Q _ => ∃ (a b : Addr) (c : Int) (xs ys : List Int), vs = [.ref a, .ref b] ∧ Row H a (c :: xs) ∧ Row H b ys ∧ xs.length = ys.length ∧ ∀ H', Same H H' → Q (.int (c + dot xs ys)) H'
def spFsum : Sp := fun vs H Q _ => ∃ (a b : Addr) (xs ys : List Int), vs = [.ref a, .ref b] ∧ Row H a xs ∧ Row H b ys ∧ xs.length = ys.length ∧ ∀ r H', Same H H' → Tp H' r ((List.zipWith (· + ·) xs ys).map V.int) → Q (.ref r) H'
def spFtimes : Sp := fun vs H Q _ => ∃ (a : Addr) (n : Int) (xs : List Int), vs = [.ref a, .int n] ∧ Row H a xs ∧ SmZ 300 n ∧ ∀ r H', Same H H' → Tp H' r ((xs.map (n * ·)).map V.int) → Q (.ref r) H'
def spGcd : Sp := fun vs H Q _ => ∃ a c : Int, vs = [.int a, .int c] ∧ Q (.int (Int.gcd a c)) H
def sg (n : Int) : Int := (if 0 < n then 1 else 0) - (if n < 0 then 1 else 0)
def spSign : Sp := fun vs H Q _ => ∃ n : Int, vs = [.int n] ∧ Q (.int (sg n)) H
/-- a value of some kind, not the drawn dict -/
def Ky (m : Addr) (H : Hp) (x : V) : Prop := x ≠ .ref m ∧ ∃ t, Oky H x t
/-- a value that is judged -/
def Kn (m : Addr) (H : Hp) (x : V) : Prop := x ≠ .ref m ∧ ((∃ t, Oky H x t ∧ t ≠ "tuple") ∨ ∃ a xs, x = .ref a ∧ Tp H a xs ∧ xs.length ≤ 100 ∧ ∀ e ∈ xs, Ky m H e)
theorem Ky.but {m : Addr} {H H' : Hp} {x : V} (h : Ky m H x) (s : SameBut m H H') : Ky m H' x := by
  obtain ⟨n, t, h⟩ := h
  refine ⟨n, t, ?_⟩
  cases h with
  | non => exact .non
  | bl b => exact .bl b
  | int i => exact .int i
  | str x => exact .str x
  | lst e => exact .lst (s _ _ (fun z => n (by rw [z])) e)
  | tup e => exact .tup (s _ _ (fun z => n (by rw [z])) e)
  | dK e => exact .dK (s _ _ (fun z => n (by rw [z])) e)
theorem Kn.but {m : Addr} {H H' : Hp} {x : V} (h : Kn m H x) (s : SameBut m H H') : Kn m H' x := by
  obtain ⟨n, ⟨t, h, ht⟩ | ⟨a, xs, rfl, ha, hl, hes⟩⟩ := h
  · refine ⟨n, .inl ⟨t, ?_, ht⟩⟩
    cases h with
    | non => exact .non
    | bl b => exact .bl b
    | int i => exact .int i
    | str x => exact .str x
    | lst e => exact .lst (s _ _ (fun z => n (by rw [z])) e)
    | tup e => exact absurd rfl ht
    | dK e => exact .dK (s _ _ (fun z => n (by rw [z])) e)
  · exact ⟨n, .inr ⟨a, xs, rfl, s _ _ (fun z => n (by rw [z])) ha, hl, fun e he => (hes e he).but s⟩⟩
theorem Ky.int {m : Addr} {H : Hp} (i : Int) : Ky m H (.int i) := ⟨(fun z => by cases z), _, .int i⟩
theorem ky_row {m : Addr} {H : Hp} {xs : List Int} : ∀ e ∈ xs.map V.int, Ky m H e := fun e he => by
  obtain ⟨i, _, rfl⟩ := List.mem_map.mp he
  exact Ky.int i
theorem Kn.tp {m a : Addr} {H : Hp} {xs : List V} (hm : ∃ kvs, H m = some (.dK kvs)) (ha : Tp H a xs) (hl : xs.length ≤ 100) (h : ∀ e ∈ xs, Ky m H e) : Kn m H (.ref a) := by
  obtain ⟨kvs, hm⟩ := hm
  exact ⟨fun z => ne_of ha hm (by intro w; cases w) (V.ref.inj z), .inr ⟨a, xs, rfl, ha, hl, h⟩⟩
theorem Kn.lst {m a : Addr} {H : Hp} {xs : List V} (hm : ∃ kvs, H m = some (.dK kvs)) (ha : H a = some (.lst xs)) : Kn m H (.ref a) := by
  obtain ⟨kvs, hm⟩ := hm
  exact ⟨fun z => ne_of ha hm (by intro w; cases w) (V.ref.inj z), .inl ⟨_, .lst ha, by decide⟩⟩
theorem Ky.tp {m a : Addr} {H : Hp} {xs : List V} (hm : ∃ kvs, H m = some (.dK kvs)) (ha : Tp H a xs) : Ky m H (.ref a) := by
  obtain ⟨kvs, hm⟩ := hm
  exact ⟨fun z => ne_of ha hm (by intro w; cases w) (V.ref.inj z), _, .tup ha⟩
theorem Ky.lst {m a : Addr} {H : Hp} {xs : List V} (hm : ∃ kvs, H m = some (.dK kvs)) (ha : H a = some (.lst xs)) : Ky m H (.ref a) := by
  obtain ⟨kvs, hm⟩ := hm
  exact ⟨fun z => ne_of ha hm (by intro w; cases w) (V.ref.inj z), _, .lst ha⟩
theorem cut_mem {xs : List V} {lo hi : Option Int} {e : V} (h : e ∈ cutV xs lo hi) : e ∈ xs := by
  unfold cutV at h
  exact List.mem_of_mem_drop (List.mem_of_mem_take h)
theorem cut_len {xs : List V} {lo hi : Option Int} : (cutV xs lo hi).length ≤ xs.length := by
  unfold cutV
  rw [List.length_take, List.length_drop]
  omega
theorem sm_but {m : Addr} {H0 H H' : Hp} (nm : H0 m = none) (s : Same H0 H) (b : SameBut m H H') : Same H0 H' := fun a o e => b a o (ne_of_none e nm) (s a o e)
theorem sql_same {K : PySem.W.Frag} {H H' : Hp} {a : Addr} {xs : List V} (h : SqL K H a xs) (s : Same H H') : SqL K H' a xs := s.seq h
theorem nat_of {v : Int} (h : 0 ≤ v) : ∃ n : Nat, v = n := ⟨v.toNat, by omega⟩
/-- a comprehension of drawn numbers, w draws for each -/
theorem lc_dr {n w : Nat} {g : TG} {te : TE} {vs : List Nat} {σ : L2.St} {H1 : Hp} {D : Addr} {Qd : Hp → Prop} {m c : Addr} {q : Nat} (R : Nat → Int → Prop) (hz : n < sizeLine) (hM : MOk H1 m c q) (nD : H1 D = none)
    (hs : ∀ (i : Nat) (H : Hp) (Qy : VK), i < n → SameBut m H1 H → MOk H m c (q + w * i) → (∀ H4 v, SameBut m H H4 → MOk H4 m c (q + w * i + w) → R i v → Qy (.int v) H4) → g (.int (0 + i)) (wipe σ vs) H fun σ2 H2 => wipe σ2 vs = wipe σ vs ∧ te σ2 H2 Qy)
    (hd : ∀ H (xs : List Int), SameBut m H1 H → MOk H m c (q + w * n) → H D = some (.lst (xs.map V.int)) → xs.length = n → (∀ (i : Nat) (x : Int), xs[i]? = some x → R i x) → Qd H) :
    ∃ W : Nat → Nat → Hp → Prop, (∃ m, W 0 m (upd H1 D (.lst []))) ∧ ∀ i m H, W i m H →
      ((Itr 0 n).stop i H ∧ Qd H) ∨ ((Itr 0 n).go i H ∧ ∃ Nx : Hp → Prop, (∀ H', Nx H' → ∃ m', m' < m ∧ W (i + 1) m' H') ∧ ∀ x H', (Itr 0 n).yld i H x H' → g x (wipe σ vs) H' fun σ2 H2 => wipe σ2 vs = wipe σ vs ∧ tYes σ2 H2 fun b H3 =>
        if b = true then te σ2 H3 fun y H4 => ∃ acc, H4 D = some (.lst acc) ∧ acc.length < sizeLine ∧ Nx (upd H4 D (.lst (acc ++ [y]))) else Nx H3) := by
  obtain ⟨kvs, hm⟩ := hM.m_some
  obtain ⟨ys, hc⟩ := hM.c_some
  have dm : D ≠ m := Ne.symm (ne_of_none hm nD)
  have dc : D ≠ c := Ne.symm (ne_of_none hc nD)
  refine lc_it (walk_range (lo := 0) (n := n)) (tt := tYes) (fun i H => ∃ xs : List Int, SameBut m H1 H ∧ MOk H m c (q + w * i) ∧ H D = some (.lst (xs.map V.int)) ∧ xs.length = i ∧ ∀ (j : Nat) (x : Int), xs[j]? = some x → R j x) ⟨[], SameBut.of (same_new nD), hM.put dm dc, upd_same, rfl, fun j x hx => by cases hx⟩ (fun _ _ _ _ => True.intro) ?_ ?_
  · rintro i x H H' hi ⟨xs, sb, M, d, l, bd⟩ ⟨rfl, rfl⟩
    refine hs i H' (fun y H4 => ∃ acc, H4 D = some (.lst acc) ∧ acc.length < sizeLine ∧ ∃ xs : List Int, SameBut m H1 (upd H4 D (.lst (acc ++ [y]))) ∧ MOk (upd H4 D (.lst (acc ++ [y]))) m c (q + w * (i + 1)) ∧ upd H4 D (.lst (acc ++ [y])) D = some (.lst (xs.map V.int)) ∧ xs.length = i + 1 ∧ ∀ (j : Nat) (x : Int), xs[j]? = some x → R j x) hi sb M fun H4 v b4 M4 v0 => ?_
    refine ⟨xs.map V.int, b4 _ _ dm d, by rw [List.length_map]; omega, xs ++ [v], sb_put nD (sb.trans b4), (M4.put dm dc).mono (by rw [Nat.mul_succ]; omega), ?_, by rw [List.length_append, l]; rfl, fun j x hx => ?_⟩
    · rw [upd_same, List.map_append]
      rfl
    · by_cases hj : j < xs.length
      · rw [List.getElem?_append_left hj] at hx
        exact bd j x hx
      · have hj2 := (List.getElem?_eq_some_iff.mp hx).1
        rw [List.length_append] at hj2
        have hj3 : j = xs.length := by
          simp only [List.length_cons, List.length_nil] at hj2
          omega
        subst hj3
        rw [List.getElem?_append_right (Nat.le_refl _), Nat.sub_self] at hx
        obtain rfl := Option.some.inj hx
        rw [l]
        exact v0
  · rintro H ⟨xs, sb, M, d, l, bd⟩
    exact hd H xs sb M d l bd
/-- a comprehension with a test, over any walk: the values of the kept places -/
theorem lc_fl {J : It} {n : Nat} {G : Hp → Prop} {Y : Nat → Hp → V → Hp → Prop} (w : Walk J n G Y) {g : TG} {tt : TT} {te : TE} {vs : List Nat} {σ : L2.St} {H1 : Hp} {D : Addr} {Qd : Hp → Prop} (keep : Nat → Bool) (val : Nat → V) (hz : n < sizeLine) (nD : H1 D = none)
    (hG : ∀ H, Same H1 H → G H)
    (hs : ∀ (i : Nat) (x : V) (H H' : Hp) (Qy : VK) (Nx : Hp → Prop), i < n → Same H1 H → Y i H x H' → (keep i = true → ∀ H4, Same H H4 → Qy (val i) H4) → (keep i = false → ∀ H4, Same H H4 → Nx H4) → g x (wipe σ vs) H' fun σ2 H2 => wipe σ2 vs = wipe σ vs ∧ tt σ2 H2 fun b H3 => if b = true then te σ2 H3 Qy else Nx H3)
    (hd : ∀ H, Same H1 H → H D = some (.lst (((List.range n).filter keep).map val)) → Qd H) :
    ∃ W : Nat → Nat → Hp → Prop, (∃ m, W 0 m (upd H1 D (.lst []))) ∧ ∀ i m H, W i m H →
      (J.stop i H ∧ Qd H) ∨ (J.go i H ∧ ∃ Nx : Hp → Prop, (∀ H', Nx H' → ∃ m', m' < m ∧ W (i + 1) m' H') ∧ ∀ x H', J.yld i H x H' → g x (wipe σ vs) H' fun σ2 H2 => wipe σ2 vs = wipe σ vs ∧ tt σ2 H2 fun b H3 =>
        if b = true then te σ2 H3 fun y H4 => ∃ acc, H4 D = some (.lst acc) ∧ acc.length < sizeLine ∧ Nx (upd H4 D (.lst (acc ++ [y]))) else Nx H3) := by
  refine lc_it w (tt := tt) (fun i H => Same H1 H ∧ H D = some (.lst (((List.range i).filter keep).map val))) ⟨same_new nD, by rw [upd_same]; rfl⟩ (fun i H _ p => hG H p.1) ?_ ?_
  · rintro i x H H' hi ⟨s, d⟩ y
    refine hs i x H H' _ _ hi s y (fun hk H4 s4 => ?_) (fun hk H4 s4 => ?_)
    · refine ⟨_, s4 _ _ d, ?_, same_put (s.trans s4) nD, ?_⟩
      · rw [List.length_map]
        have := List.length_filter_le keep (List.range i)
        rw [List.length_range] at this
        omega
      · rw [upd_same, List.range_succ, List.filter_append, List.filter_cons_of_pos hk, List.filter_nil, List.map_append]
        rfl
    · refine ⟨s.trans s4, ?_⟩
      rw [s4 _ _ d, List.range_succ, List.filter_append, List.filter_cons_of_neg (by rw [hk]; decide), List.filter_nil, List.append_nil]
  · rintro H ⟨s, d⟩
    exact hd H s d
theorem lay_rows : ∀ rows : List (List Int), PyData.canLayAll0 (rows.map dRow) = true ∧ PyData.depthAll (rows.map dRow) ≤ 1
  | [] => ⟨by simp [PyData.canLayAll0], by simp [PyData.depthAll]⟩
  | r :: rs => by
    obtain ⟨h1, h2⟩ := lay_rows rs
    obtain ⟨h3, h4⟩ := lay_ints r
    refine ⟨by simp [PyData.canLayAll0, dRow, PyData.canLay0, h1, h3], ?_⟩
    simp only [List.map_cons, PyData.depthAll, dRow, PyData.depth, h4]
    omega
theorem shaped_rows (rows : List (List Int)) : SeqAt.shaped (.list (rows.map dRow)) = true ∧ SeqAt.shaped (.tuple (rows.map dRow)) = true := by
  obtain ⟨h1, h2⟩ := lay_rows rows
  constructor <;> simp [SeqAt.shaped, PyData.canLay0, PyData.depth, h1] <;> omega
theorem iteT' {c : Bool} {A B : Prop} (hc : c = true) (h : A) : if c = true then A else B := by
  subst hc
  exact iteT h
theorem all_of_get {xs : List Int} {R : Int → Prop} (h : ∀ (i : Nat) (x : Int), xs[i]? = some x → R x) : ∀ x ∈ xs, R x := fun x hx => by
  obtain ⟨i, hi⟩ := List.getElem?_of_mem hx
  exact h i x hi
end Vk
/-! Raising and hearing an error without attributes. -/
namespace Vk
open PySem PySem.Spec PyProof.Rows L2
/-- X(), X an own exception class without own __init__ -/
theorem pmk_own0 {X : Cx} {C : Addr} {bmB : List Value} {B newId initId : String} {x : Str} {p pos : Pos} (F : ExcBaseFacts B newId initId bmB) (q : PySem.W.excIn X.K C bmB newId = true) (gC : X.mg x = some (.ref C))
    (kC : PySem.W.keepIn X.K (.ref C) = true) (r : Raises X (.ref C)) (hg : Gl X x) (hdb : (x == ("__debug__" : Str)) = false := by decide) :
    PMk X (.Call (.Name x p) [] [] pos) (fun _ H Q => Q (.ref C) none H) := by
  intro pins s σ H Q I h
  obtain ⟨bm, N, nm, qn, bs, hd, sn, sub, ab, col, dd, k0, k1, k2, k3, k5, mN, hC, hN, hni, T⟩ := exc_obj I.kIn q
  refine wpAny_Call_Name_kw (ld_glob I hg gC (PySem.W.callWith_K0 I.kIn kC ?_) hdb)
  exact wpAny_call_exc_subT F T hC hN hni (fun h' e hm => mk_of I hm r h (I.hok.gone hm.new)) (Nat.zero_le _)
/-- what is known of an own exception class -/
structure ExcT (K : PySem.W.Frag) (mg : Str → Option Value) (x : Str) (C : Addr) : Prop where
  g : mg x = some (.ref C)
  ex : PySem.W.excIn K C [.type "ValueError", .type "Exception", .type "BaseException", .type "object"] "ValueError.__new__" = true
  k : PySem.W.keepIn K (.ref C) = true
  b : PySem.W.subIn K (.ref C) (.type "BaseException") = some true
  t : PySem.W.typeIn K (.ref C) = some (.type "type")
/-- the def that may refuse, by its name -/
def CalX (P : Program) (w : World) (K : PySem.W.Frag) (mg : Str → Option Value) (base : Heap) (k : Nat) (x : Str) (ps : List Str) (sp : Sp) : Prop :=
  ∃ f fd, FnOk P w K mg base (L2.CX P w) k f fd ps sp ∧ mg x = some (.ref f) ∧ PySem.W.keepIn K (.ref f) = true ∧ Binds K fd ps []
end Vk
namespace K17
open PySem PySem.Spec PyProof.Rows L2 Vk
def topS (i : Nat) : Stmt := PySem.Challenge.pw_pointtally_k17_whole_amounts.main.body.getD i (.Pass ⟨0, 0, 0, 0⟩)
abbrev s_draw : Stmt := topS 25
theorem sc_draw : FnScope ["m", "bound", "found", "spot", "cells", "extra", "cell", "blend"] ["m", "bound"] (defScope s_draw) := ⟨rfl, rfl, rfl, by decide +kernel, rfl, by decide +kernel, by decide +kernel⟩
abbrev s_begun : Stmt := topS 24
theorem sc_begun : FnScope ["script", "k_so", "cells", "cell", "great", "seed"] ["script", "k_so"] (defScope s_begun) := ⟨rfl, rfl, rfl, by decide +kernel, rfl, by decide +kernel, by decide +kernel⟩
abbrev s_of : Stmt := topS 26
theorem sc_of : FnScope ["m", "some"] ["m", "some"] (defScope s_of) := ⟨rfl, rfl, rfl, by decide +kernel, rfl, by decide +kernel, by decide +kernel⟩
abbrev s_like : Stmt := topS 27
theorem sc_like : FnScope ["got", "due"] ["got", "due"] (defScope s_like) := ⟨rfl, rfl, rfl, by decide +kernel, rfl, by decide +kernel, by decide +kernel⟩
abbrev s_psum : Stmt := topS 6
theorem sc_psum : FnScope ["one", "other", "a", "b"] ["one", "other"] (defScope s_psum) := ⟨rfl, rfl, rfl, by decide +kernel, rfl, by decide +kernel, by decide +kernel⟩
abbrev s_fval : Stmt := topS 7
theorem sc_fval : FnScope ["form", "t"] ["form", "t"] (defScope s_fval) := ⟨rfl, rfl, rfl, by decide +kernel, rfl, by decide +kernel, by decide +kernel⟩
abbrev s_fsum : Stmt := topS 8
theorem sc_fsum : FnScope ["one", "other", "a", "b"] ["one", "other"] (defScope s_fsum) := ⟨rfl, rfl, rfl, by decide +kernel, rfl, by decide +kernel, by decide +kernel⟩
abbrev s_ftimes : Stmt := topS 9
theorem sc_ftimes : FnScope ["form", "n", "entry"] ["form", "n"] (defScope s_ftimes) := ⟨rfl, rfl, rfl, by decide +kernel, rfl, by decide +kernel, by decide +kernel⟩
abbrev s_gcd : Stmt := topS 28
theorem sc_gcd : FnScope ["a", "c"] ["a", "c"] (defScope s_gcd) := ⟨rfl, rfl, rfl, by decide +kernel, rfl, by decide +kernel, by decide +kernel⟩
abbrev s_sign : Stmt := topS 12
theorem sc_sign : FnScope ["number"] ["number"] (defScope s_sign) := ⟨rfl, rfl, rfl, by decide +kernel, rfl, by decide +kernel, by decide +kernel⟩
section
variable {P : Program} {w : World} {K : PySem.W.Frag} {mg : Str → Option Value} {base : Heap}
theorem ok_draw {f : Addr} {fd : FuncData} (F : Fun K "_law_draw" "_law_draw" s_draw f fd) (m_int : mg "int" = none) (m_len : mg "len" = none) : FnOk P w K mg base CX0 1 f fd ["m", "bound"] spDraw := by
  have sc := sc_draw
  refine F.ok sc (fun vs H Q E h => ?_) (fun cdv A outer s H vs Q E hr h => ?_)
  · obtain ⟨m, c, n, b, rfl, _⟩ := h
    rfl
  · obtain ⟨m, c, n, b, rfl, hM, hn, hb0, hb1, q⟩ := h
    refine ⟨_, (pss_cons (ps_if (pt_cmpR op_gt (pe_dget (hu_of hr) (pv 0) pe_str (fun _ _ => rfl)) pe_int (nomark _))
      (pss_cons (ps_set (i := 2) sc.nd rfl (Or.inl rfl) (pe_op op_modN (pe_callTy call_int1 (by rfl) m_int (by decide +kernel) (pa_cons (pe_dget (hu_of hr) (pv 0) pe_str (fun _ _ => rfl)) pa_nil)) (pv 1)))
    (pss_cons (ps_dput (hu_of hr) (pv 0) pe_str (pe_op op_fdivX (pe_dget (hu_of hr) (pv 0) pe_str (fun _ _ => rfl)) (pv 1)) rfl)
    (pss_one (ps_ret (pv 2)))))
      pss_nil)
    (pss_cons (ps_set (i := 3) sc.nd rfl (Or.inl rfl) (pe_dget (hu_of hr) (pv 0) pe_str (fun _ _ => rfl)))
    (pss_cons (ps_dput (hu_of hr) (pv 0) pe_str (pe_op op_add (pv 3) pe_int) rfl)
    (pss_cons (ps_par (i := 4) (j := 5) (by rfl) sc.nd rfl rfl (by decide) rfl rfl (pa_cons (pe_dget (hu_of hr) (pv 0) pe_str (fun _ _ => rfl)) (pa_cons (pe_op op_add (pe_dget (hu_of hr) (pv 0) pe_str (fun _ _ => rfl)) (pe_op op_mul (pe_op op_mul pe_int (pv 3)) (pv 3))) pa_nil)) (by rfl))
    (pss_cons (ps_set (i := 6) sc.nd rfl (Or.inl rfl) (pe_ix ix_list (pv 4) (pe_op op_modN (pe_callTy call_int1 (by rfl) m_int (by decide +kernel) (pa_cons (pv 3) pa_nil)) (pe_callB call_len_seq (by rfl) m_len (by decide +kernel) (pa_cons (pv 4) pa_nil))) (fun _ _ => rfl)))
    (pss_cons (ps_set (i := 7) sc.nd rfl (Or.inl rfl) (pe_op op_modN (pe_callTy call_int1 (by rfl) m_int (by decide +kernel) (pa_cons (pe_op op_add (pe_op op_mul (pv 6) (pe_op op_add (pe_op op_mul pe_int (pv 3)) pe_int)) (pv 5)) pa_nil)) pe_int))
    (pss_cons (ps_set (i := 7) sc.nd rfl (Or.inl rfl) (pe_op op_modN (pe_callTy call_int1 (by rfl) m_int (by decide +kernel) (pa_cons (pe_op op_add (pe_op op_add (pe_op op_mul (pv 7) (pv 7)) (pe_op op_mul pe_int (pv 3))) (pe_dget (hu_of hr) (pv 0) pe_str (fun _ _ => rfl))) pa_nil)) pe_int))
    (pss_one (ps_ret (pe_op op_modN (pe_op op_fdivN (pe_op op_modN (pe_callTy call_int1 (by rfl) m_int (by decide +kernel) (pa_cons (pe_op op_add (pe_op op_mul (pv 7) pe_int) (pv 3)) pa_nil)) pe_int) pe_int) (pv 1))))))))))), ?_⟩
    obtain ⟨L, sd, sp, cells, h1, h2, h3, h4, h5⟩ := hM
    have ncm : c ≠ m := ne_of h2 h1 (by intro z; cases z)
    refine ⟨.ref m, rfl, m, .int L, rfl, get_m h1 val_left, L, 0, rfl, rfl, _, rfl, ite2 (fun hL => ?_) (fun hL => ?_)⟩
    · -- the first way
      refine ⟨.ref m, rfl, m, .int L, rfl, get_m h1 val_left, .inl ⟨L, rfl, .int b, rfl, L, b, rfl, rfl, by omega, ?_⟩⟩
      refine ⟨.ref m, rfl, m, .int L, rfl, get_m h1 val_left, .int b, rfl, L, b, rfl, rfl, ⟨by omega, Nat.lt_trans (PySem.Flt.log2_lt_of (by decide) hb1) (by decide)⟩, .ref m, rfl, m, _, rfl, put_m h1 put_left, ?_⟩
      refine ⟨.int (L.fmod b), rfl, q _ _ but_put ⟨_, sd, sp, cells, upd_same, ?_, h3, h4, by omega⟩ (Int.fmod_nonneg_of_pos _ hb0) (Int.fmod_lt_of_pos _ hb0)⟩
      rw [upd_ne ncm]
      exact h2
    · -- the second way
      refine ⟨.ref m, rfl, m, .int sp, rfl, get_m h1 val_spot, ?_⟩
      refine ⟨.int sp, rfl, sp, 1, rfl, rfl, .ref m, rfl, m, _, rfl, put_m h1 put_spot, ?_⟩
      have g1 : (upd H m (.dK (mkv L sd c (sp + 1)))) m = some (.dK (mkv L sd c (sp + 1))) := upd_same
      have g2 : (upd H m (.dK (mkv L sd c (sp + 1)))) c = some (.lst (cells.map V.int)) := by
        rw [upd_ne ncm]
        exact h2
      refine ⟨.ref m, rfl, m, .ref c, rfl, get_m g1 val_cells, .ref m, rfl, m, .int sd, rfl, get_m g1 val_seed, .int sp, rfl, 40503, sp, rfl, rfl, .inl ⟨by decide, by decide⟩, .int sp, rfl, 40503 * sp, sp, rfl, rfl, .inr ⟨by omega, by omega⟩, sd, 40503 * sp * sp, rfl, rfl, .ref c, .int (sd + 40503 * sp * sp), rfl, ?_⟩
      have hj : (sp.toNat % cells.length) < cells.length := Nat.mod_lt _ h3
      have e1 : Int.fmod sp ((cells.map V.int).length : Int) = ((sp.toNat % cells.length : Nat) : Int) := by
        rw [List.length_map, Int.fmod_eq_emod_of_nonneg _ (by omega), Int.natCast_emod, Int.toNat_of_nonneg h4]
      have e2 : (cells.map V.int)[sp.toNat % cells.length]? = some (.int cells[sp.toNat % cells.length]) := by
        rw [List.getElem?_map, List.getElem?_eq_getElem hj]
        rfl
      refine ⟨.ref c, rfl, .int sp, rfl, .inl ⟨sp, rfl, .ref c, rfl, c, _, rfl, .inl (SqL.of g2), sp, _, rfl, rfl, ?_, c, _, _, .int cells[sp.toNat % cells.length], rfl, rfl, SqL.of g2, ?_, ?_⟩⟩
      · rw [List.length_map]
        omega
      · rw [e1]
        exact atI_nat e2
      refine ⟨_, rfl, .int sp, rfl, 2, sp, rfl, rfl, .inl ⟨by decide, by decide⟩, 2 * sp, 3, rfl, rfl, _, 2 * sp + 3, rfl, rfl, .inr ⟨by omega, by omega⟩, _, rfl, _, _, rfl, rfl, .inl ⟨_, rfl, _, 2147483647, rfl, rfl, (by show (2147483647 : Int) ≠ 0; decide), ?_⟩⟩
      dsimp only
      generalize hB : Int.fmod (cells[sp.toNat % cells.length] * (2 * sp + 3) + (sd + 40503 * sp * sp)) 2147483647 = B
      have b0 : 0 ≤ B := by
        rw [← hB]
        exact Int.fmod_nonneg_of_pos _ (by decide)
      have b1 : B < 2147483647 := by
        rw [← hB]
        exact Int.fmod_lt_of_pos _ (by decide)
      refine ⟨.int B, rfl, .int B, rfl, B, B, rfl, rfl, .inl ⟨by omega, by omega⟩, .int sp, rfl, 69621, sp, rfl, rfl, .inl ⟨by decide, by decide⟩, B * B, 69621 * sp, rfl, rfl, .ref m, rfl, m, .int sd, rfl, get_m g1 val_seed, _, sd, rfl, rfl, .inl ⟨_, rfl, _, 2147483629, rfl, rfl, (by show (2147483629 : Int) ≠ 0; decide), ?_⟩⟩
      dsimp only
      generalize hB2 : Int.fmod (B * B + 69621 * sp + sd) 2147483629 = B2
      have c0 : 0 ≤ B2 := by
        rw [← hB2]
        exact Int.fmod_nonneg_of_pos _ (by decide)
      have c1 : B2 < 2147483629 := by
        rw [← hB2]
        exact Int.fmod_lt_of_pos _ (by decide)
      refine ⟨.int B2, rfl, B2, 48271, rfl, rfl, .inl ⟨by omega, by omega⟩, .int sp, rfl, _, sp, rfl, rfl, .inl ⟨_, rfl, _, 2147483647, rfl, rfl, (by show (2147483647 : Int) ≠ 0; decide), _, 11, rfl, rfl, (by show (11 : Int) ≠ 0 ∧ (11 : Int).natAbs < 1073741824; decide), .int b, rfl, _, b, rfl, rfl, by omega, ?_⟩⟩
      exact q _ _ but_put ⟨L, sd, sp + 1, cells, g1, g2, h3, by omega, by omega⟩ (Int.fmod_nonneg_of_pos _ hb0) (Int.fmod_lt_of_pos _ hb0)
theorem ok_begun {f : Addr} {fd : FuncData} (F : Fun K "_law_begun" "_law_begun" s_begun f fd) (m_int : mg "int" = none) : FnOk P w K mg base CX0 1 f fd ["script", "k_so"] (spBegun K) := by
  have sc := sc_begun
  refine F.ok sc (fun vs H Q E h => ?_) (fun cdv A outer s H vs Q E hr h => ?_)
  · obtain ⟨a, k, ns, rfl, _⟩ := h
    rfl
  · obtain ⟨a, k, ns, rfl, hS, hl, hk0, hk1, q⟩ := h
    refine ⟨_, (pss_cons (ps_set (i := 2) sc.nd rfl (Or.inl rfl) (pe_op op_cat (pe_slice sl_list (pv 0) (po_some (pv 1)) po_none) (pe_slice sl_list (pv 0) po_none (po_some (pv 1)))))
    (pss_cons (ps_setLc (i := 4) (own := [("cell", 3)]) (g := gName 3) (by rfl) sc.nd rfl rfl (sw_true rfl rfl rfl (by decide +kernel)) (pi_list (pv 2)) (blkOk_by (own := [("cell", 3)]) (N := ["script", "k_so", "cells", "cell", "great", "seed"]) (sc := defScope s_begun) (by decide +kernel)) (fun _ _ _ _ _ => pg_name (i := 3) sc.nd rfl (Or.inl rfl)) (fun _ _ _ _ _ => (pts_one (pt_cmpR op_ge (pv 3) (pe_op op_pow pe_int pe_int) (nomark _)))) (fun _ _ _ _ _ => (pv 3)))
    (pss_cons (ps_set (i := 5) sc.nd rfl (Or.inl rfl) (pe_op op_add pe_int (pv 1)))
    (pss_cons (ps_for PassesOwn.never rfl (pi_list (pv 2)) (pg_name (i := 3) sc.nd rfl (Or.inl rfl))
      (pss_one (ps_set (i := 5) sc.nd rfl (Or.inl rfl) (pe_op op_modN (pe_callTy call_int1 (by rfl) m_int (by decide +kernel) (pa_cons (pe_op op_add (pe_op op_mul (pv 5) pe_int) (pv 3)) pa_nil)) pe_int))))
    (pss_one (ps_ret (pe_disp (pps_cons pe_str (pe_ifExp (pt_cmpR (op_neD hr.units) (pv 4) (pe_lst pa_nil) (nomark _)) (pe_ix ix_list (pv 4) pe_int (fun _ _ => rfl)) pe_int) (pps_cons pe_str (pv 5) (pps_cons pe_str (pe_op op_cat (pv 2) (pe_lst (pa_cons (pe_op op_add (pe_op op_mul pe_int (pv 1)) pe_int) pa_nil))) (pps_cons pe_str pe_int pps_nil)))) (by rfl) (by rfl) (fun z => by cases z) (by decide)))))))), ?_⟩
    obtain ⟨l1, e1, b1⟩ := cut_ints ns (some k) none
    obtain ⟨l2, e2, b2⟩ := cut_ints ns none (some k)
    refine ⟨.ref a, rfl, .int k, rfl, k, rfl, a, _, rfl, hS, fun p1 n1 => ?_⟩
    rw [e1]
    have s1 : Same H (upd H p1 (.lst (l1.map V.int))) := same_new n1
    refine ⟨.ref a, rfl, .int k, rfl, k, rfl, a, _, rfl, s1.seq hS, fun p2 n2 => ?_⟩
    rw [e2]
    have n12 : p1 ≠ p2 := fun z => by
      rw [← z, upd_same] at n2
      cases n2
    have h2 : H p2 = none := s1.free n2
    refine ⟨p1, p2, l1.map V.int, l2.map V.int, rfl, rfl, ?_, upd_same, ?_, fun p np => ?_⟩
    · rw [upd_ne n12, upd_same]
    · rw [List.length_map, List.length_map]
      exact Nat.le_of_lt (small1000 (by omega))
    rw [← List.map_append]
    have s2 : Same H (upd (upd H p1 (.lst (l1.map V.int))) p2 (.lst (l2.map V.int))) := same_put s1 h2
    have hp : H p = none := s2.free np
    have s3 := same_put (o := .lst ((l1 ++ l2).map V.int)) s2 hp
    have hH3 : upd (upd (upd H p1 (.lst (l1.map V.int))) p2 (.lst (l2.map V.int))) p (.lst ((l1 ++ l2).map V.int)) p = some (.lst ((l1 ++ l2).map V.int)) := upd_same
    generalize upd (upd (upd H p1 (.lst (l1.map V.int))) p2 (.lst (l2.map V.int))) p (.lst ((l1 ++ l2).map V.int)) = H3 at s3 hH3 ⊢
    have g3 : H3 p = some (.lst ((l1 ++ l2).map V.int)) := hH3
    generalize hcs : l1 ++ l2 = cs at g3
    have bcs : cs.length ≤ 126 := by
      rw [← hcs, List.length_append]
      omega
    refine ⟨.ref p, rfl, p, rfl, ⟨_, SqL.of g3⟩, fun D nD => ?_⟩
    have hD : H D = none := s3.free nD
    have nDp : p ≠ D := ne_of_none g3 nD
    refine lc_list (K := K) (a := p) (xs := cs.map V.int) (fun i H' => ∃ acc : List Int, H' = upd H3 D (.lst (acc.map V.int)) ∧ acc.length ≤ i) ⟨[], rfl, Nat.le_refl _⟩ ?_ ?_ ?_
    · rintro i H' _ ⟨acc, rfl, _⟩
      refine SqL.of ?_
      rw [upd_ne nDp]
      exact g3
    · rintro i x H' hx ⟨acc, rfl, hacc⟩
      obtain ⟨z, hz, rfl⟩ : ∃ z, cs[i]? = some z ∧ x = V.int z := by
        rw [List.getElem?_map] at hx
        cases hc : cs[i]? with
        | none => rw [hc] at hx; cases hx
        | some z => rw [hc] at hx; exact ⟨z, rfl, (Option.some.inj hx).symm⟩
      have hi : i < cs.length := (List.getElem?_eq_some_iff.mp hz).1
      refine ⟨rfl, .int z, rfl, 10, 18, rfl, rfl, ⟨by decide, by decide, by decide⟩, z, _, rfl, rfl, _, rfl, ite2 (fun h => ?_) (fun h => ?_)⟩
      · refine ⟨.int z, rfl, _, upd_same, ?_, acc ++ [z], ?_, ?_⟩
        · rw [List.length_map]
          exact small1000 (by omega)
        · rw [upd_upd, List.map_append]
          rfl
        · rw [List.length_append]
          show acc.length + 1 ≤ i + 1
          omega
      · exact ⟨acc, rfl, by omega⟩
    rintro H' ⟨acc, rfl, hacc⟩
    have s4 : Same H (upd H3 D (.lst (acc.map V.int))) := same_put s3 hD
    have g4 : upd H3 D (.lst (acc.map V.int)) p = some (.lst (cs.map V.int)) := by
      rw [upd_ne nDp]
      exact g3
    have d4 : upd H3 D (.lst (acc.map V.int)) D = some (.lst (acc.map V.int)) := upd_same
    generalize upd H3 D (.lst (acc.map V.int)) = H4 at s4 g4 d4
    refine ⟨.int k, rfl, 71, k, rfl, rfl, .ref p, rfl, p, rfl, ⟨_, SqL.of g4⟩, ?_⟩
    refine for_list (K := K) (a := p) (xs := cs.map V.int) (fun i σ H' => ∃ (sd : Int) (y : Option V), σ = [some (.ref a), some (.int k), some (.ref p), y, some (.ref D), some (.int sd)] ∧ H' = H4 ∧ 0 ≤ sd ∧ sd < 2147483648) ⟨71 + k, none, rfl, rfl, by omega, by omega⟩ ?_ ?_ ?_
    · rintro i σ H' _ ⟨sd, y, rfl, rfl, _⟩
      exact SqL.of g4
    · rintro i x σ H' hx ⟨sd, y, rfl, rfl, h0, h1⟩
      obtain ⟨z, hz, rfl⟩ : ∃ z, cs[i]? = some z ∧ x = V.int z := by
        rw [List.getElem?_map] at hx
        cases hc : cs[i]? with
        | none => rw [hc] at hx; cases hx
        | some z => rw [hc] at hx; exact ⟨z, rfl, (Option.some.inj hx).symm⟩
      refine ⟨.int sd, rfl, sd, 48271, rfl, rfl, .inl ⟨by omega, by omega⟩, .int z, rfl, _, z, rfl, rfl, .inl ⟨_, rfl, _, 2147483647, rfl, rfl, (by show (2147483647 : Int) ≠ 0; decide), ?_⟩⟩
      have q1 := Int.fmod_lt_of_pos (sd * 48271 + z) (show (0 : Int) < 2147483647 by decide)
      exact ⟨_, _, rfl, rfl, Int.fmod_nonneg_of_pos _ (by decide), by omega⟩
    rintro σ H' ⟨sd, y, rfl, rfl, h0, h1⟩
    intro r nr
    have hr0 : H r = none := s4.free nr
    have s5 : Same H (upd H' r (.dK [])) := same_put s4 hr0
    have prn : p ≠ r := ne_of_none g4 nr
    have drn : D ≠ r := ne_of_none d4 nr
    have g5 : upd H' r (.dK []) p = some (.lst (cs.map V.int)) := by
      rw [upd_ne prn]
      exact g4
    have d5 : upd H' r (.dK []) D = some (.lst (acc.map V.int)) := by
      rw [upd_ne drn]
      exact d4
    have r5 : upd H' r (.dK []) r = some (.dK []) := upd_same
    generalize upd H' r (.dK []) = H5 at s5 g5 d5 r5 ⊢
    refine ⟨.ref D, rfl, Nat.zero_le _, fun e0 ne0 => ?_⟩
    have p0 : p ≠ e0 := ne_of_none g5 ne0
    have d0 : D ≠ e0 := ne_of_none d5 ne0
    have r0 : r ≠ e0 := ne_of_none r5 ne0
    have s6 : Same H (upd H5 e0 (.lst [])) := same_put s5 (s5.free ne0)
    have g6 : upd H5 e0 (.lst []) p = some (.lst (cs.map V.int)) := by
      rw [upd_ne p0]
      exact g5
    have d6 : upd H5 e0 (.lst []) D = some (.lst (acc.map V.int)) := by
      rw [upd_ne d0]
      exact d5
    have r6 : upd H5 e0 (.lst []) r = some (.dK []) := by
      rw [upd_ne r0]
      exact r5
    have l6 : upd H5 e0 (.lst []) e0 = some (.lst ([] : List V)) := upd_same
    generalize upd H5 e0 (.lst []) = H6 at s6 g6 d6 r6 l6 ⊢
    refine ⟨.list (acc.map PyData.int), .list [], .lst (SqL.of d6) (dp_ints acc), .lst (SqL.of l6) .nil, shaped_ints acc, shaped_ints [], _, rfl, ?_⟩
    refine tif_both (fun v => ∃ L : Int, v = .int L) ?_ ?_ ?_
    · rintro _ ⟨L, rfl⟩
      refine ⟨.int sd, rfl, .ref p, rfl, .int k, rfl, 53, k, rfl, rfl, .inl ⟨by decide, by decide⟩, _, 11, rfl, rfl, (by show 1 ≤ sizeLine; decide), fun e1 ne1 => ?_⟩
      have p1' : p ≠ e1 := ne_of_none g6 ne1
      have r1' : r ≠ e1 := ne_of_none r6 ne1
      have s7 : Same H (upd H6 e1 (.lst [.int (53 * k + 11)])) := same_put s6 (s6.free ne1)
      refine ⟨p, e1, cs.map V.int, [.int (53 * k + 11)], rfl, rfl, ?_, upd_same, ?_, fun c nc => ?_⟩
      · rw [upd_ne p1']
        exact g6
      · rw [List.length_map]
        exact Nat.le_of_lt (small1000 (show cs.length + 1 ≤ 1000 by omega))
      have r7 : upd H6 e1 (.lst [.int (53 * k + 11)]) r = some (.dK []) := by
        rw [upd_ne r1']
        exact r6
      have rc : r ≠ c := ne_of_none r7 nc
      have s8 := same_put (o := .lst (cs.map V.int ++ [.int (53 * k + 11)])) s7 (s7.free nc)
      refine ⟨?_, mkv L sd c 0, rfl, (by show 4 ≤ 15; decide), ?_⟩
      · rw [upd_ne rc]
        exact r7
      refine q _ _ _ (same_put s8 hr0) hr0 ⟨L, sd, 0, cs ++ [53 * k + 11], upd_same, ?_, ?_, by omega, by omega⟩
      · rw [upd_ne (Ne.symm rc), upd_same, List.map_append]
        rfl
      · rw [List.length_append]
        exact Nat.succ_pos _
    · intro hc hQ
      cases acc with
      | nil => exact absurd hc (by decide)
      | cons z zs => exact ⟨.ref D, rfl, D, _, 0, .int z, rfl, rfl, SqL.of d6, atI_nat (j := 0) rfl, hQ _ ⟨z, rfl⟩⟩
    · intro hc hQ
      exact hQ _ ⟨0, rfl⟩
theorem ok_of {f : Addr} {fd : FuncData} (F : Fun K "_law_of" "_law_of" s_of f fd) (C__law_draw : Cal P w K mg base 1 "_law_draw" ["m", "bound"] spDraw) (m_len : mg "len" = none) : FnOk P w K mg base CX0 2 f fd ["m", "some"] spOf := by
  have sc := sc_of
  refine F.ok sc (fun vs H Q E h => ?_) (fun cdv A outer s H vs Q E hr h => ?_)
  · obtain ⟨m, c, L, n, xs, rfl, _⟩ := h
    rfl
  · obtain ⟨m, c, L, n, xs, rfl, hM, hn, hL, h0, h1, q⟩ := h
    refine ⟨_, (pss_one (ps_ret (pe_ix ix_list (pv 1) (call_ C__law_draw (hr.mono (by decide)) (by rfl) (pa_cons (pv 0) (pa_cons (pe_callB call_len_seq (by rfl) m_len (by decide +kernel) (pa_cons (pv 1) pa_nil)) pa_nil))) (fun _ _ => rfl)))), ?_⟩
    have hLm : L ≠ m := by
      obtain ⟨_, _, _, _, h2, _⟩ := hM
      exact ne_of hL h2 (by intro z; cases z)
    refine ⟨.ref L, rfl, .ref m, rfl, .ref L, rfl, L, xs, rfl, .inl (SqL.of hL), m, c, n, xs.length, rfl, hM, hn, by omega, ?_, fun H1 v b1 M1 v0 v1 => ?_⟩
    · have e : ((xs.length : Nat) : Int).natAbs = xs.length := by omega
      rw [e]
      exact Nat.lt_of_le_of_lt h1 (by decide)
    · obtain ⟨j, rfl⟩ : ∃ j : Nat, v = j := ⟨v.toNat, by omega⟩
      have hj : j < xs.length := by omega
      exact ⟨L, xs, j, xs[j], rfl, rfl, SqL.of (b1 _ _ hLm hL), atI_nat (List.getElem?_eq_getElem hj), q H1 xs[j] b1 M1 (List.getElem_mem hj)⟩
theorem ok_like {f : Addr} {fd : FuncData} (F : Fun K "_law_like" "_law_like" s_like f fd) (m_repr : mg "repr" = none) : FnG P w K mg base 1 f fd ["got", "due"] (spLike K) := by
  have sc := sc_like
  refine okG F sc (fun vs H Q E h => ?_) (fun cdv A outer s H vs Q E hG hr h => ?_)
  · obtain ⟨x, y, d, rfl, _⟩ := h
    rfl
  · obtain ⟨x, y, d, rfl, h1, h2, hf, q⟩ := h
    have hG' : Quiet (cxOf CX0 P w K mg base ["got", "due"] "_law_like" (defScope s_like) f cdv A outer s H E).nox.A := hG.deeper _
    refine ⟨_, (pss_one (ps_ret (pe_cmpR op_eq (pe_callB (call_rep hG' hr.units) (by rfl) m_repr (by decide +kernel) (pa_cons (pv 0) pa_nil)) (pe_callB (call_rep hG' hr.units) (by rfl) m_repr (by decide +kernel) (pa_cons (pv 1) pa_nil)) (nomark _)))), ?_⟩
    refine ⟨x, rfl, x, d, rfl, h1, hf.s, hf.h, hf.dp, hf.len (Nat.le_refl _), y, rfl, y, d, rfl, h2, hf.s, hf.h, hf.dp, hf.len (Nat.le_refl _), rfl, ?_⟩
    rw [decide_eq_true rfl]
    exact q
theorem ok_psum {f : Addr} {fd : FuncData} (F : Fun K "product_sum" "product_sum" s_psum f fd) (m_sum : mg "sum" = none) (m_zip : mg "zip" = none) : FnOk P w K mg base CX0 1 f fd ["one", "other"] spPsum := by
  have sc := sc_psum
  refine F.ok sc (fun vs H Q E h => ?_) (fun cdv A outer s H vs Q E hr h => ?_)
  · obtain ⟨a, b, xs, ys, rfl, _⟩ := h
    rfl
  · obtain ⟨a, b, xs, ys, rfl, ha, hb, hl, q⟩ := h
    refine ⟨_, (pss_one (ps_ret (pe_callB (cr_sum rfl) (by rfl) m_sum (by decide +kernel) (pa_cons (pe_lc (own := [("a", 2), ("b", 3)]) (g := gTup K 2 (gCons (gName 2) (gCons (gName 3) gNil))) (by rfl) sc.nd (pi_zipK (by rfl) m_zip (pa_cons (pv 0) (pa_cons (pv 1) pa_nil))) (blkOk_by (own := [("a", 2), ("b", 3)]) (N := ["one", "other", "a", "b"]) (sc := defScope s_psum) (by decide +kernel)) (fun _ _ _ _ _ => pg_tup (n := 2) (by rfl) (pgs_cons (pg_name (i := 2) sc.nd rfl (Or.inl rfl)) (pgs_cons (pg_name (i := 3) sc.nd rfl (Or.inl rfl)) pgs_nil))) (fun _ _ _ _ _ => pts_nil) (fun _ _ _ _ _ => (pe_op op_mulW (pv 2) (pv 3)))) pa_nil)))), ?_⟩
    refine ⟨.ref a, rfl, .ref b, rfl, false, false, a, b, xs.map V.int, ys.map V.int, rfl, ha.1.t, hb.1.t, fun D nD => ?_⟩
    refine lc_to (walk_zipK (n := xs.length) (by rw [List.length_map, List.length_map]; omega)) ((List.zipWith (· * ·) xs ys).map V.int) (by rw [List.length_map, List.length_zipWith]; omega) (small ha.2.1) nD (fun H' s => ⟨(ha.1.same s).t, (hb.1.same s).t⟩) ?_ ?_
    · rintro i x y H0 H1 Qy hy hi s0 ⟨T, u, v, rfl, nT, rfl, hu, hv⟩ hq
      obtain ⟨z, hz, rfl⟩ := map_get hy
      obtain ⟨p, r, hp, hr', rfl⟩ := zipW_get hz
      obtain ⟨p', hp', rfl⟩ := map_get hu
      obtain ⟨r', hr'', rfl⟩ := map_get hv
      obtain rfl := Option.some.inj (hp.symm.trans hp')
      obtain rfl := Option.some.inj (hr'.symm.trans hr'')
      refine ⟨T, [.int p, .int r], rfl, SqT.of upd_same, rfl, .int p, [.int r], rfl, .int r, [], rfl, rfl, rfl, .int p, rfl, .int r, rfl, p, r, rfl, rfl, ?_, hq _ (same_new nT)⟩
      exact Nat.lt_trans (wide (ha.2.2 _ (List.mem_of_getElem? hp)) (hb.2.2 _ (List.mem_of_getElem? hr'))) (by decide)
    · intro H' s d
      exact ⟨D, List.zipWith (· * ·) xs ys, rfl, SqL.of d, q H' s⟩
theorem ok_fval {f : Addr} {fd : FuncData} (F : Fun K "form_value" "form_value" s_fval f fd) (C_product_sum : Cal P w K mg base 1 "product_sum" ["one", "other"] spPsum) : FnOk P w K mg base CX0 2 f fd ["form", "t"] spFval := by
  have sc := sc_fval
  refine F.ok sc (fun vs H Q E h => ?_) (fun cdv A outer s H vs Q E hr h => ?_)
  · obtain ⟨a, b, c, xs, ys, rfl, _⟩ := h
    rfl
  · obtain ⟨a, b, c, xs, ys, rfl, ha, hb, hl, q⟩ := h
    refine ⟨_, (pss_one (ps_ret (pe_op op_add (pe_ix ix_tup (pv 0) pe_int (fun _ _ => rfl)) (call_ C_product_sum (hr.mono (by decide)) (by rfl) (pa_cons (pe_slice sl_tupA (pv 0) (po_some pe_int) po_none) (pa_cons (pv 1) pa_nil)))))), ?_⟩
    refine ⟨.ref a, rfl, a, _, 0, .int c, rfl, rfl, ha.1.t, atI_nat (j := 0) rfl, .ref a, rfl, 1, rfl, ?_⟩
    unfold tNoPart
    refine slice_tp ha.1 fun r H' s hr' => ?_
    rw [List.map_cons, cut1] at hr'
    refine ⟨.ref b, rfl, r, b, xs, ys, rfl, ⟨hr', ha.tail⟩, hb.same s, hl, fun H2 s2 => ⟨c, dot xs ys, rfl, rfl, q _ (s.trans s2)⟩⟩
theorem ok_fsum {f : Addr} {fd : FuncData} (F : Fun K "form_sum" "form_sum" s_fsum f fd) (m_tuple : mg "tuple" = none) (m_zip : mg "zip" = none) : FnOk P w K mg base CX0 1 f fd ["one", "other"] spFsum := by
  have sc := sc_fsum
  refine F.ok sc (fun vs H Q E h => ?_) (fun cdv A outer s H vs Q E hr h => ?_)
  · obtain ⟨a, b, xs, ys, rfl, _⟩ := h
    rfl
  · obtain ⟨a, b, xs, ys, rfl, ha, hb, hl, q⟩ := h
    refine ⟨_, (pss_one (ps_ret (pe_callTy call_tuple_of (by rfl) m_tuple (by decide +kernel) (pa_cons (pe_lc (own := [("a", 2), ("b", 3)]) (g := gTup K 2 (gCons (gName 2) (gCons (gName 3) gNil))) (by rfl) sc.nd (pi_zipK (by rfl) m_zip (pa_cons (pv 0) (pa_cons (pv 1) pa_nil))) (blkOk_by (own := [("a", 2), ("b", 3)]) (N := ["one", "other", "a", "b"]) (sc := defScope s_fsum) (by decide +kernel)) (fun _ _ _ _ _ => pg_tup (n := 2) (by rfl) (pgs_cons (pg_name (i := 2) sc.nd rfl (Or.inl rfl)) (pgs_cons (pg_name (i := 3) sc.nd rfl (Or.inl rfl)) pgs_nil))) (fun _ _ _ _ _ => pts_nil) (fun _ _ _ _ _ => (pe_op op_add (pv 2) (pv 3)))) pa_nil)))), ?_⟩
    refine ⟨.ref a, rfl, .ref b, rfl, false, false, a, b, xs.map V.int, ys.map V.int, rfl, ha.1.t, hb.1.t, fun D nD => ?_⟩
    refine lc_to (walk_zipK (n := xs.length) (by rw [List.length_map, List.length_map]; omega)) ((List.zipWith (· + ·) xs ys).map V.int) (by rw [List.length_map, List.length_zipWith]; omega) (small ha.2.1) nD (fun H' s => ⟨(ha.1.same s).t, (hb.1.same s).t⟩) ?_ ?_
    · rintro i x y H0 H1 Qy hy hi s0 ⟨T, u, v, rfl, nT, rfl, hu, hv⟩ hq
      obtain ⟨z, hz, rfl⟩ := map_get hy
      obtain ⟨p, r, hp, hr', rfl⟩ := zipW_get hz
      obtain ⟨p', hp', rfl⟩ := map_get hu
      obtain ⟨r', hr'', rfl⟩ := map_get hv
      obtain rfl := Option.some.inj (hp.symm.trans hp')
      obtain rfl := Option.some.inj (hr'.symm.trans hr'')
      exact ⟨T, [.int p, .int r], rfl, SqT.of upd_same, rfl, .int p, [.int r], rfl, .int r, [], rfl, rfl, rfl, .int p, rfl, .int r, rfl, p, r, rfl, rfl, hq _ (same_new nT)⟩
    · intro H' s d
      exact ⟨D, _, rfl, .inl ⟨SqL.of d, fun l nl => q l _ (s.trans (same_new nl)) upd_same⟩⟩
theorem ok_ftimes {f : Addr} {fd : FuncData} (F : Fun K "form_times" "form_times" s_ftimes f fd) (m_tuple : mg "tuple" = none) : FnOk P w K mg base CX0 1 f fd ["form", "n"] spFtimes := by
  have sc := sc_ftimes
  refine F.ok sc (fun vs H Q E h => ?_) (fun cdv A outer s H vs Q E hr h => ?_)
  · obtain ⟨a, n, xs, rfl, _⟩ := h
    rfl
  · obtain ⟨a, n, xs, rfl, ha, zn, q⟩ := h
    refine ⟨_, (pss_one (ps_ret (pe_callTy call_tuple_of (by rfl) m_tuple (by decide +kernel) (pa_cons (pe_lc (own := [("entry", 2)]) (g := gName 2) (by rfl) sc.nd (pi_tup (pv 0)) (blkOk_by (own := [("entry", 2)]) (N := ["form", "n", "entry"]) (sc := defScope s_ftimes) (by decide +kernel)) (fun _ _ _ _ _ => pg_name (i := 2) sc.nd rfl (Or.inl rfl)) (fun _ _ _ _ _ => pts_nil) (fun _ _ _ _ _ => (pe_op op_mulW (pv 1) (pv 2)))) pa_nil)))), ?_⟩
    refine ⟨.ref a, rfl, a, rfl, ⟨_, ha.1.t⟩, fun D nD => ?_⟩
    refine lc_to (walk_tup (K := K) (a := a) (xs := xs.map V.int)) ((xs.map (n * ·)).map V.int) (by rw [List.length_map, List.length_map, List.length_map]) (by rw [List.length_map]; exact small ha.2.1) nD (fun H' s => (ha.1.same s).t) ?_ ?_
    · rintro i x y H0 H1 Qy hy hi s0 ⟨rfl, hx⟩ hq
      obtain ⟨z, hz, rfl⟩ := map_get hy
      obtain ⟨p, hp, rfl⟩ := map_get hz
      obtain ⟨p', hp', rfl⟩ := map_get hx
      obtain rfl := Option.some.inj (hp.symm.trans hp')
      exact ⟨rfl, .int n, rfl, .int p, rfl, n, p, rfl, rfl, Nat.lt_trans (wide zn (ha.2.2 _ (List.mem_of_getElem? hp))) (by decide), hq _ (Same.refl _)⟩
    · intro H' s d
      exact ⟨D, _, rfl, .inl ⟨SqL.of d, fun l nl => q l _ (s.trans (same_new nl)) upd_same⟩⟩
theorem ok_gcd {f : Addr} {fd : FuncData} (F : Fun K "_law_gcd" "_law_gcd" s_gcd f fd) (m_abs : mg "abs" = none) (m_int : mg "int" = none) : FnOk P w K mg base CX0 1 f fd ["a", "c"] spGcd := by
  have sc := sc_gcd
  refine F.ok sc (fun vs H Q E h => ?_) (fun cdv A outer s H vs Q E hr h => ?_)
  · obtain ⟨a, c, rfl, _⟩ := h
    rfl
  · obtain ⟨a, c, rfl, q⟩ := h
    refine ⟨_, (pss_cons (ps_par (i := 0) (j := 1) (by rfl) sc.nd rfl rfl (by decide) rfl rfl (pa_cons (pe_callB call_abs (by rfl) m_abs (by decide +kernel) (pa_cons (pv 0) pa_nil)) (pa_cons (pe_callB call_abs (by rfl) m_abs (by decide +kernel) (pa_cons (pv 1) pa_nil)) pa_nil)) (by rfl))
    (pss_cons (ps_while PassesOwn.never (pt_cmpR op_ne (pv 1) pe_int (nomark _))
      (pss_one (ps_par (i := 0) (j := 1) (by rfl) sc.nd rfl rfl (by decide) rfl rfl (pa_cons (pv 1) (pa_cons (pe_op op_modN (pe_callTy call_int1 (by rfl) m_int (by decide +kernel) (pa_cons (pv 0) pa_nil)) (pv 1)) pa_nil)) (by rfl))))
    (pss_one (ps_ret (pv 0))))), ?_⟩
    have ab : ∀ x : Int, (if x < 0 then -x else x) = (x.natAbs : Int) := fun x => by split <;> omega
    refine ⟨.int a, rfl, a, rfl, .int c, rfl, c, rfl, _, _, rfl, ?_⟩
    rw [ab a, ab c]
    refine while_by (fun σ H' => ∃ x y : Nat, σ = [some (.int x), some (.int y)] ∧ H' = H ∧ Nat.gcd x y = Int.gcd a c) (fun σ _ => match σ with | [_, some (.int y)] => y.toNat | _ => 0) ⟨_, _, rfl, rfl, rfl⟩ ?_ (fun σ H Q Q' hq ⟨v, e1, e2, k, e3, q⟩ => ⟨v, e1, e2, k, e3, hq _ _ q⟩)
    rintro σ H' ⟨x, y, rfl, rfl, hg⟩
    refine ⟨.int y, rfl, rfl, _, rfl, ite2 (fun h => ?_) (fun h => ?_)⟩
    · have hy : y ≠ 0 := fun z => by
        rw [z] at h
        exact absurd h (by decide)
      refine ⟨.int y, rfl, .int x, rfl, .inl ⟨x, rfl, .int y, rfl, x, y, rfl, rfl, by omega, _, _, rfl, ?_⟩⟩
      have e : Int.fmod (x : Int) (y : Int) = ((x % y : Nat) : Int) := by
        rw [Int.fmod_eq_emod_of_nonneg _ (by omega), Int.natCast_emod]
      have e2 : ([some (V.int y), some (V.int (Int.fmod (x : Int) (y : Int)))] : List (Option V)) = [some (V.int y), some (V.int ((x % y : Nat) : Int))] := by rw [e]
      refine ⟨⟨y, x % y, e2, rfl, ?_⟩, ?_⟩
      · rw [← hg, Nat.gcd_comm x y, Nat.gcd_rec y x, Nat.gcd_comm]
      · show (Int.fmod (x : Int) (y : Int)).toNat < (y : Int).toNat
        rw [e, Int.toNat_natCast, Int.toNat_natCast]
        exact Nat.mod_lt _ (by omega)
    · have hy : y = 0 := by
        by_cases z : (y : Int) = 0
        · omega
        · exact absurd (by rw [decide_eq_false (fun w => z (V.int.inj w))]; rfl) h
      subst hy
      refine ⟨.int x, rfl, ?_⟩
      rw [← hg, Nat.gcd_zero_right] at q
      exact q
theorem ok_sign {f : Addr} {fd : FuncData} (F : Fun K "sign_of" "sign_of" s_sign f fd) (m_int : mg "int" = none) : FnOk P w K mg base CX0 1 f fd ["number"] spSign := by
  have sc := sc_sign
  refine F.ok sc (fun vs H Q E h => ?_) (fun cdv A outer s H vs Q E hr h => ?_)
  · obtain ⟨n, rfl, _⟩ := h
    rfl
  · obtain ⟨n, rfl, q⟩ := h
    refine ⟨_, (pss_one (ps_ret (pe_op op_sub (pe_callTy call_int1 (by rfl) m_int (by decide +kernel) (pa_cons (pe_cmpR op_gt (pv 0) pe_int (nomark _)) pa_nil)) (pe_callTy call_int1 (by rfl) m_int (by decide +kernel) (pa_cons (pe_cmpR op_lt (pv 0) pe_int (nomark _)) pa_nil))))), ?_⟩
    refine ⟨.int n, rfl, n, 0, rfl, rfl, .inr ⟨_, rfl, .int n, rfl, n, 0, rfl, rfl, .inr ⟨_, rfl, _, _, rfl, rfl, ?_⟩⟩⟩
    have e : sg n = (if decide (0 < n) = true then 1 else 0) - (if decide (n < 0) = true then 1 else 0) := by
      unfold sg
      simp only [decide_eq_true_eq]
    rw [e] at q
    exact q
end
end K17
namespace K17
open PySem PySem.Spec PyProof.Rows L2 Vk
/-- the sign of the first entry that is not 0 -/
def lexS : List Int → Int
  | [] => 0
  | x :: r => if x ≠ 0 then sg x else lexS r
def sumW (B : Int) : List Int → Int
  | [] => 0
  | x :: r => x * B ^ r.length + sumW B r
theorem sg_pos {x : Int} (h : 0 < x) : sg x = 1 := by
  unfold sg
  rw [if_pos h, if_neg (by omega)]
  rfl
theorem sg_neg {x : Int} (h : x < 0) : sg x = -1 := by
  unfold sg
  rw [if_neg (by omega), if_pos h]
  rfl
theorem sg_zero : sg 0 = 0 := rfl
theorem sg_opp (x : Int) : sg (-x) = -sg x := by
  rcases Int.lt_trichotomy x 0 with h | h | h
  · rw [sg_neg h, sg_pos (by omega)]
    rfl
  · subst h
    rfl
  · rw [sg_pos h, sg_neg (by omega)]
theorem sg_mul {g x : Int} (hg : 0 < g) : sg (g * x) = sg x := by
  rcases Int.lt_trichotomy x 0 with h | h | h
  · rw [sg_neg h, sg_neg (Int.mul_neg_of_pos_of_neg hg h)]
  · subst h
    rw [Int.mul_zero]
  · rw [sg_pos h, sg_pos (Int.mul_pos hg h)]
theorem sumW_abs {B : Int} (hB : 0 < B) : ∀ xs : List Int, (∀ x ∈ xs, -B < x ∧ x < B) → -(B ^ xs.length) < sumW B xs ∧ sumW B xs < B ^ xs.length
  | [], _ => by
    show -(B ^ 0) < 0 ∧ (0 : Int) < B ^ 0
    rw [Int.pow_zero]
    omega
  | x :: r, h => by
    have ih := sumW_abs hB r fun y hy => h y (List.mem_cons_of_mem _ hy)
    obtain ⟨h1, h2⟩ := h x (List.mem_cons_self ..)
    have p : 0 < B ^ r.length := Int.pow_pos hB
    have e1 : x * B ^ r.length ≤ (B - 1) * B ^ r.length := Int.mul_le_mul_of_nonneg_right (by omega) (by omega)
    have e2 : -(B - 1) * B ^ r.length ≤ x * B ^ r.length := Int.mul_le_mul_of_nonneg_right (by omega) (by omega)
    have e3 : B ^ (x :: r).length = B * B ^ r.length := by rw [List.length_cons, Int.pow_succ, Int.mul_comm]
    rw [Int.neg_mul] at e2
    rw [Int.sub_mul, Int.one_mul] at e1 e2
    rw [e3]
    show -(B * B ^ r.length) < x * B ^ r.length + sumW B r ∧ x * B ^ r.length + sumW B r < B * B ^ r.length
    omega
theorem lex_sum {B : Int} (hB : 0 < B) : ∀ xs : List Int, (∀ x ∈ xs.tail, -B < x ∧ x < B) → sg (sumW B xs) = lexS xs
  | [], _ => rfl
  | x :: r, h => by
    have ih := lex_sum hB r fun y hy => h y (List.mem_of_mem_tail hy)
    have ab := sumW_abs hB r h
    have p : 0 < B ^ r.length := Int.pow_pos hB
    show sg (x * B ^ r.length + sumW B r) = if x ≠ 0 then sg x else lexS r
    rcases Int.lt_trichotomy x 0 with hx | hx | hx
    · rw [if_pos (by omega), sg_neg hx]
      have e : x * B ^ r.length ≤ (-1) * B ^ r.length := Int.mul_le_mul_of_nonneg_right (by omega) (by omega)
      exact sg_neg (by omega)
    · subst hx
      rw [if_neg (by omega), Int.zero_mul, Int.zero_add]
      exact ih
    · rw [if_pos (by omega), sg_pos hx]
      have e : 1 * B ^ r.length ≤ x * B ^ r.length := Int.mul_le_mul_of_nonneg_right (by omega) (by omega)
      exact sg_pos (by omega)
theorem sumW_lin (B p q : Int) : ∀ xs ys : List Int, xs.length = ys.length → sumW B (List.zipWith (fun a b => p * a - q * b) xs ys) = p * sumW B xs - q * sumW B ys
  | [], [], _ => by simp [sumW]
  | [], _ :: _, h => by cases h
  | _ :: _, [], h => by cases h
  | x :: xs, y :: ys, h => by
    have h := Nat.succ.inj h
    have ih := sumW_lin B p q xs ys h
    have l : (List.zipWith (fun a b => p * a - q * b) xs ys).length = xs.length := by rw [List.length_zipWith]; omega
    show (p * x - q * y) * B ^ (List.zipWith (fun a b => p * a - q * b) xs ys).length + sumW B (List.zipWith (fun a b => p * a - q * b) xs ys) = p * (x * B ^ xs.length + sumW B xs) - q * (y * B ^ ys.length + sumW B ys)
    rw [ih, l, ← h, Int.sub_mul, Int.mul_add, Int.mul_add, Int.mul_assoc, Int.mul_assoc]
    omega
theorem lex_map {g : Int} (hg : 0 < g) : ∀ xs : List Int, lexS (xs.map (g * ·)) = lexS xs
  | [] => rfl
  | x :: r => by
    show (if g * x ≠ 0 then sg (g * x) else lexS (r.map (g * ·))) = if x ≠ 0 then sg x else lexS r
    rw [lex_map hg r, sg_mul hg]
    by_cases h : x = 0
    · subst h
      rw [Int.mul_zero]
    · rw [if_pos h, if_pos (Int.mul_ne_zero (by omega) h)]
theorem lex_neg : ∀ xs : List Int, lexS (xs.map fun x => -x) = -lexS xs
  | [] => rfl
  | x :: r => by
    show (if -x ≠ 0 then sg (-x) else lexS (r.map fun x => -x)) = -(if x ≠ 0 then sg x else lexS r)
    rw [lex_neg r, sg_opp]
    by_cases h : x = 0
    · subst h
      rfl
    · rw [if_pos h, if_pos (by omega)]
theorem lex_zeros : ∀ xs : List Int, (∀ x ∈ xs, x = 0) → lexS xs = 0
  | [], _ => rfl
  | x :: r, h => by
    show (if x ≠ 0 then sg x else lexS r) = 0
    rw [if_neg (by have := h x (List.mem_cons_self ..); omega)]
    exact lex_zeros r fun y hy => h y (List.mem_cons_of_mem _ hy)
def pad (xs : List Int) (n : Nat) : List Int := xs ++ List.replicate (n - xs.length) 0
theorem pad_len {xs : List Int} {n : Nat} (h : xs.length ≤ n) : (pad xs n).length = n := by
  unfold pad
  rw [List.length_append, List.length_replicate]
  omega
theorem pad_map (f : Int → Int) (h : f 0 = 0) (xs : List Int) (n : Nat) : pad (xs.map f) n = (pad xs n).map f := by
  unfold pad
  rw [List.map_append, List.length_map, List.map_replicate, h]
theorem pad_mem {xs : List Int} {n : Nat} {x : Int} (h : x ∈ pad xs n) : x ∈ xs ∨ x = 0 := by
  rcases List.mem_append.mp h with h | h
  · exact .inl h
  · exact .inr (List.mem_replicate.mp h).2
def tsumI (xs ys : List Int) : List Int := List.zipWith (· + ·) (pad xs (max xs.length ys.length)) (pad ys (max xs.length ys.length))
/-- the sign of one less other -/
def cmpI (v1 : Int) (t1 : List Int) (D1 v2 : Int) (t2 : List Int) (D2 : Int) : Int :=
  lexS (List.zipWith (fun a b => D2 * a - D1 * b) (v1 :: pad t1 (max t1.length t2.length)) (v2 :: pad t2 (max t1.length t2.length)))
theorem zip_map_sub (g n1 n2 : Int) : ∀ xs ys : List Int, List.zipWith (fun a b => g * n1 * a - g * n2 * b) xs ys = (List.zipWith (fun a b => n1 * a - n2 * b) xs ys).map (g * ·)
  | [], _ => rfl
  | _ :: _, [] => rfl
  | x :: xs, y :: ys => by
    rw [List.zipWith_cons_cons, List.zipWith_cons_cons, List.map_cons, zip_map_sub g n1 n2 xs ys, Int.mul_sub, Int.mul_assoc, Int.mul_assoc]
theorem zip_neg (D1 D2 : Int) : ∀ xs ys : List Int, List.zipWith (fun a b => D1 * a - D2 * b) ys xs = (List.zipWith (fun a b => D2 * a - D1 * b) xs ys).map fun x => -x
  | [], [] => rfl
  | [], _ :: _ => rfl
  | _ :: _, [] => rfl
  | x :: xs, y :: ys => by
    rw [List.zipWith_cons_cons, List.zipWith_cons_cons, List.map_cons, zip_neg D1 D2 xs ys]
    congr 1
    omega
theorem cmp_swap (v1 : Int) (t1 : List Int) (D1 v2 : Int) (t2 : List Int) (D2 : Int) : cmpI v2 t2 D2 v1 t1 D1 = -cmpI v1 t1 D1 v2 t2 D2 := by
  unfold cmpI
  rw [Nat.max_comm, zip_neg D1 D2, lex_neg]
theorem zip_self (D : Int) : ∀ xs : List Int, ∀ x ∈ List.zipWith (fun a b => D * a - D * b) xs xs, x = 0
  | [], x, h => by cases h
  | y :: ys, x, h => by
    rw [List.zipWith_cons_cons] at h
    rcases List.mem_cons.mp h with rfl | h
    · omega
    · exact zip_self D ys x h
theorem cmp_self (v : Int) (t : List Int) (D : Int) : cmpI v t D v t D = 0 := lex_zeros _ (zip_self D _)
/-- as the program tells it -/
theorem cmp_told {v1 v2 : Int} {t1 t2 : List Int} {D1 D2 n1 n2 g : Int} (hg : 0 < g) (h1 : D1 = g * n2) (h2 : D2 = g * n1) :
    cmpI v1 t1 D1 v2 t2 D2 = if sg (n1 * v1 + n2 * (-1 * v2)) ≠ 0 then sg (n1 * v1 + n2 * (-1 * v2)) else lexS (tsumI (t1.map (n1 * ·)) ((t2.map (-1 * ·)).map (n2 * ·))) := by
  unfold cmpI
  subst h1 h2
  rw [zip_map_sub, lex_map hg]
  have e : tsumI (t1.map (n1 * ·)) ((t2.map (-1 * ·)).map (n2 * ·)) = List.zipWith (fun a b => n1 * a - n2 * b) (pad t1 (max t1.length t2.length)) (pad t2 (max t1.length t2.length)) := by
    unfold tsumI
    rw [List.length_map, List.length_map, List.length_map, pad_map _ (by simp), pad_map _ (by simp), pad_map _ (by simp), List.map_map, List.zipWith_map]
    congr 1
    funext a b
    show n1 * a + n2 * (-1 * b) = _
    rw [show n2 * (-1 * b) = -(n2 * b) by rw [Int.neg_mul, Int.one_mul, Int.mul_neg]]
    omega
  rw [e]
  have ev : n1 * v1 + n2 * (-1 * v2) = n1 * v1 - n2 * v2 := by
    rw [show n2 * (-1 * v2) = -(n2 * v2) by rw [Int.neg_mul, Int.one_mul, Int.mul_neg]]
    omega
  rw [ev]
  show (if n1 * v1 - n2 * v2 ≠ 0 then sg (n1 * v1 - n2 * v2) else _) = _
  by_cases h : n1 * v1 - n2 * v2 = 0
  · rw [if_neg (by omega), h, sg_zero, if_neg (by omega)]
  · rw [if_pos h]
    rw [if_pos]
    rcases Int.lt_trichotomy (n1 * v1 - n2 * v2) 0 with h' | h' | h'
    · rw [sg_neg h']
      decide
    · exact absurd h' h
    · rw [sg_pos h']
      decide
/-- the value of a form -/
def fv : List Int → List Int → Int
  | [], _ => 0
  | c :: xs, p => c + dot xs p
theorem dot_map (k : Int) : ∀ xs ys, dot (xs.map (k * ·)) ys = k * dot xs ys
  | [], ys => by simp [dot]
  | x :: xs, [] => by simp [dot]
  | x :: xs, y :: ys => by
    have ih := dot_map k xs ys
    unfold dot at *
    simp only [List.map_cons, List.zipWith_cons_cons, List.sum_cons, ih, Int.mul_add, Int.mul_assoc]
theorem dot_add : ∀ xs ys ps : List Int, xs.length = ys.length → dot (List.zipWith (· + ·) xs ys) ps = dot xs ps + dot ys ps
  | [], [], ps, _ => by simp [dot]
  | [], _ :: _, ps, h => by cases h
  | _ :: _, [], ps, h => by cases h
  | x :: xs, y :: ys, [], _ => by simp [dot]
  | x :: xs, y :: ys, p :: ps, h => by
    have ih := dot_add xs ys ps (Nat.succ.inj h)
    unfold dot at *
    simp only [List.zipWith_cons_cons, List.sum_cons, ih, Int.add_mul]
    omega
theorem fv_map (k : Int) (f p : List Int) : fv (f.map (k * ·)) p = k * fv f p := by
  cases f with
  | nil => simp [fv]
  | cons c xs =>
    show k * c + dot (xs.map (k * ·)) p = k * (c + dot xs p)
    rw [dot_map, Int.mul_add]
theorem fv_add {f g : List Int} (h : f.length = g.length) (p : List Int) : fv (List.zipWith (· + ·) f g) p = fv f p + fv g p := by
  cases f with
  | nil =>
    cases g with
    | nil => rfl
    | cons => cases h
  | cons c xs =>
    cases g with
    | nil => cases h
    | cons d ys =>
      show (c + d) + dot (List.zipWith (· + ·) xs ys) p = c + dot xs p + (d + dot ys p)
      rw [dot_add _ _ _ (Nat.succ.inj h)]
      omega
def plusF (f : List Int) (n : Int) : List Int := match f with
  | [] => []
  | c :: xs => (c + n) :: xs
theorem fv_plus {f : List Int} (hf : f ≠ []) (n : Int) (p : List Int) : fv (plusF f n) p = fv f p + n := by
  cases f with
  | nil => exact absurd rfl hf
  | cons c xs =>
    show c + n + dot xs p = c + dot xs p + n
    omega
/-! ### rounding -/
theorem div_low {v s U D : Int} (hU : 0 < U) (hD : 0 < D) (h0 : 0 ≤ s) (h1 : s < U) : (v * U + s) / (D * U) = v / D := by
  rw [Int.mul_comm D U, ← Int.ediv_ediv_of_nonneg (Int.le_of_lt hU), Int.add_comm, Int.add_mul_ediv_right _ _ (by omega), Int.ediv_eq_zero_of_lt h0 h1, Int.zero_add]
theorem div_neg {v s U D : Int} (hU : 0 < U) (hD : 0 < D) (h0 : s < 0) (h1 : -U < s) : (v * U + s) / (D * U) = (v - 1) / D := by
  have e : v * U + s = (v - 1) * U + (U + s) := by
    rw [Int.sub_mul]
    omega
  rw [e]
  exact div_low hU hD (by omega) (by omega)
theorem up_one {v D : Int} (hD : 0 < D) : -((-v - 1) / D) = v / D + 1 := by
  have h := Int.emod_add_mul_ediv v D
  have h0 := Int.emod_nonneg v (by omega : D ≠ 0)
  have h1 := Int.emod_lt_of_pos v hD
  have e := ((Int.ediv_emod_unique hD (a := -v - 1) (r := D - v % D - 1) (q := -(v / D) - 1)).mpr ⟨by rw [Int.mul_sub, Int.mul_neg]; omega, by omega, by omega⟩).1
  rw [e]
  omega
theorem up_two {v D : Int} (hD : 0 < D) : -((-v) / D) = (v + D - 1) / D := by
  have h := Int.emod_add_mul_ediv (v + D - 1) D
  have h0 := Int.emod_nonneg (v + D - 1) (by omega : D ≠ 0)
  have h1 := Int.emod_lt_of_pos (v + D - 1) hD
  have e := ((Int.ediv_emod_unique hD (a := -v) (r := D - 1 - (v + D - 1) % D) (q := -((v + D - 1) / D))).mpr ⟨by rw [Int.mul_neg]; omega, by omega, by omega⟩).1
  rw [e]
  omega
/-! ### the least common multiple -/
def rLcm : List V → Hp → VK → Prop := fun vs H Q => ∃ a b : Int, vs = [.int a, .int b] ∧ a.natAbs < 2 ^ 64 ∧ b.natAbs < 2 ^ 64 ∧ Q (.int ((Nat.lcm a.natAbs b.natAbs : Nat) : Int)) H
theorem cr_lcm {X : Cx} : CallR X (.builtin "math.lcm") rLcm := by
  intro pins s σ H vs us Q I r h
  obtain ⟨a, b, rfl, ha, hb, q⟩ := h
  obtain ⟨t, u, rfl⟩ := Vals.int2 r
  exact PySem.W.mc_lcm ha hb fun _ => ⟨.int _, H, I.tok _, ⟨_, rfl⟩, q⟩
theorem lcm_parts {a b : Int} (ha : 0 < a) (hb : 0 < b) : ∃ g n1 n2 : Int, 0 < g ∧ 0 < n1 ∧ 0 < n2 ∧ a = g * n2 ∧ b = g * n1 ∧ ((Nat.lcm a.natAbs b.natAbs : Nat) : Int) = g * n1 * n2 ∧ ((Nat.lcm a.natAbs b.natAbs : Nat) : Int).fdiv a = n1 ∧ ((Nat.lcm a.natAbs b.natAbs : Nat) : Int).fdiv b = n2 ∧ g = Int.gcd a b := by
  obtain ⟨x, rfl⟩ : ∃ x : Nat, a = x := ⟨a.toNat, by omega⟩
  obtain ⟨y, rfl⟩ : ∃ y : Nat, b = y := ⟨b.toNat, by omega⟩
  have hx : 0 < x := by omega
  have hy : 0 < y := by omega
  have hg : 0 < Nat.gcd x y := Nat.gcd_pos_of_pos_left _ hx
  obtain ⟨n2, h2⟩ := Nat.gcd_dvd_left x y
  obtain ⟨n1, h1⟩ := Nat.gcd_dvd_right x y
  have hl := Nat.gcd_mul_lcm x y
  have e0 : Int.gcd (x : Int) (y : Int) = Nat.gcd x y := rfl
  rw [Int.natAbs_natCast, Int.natAbs_natCast, e0]
  generalize Nat.gcd x y = g at hg h1 h2 hl
  generalize Nat.lcm x y = l at hl
  subst h2 h1
  have n1p : 0 < n1 := Nat.pos_of_mul_pos_left hy
  have n2p : 0 < n2 := Nat.pos_of_mul_pos_left hx
  have el : l = g * n1 * n2 := by
    refine Nat.eq_of_mul_eq_mul_left hg ?_
    rw [hl, Nat.mul_assoc, Nat.mul_comm n2, Nat.mul_assoc]
  subst el
  refine ⟨g, n1, n2, by omega, by omega, by omega, by rw [Int.natCast_mul], by rw [Int.natCast_mul], by rw [Int.natCast_mul, Int.natCast_mul], ?_, ?_, rfl⟩
  · rw [Int.fdiv_eq_ediv_of_nonneg _ (by omega)]
    refine Int.ediv_eq_of_eq_mul_left (by omega) ?_
    rw [← Int.natCast_mul]
    congr 1
    rw [Nat.mul_comm g n1, Nat.mul_assoc]
  · rw [Int.fdiv_eq_ediv_of_nonneg _ (by omega)]
    refine Int.ediv_eq_of_eq_mul_left (by omega) ?_
    rw [← Int.natCast_mul]
    congr 1
    rw [Nat.mul_comm]
end K17
namespace K17
open PySem PySem.Spec PyProof.Rows L2 Vk
abbrev s_fplus : Stmt := topS 10
theorem sc_fplus : FnScope ["form", "n"] ["form", "n"] (defScope s_fplus) := ⟨rfl, rfl, rfl, by decide +kernel, rfl, by decide +kernel, by decide +kernel⟩
abbrev s_sts : Stmt := topS 14
theorem sc_sts : FnScope ["ts", "entry"] ["ts"] (defScope s_sts) := ⟨rfl, rfl, rfl, by decide +kernel, rfl, by decide +kernel, by decide +kernel⟩
abbrev s_nfit : Stmt := topS 15
theorem sc_nfit : FnScope ["one", "other"] ["one", "other"] (defScope s_nfit) := ⟨rfl, rfl, rfl, by decide +kernel, rfl, by decide +kernel, by decide +kernel⟩
abbrev s_tsum : Stmt := topS 16
theorem sc_tsum : FnScope ["one", "other", "length", "wide"] ["one", "other"] (defScope s_tsum) := ⟨rfl, rfl, rfl, by decide +kernel, rfl, by decide +kernel, by decide +kernel⟩
abbrev s_above : Stmt := topS 18
theorem sc_above : FnScope ["amount", "form", "ts", "_"] ["amount"] (defScope s_above) := ⟨rfl, rfl, rfl, by decide +kernel, rfl, by decide +kernel, by decide +kernel⟩
abbrev s_up : Stmt := topS 19
theorem sc_up : FnScope ["amount", "form", "ts", "size"] ["amount"] (defScope s_up) := ⟨rfl, rfl, rfl, by decide +kernel, rfl, by decide +kernel, by decide +kernel⟩
abbrev s_down : Stmt := topS 20
theorem sc_down : FnScope ["amount", "form", "ts", "size"] ["amount"] (defScope s_down) := ⟨rfl, rfl, rfl, by decide +kernel, rfl, by decide +kernel, by decide +kernel⟩
/-- an amount in the heap: its form, its ts, its lower number -/
def Am (H : Hp) (a : Addr) (f ts : List Int) (D : Int) : Prop := ∃ pf pt, Tp H a [.ref pf, .ref pt, .int D] ∧ Row H pf f ∧ Row H pt ts
theorem Am.same {H H' : Hp} {a : Addr} {f ts : List Int} {D : Int} (h : Am H a f ts D) (s : Same H H') : Am H' a f ts D := by
  obtain ⟨pf, pt, h1, h2, h3⟩ := h
  exact ⟨pf, pt, h1.same s, h2.same s, h3.same s⟩
theorem Am.but {m a : Addr} {H H' : Hp} {f ts : List Int} {D : Int} {kvs : List (Key × V)} (h : Am H a f ts D) (hm : H m = some (.dK kvs)) (s : SameBut m H H') : Am H' a f ts D := by
  obtain ⟨pf, pt, h1, h2, h3⟩ := h
  exact ⟨pf, pt, h1.but hm s, h2.but hm s, h3.but hm s⟩
theorem Row.ext {H H' : Hp} {a : Addr} {xs : List Int} (h : Row H a xs) (e : LamX.ExtN H H') : Row H' a xs := ⟨Tp.ext h.1 e, h.2⟩
theorem Am.ext {a : Addr} {H H' : Hp} {f ts : List Int} {D : Int} (h : Am H a f ts D) (e : LamX.ExtN H H') : Am H' a f ts D := by
  obtain ⟨pf, pt, h1, h2, h3⟩ := h
  exact ⟨pf, pt, Tp.ext h1 e, Row.ext h2 e, Row.ext h3 e⟩
/-- few and small numbers -/
structure Sml (k : Nat) (f ts : List Int) (D : Int) : Prop where
  ne : f ≠ []
  fl : f.length ≤ 10
  tl : ts.length ≤ 20
  fz : ∀ x ∈ f, SmZ k x
  tz : ∀ x ∈ ts, SmZ k x
  d0 : 1 ≤ D
  d1 : D ≤ 10000
def spFplus : Sp := fun vs H Q _ => ∃ (a : Addr) (n : Int) (f : List Int), vs = [.ref a, .int n] ∧ Row H a f ∧ f ≠ [] ∧ f.length ≤ 20 ∧ (∀ x ∈ f, SmZ 200 x) ∧ SmZ 200 n ∧ ∀ r H', Same H H' → Row H' r (plusF f n) → Q (.ref r) H'
def spSts : Sp := fun vs H Q _ => ∃ (a : Addr) (ts : List Int), vs = [.ref a] ∧ Row H a ts ∧ Q (.int (lexS ts)) H
def spNfit : Sp := fun vs H Q _ => ∃ (a b : Addr) (f1 t1 f2 t2 : List Int) (D1 D2 : Int), vs = [.ref a, .ref b] ∧ Am H a f1 t1 D1 ∧ Am H b f2 t2 D2 ∧ f1.length = f2.length ∧ Q .non H
def spNfitX (C : Addr) : Sp := fun vs H Q E => ∃ (a b : Addr) (f1 t1 f2 t2 : List Int) (D1 D2 : Int), vs = [.ref a, .ref b] ∧ Am H a f1 t1 D1 ∧ Am H b f2 t2 D2 ∧ f1.length ≠ f2.length ∧ E (.ref C) none H
def spTsum : Sp := fun vs H Q _ => ∃ (a b : Addr) (xs ys : List Int), vs = [.ref a, .ref b] ∧ Row H a xs ∧ Row H b ys ∧ xs.length ≤ 20 ∧ ys.length ≤ 20 ∧ ∀ r H', Same H H' → Tp H' r ((tsumI xs ys).map V.int) → Q (.ref r) H'
def aboveF (f ts : List Int) : List Int := if 0 < lexS ts then f else plusF f (-1)
def upF (f ts : List Int) (D : Int) : List Int := if 0 < lexS ts then f else plusF f (D - 1)
def upJ (ts : List Int) : Int := if 0 < lexS ts then 1 else 0
def downF (f ts : List Int) : List Int := if lexS ts < 0 then plusF f (-1) else f
def spAbove : Sp := fun vs H Q _ => ∃ (a : Addr) (f ts : List Int) (D : Int), vs = [.ref a] ∧ Am H a f ts D ∧ Sml 100 f ts D ∧ ∀ r H', Same H H' → Row H' r (aboveF f ts) → Q (.ref r) H'
def spUp : Sp := fun vs H Q _ => ∃ (a : Addr) (f ts : List Int) (D : Int), vs = [.ref a] ∧ Am H a f ts D ∧ Sml 100 f ts D ∧ ∀ r q p H', Same H H' → Tp H' r [.ref q, .int (upJ ts)] → Tp H' q [.int D, .ref p] → Row H' p (upF f ts D) → Q (.ref r) H'
def spDown : Sp := fun vs H Q _ => ∃ (a : Addr) (f ts : List Int) (D : Int), vs = [.ref a] ∧ Am H a f ts D ∧ Sml 100 f ts D ∧ ∀ r q p H', Same H H' → Tp H' r [.ref q, .int 0] → Tp H' q [.int D, .ref p] → Row H' p (downF f ts) → Q (.ref r) H'
theorem smz_add {n : Nat} {a b : Int} (h1 : SmZ n a) (h2 : SmZ n b) : SmZ (n + 1) (a + b) := by
  unfold SmZ at *
  rw [Nat.pow_succ]
  omega
theorem plusF_len (f : List Int) (n : Int) : (plusF f n).length = f.length := by
  cases f <;> rfl
theorem plusF_sm {k : Nat} {f : List Int} {n : Int} (hf : ∀ x ∈ f, SmZ k x) (hn : SmZ k n) : ∀ x ∈ plusF f n, SmZ (k + 1) x := by
  cases f with
  | nil => intro x h; cases h
  | cons c xs =>
    intro x h
    rcases List.mem_cons.mp h with rfl | h
    · exact smz_add (hf c (List.mem_cons_self ..)) hn
    · exact smz_mono (hf x (List.mem_cons_of_mem _ h)) (Nat.le_succ k)
section
variable {P : Program} {w : World} {K : PySem.W.Frag} {mg : Str → Option Value} {base : Heap}
theorem ok_fplus {f : Addr} {fd : FuncData} (F : Fun K "form_plus" "form_plus" s_fplus f fd) : FnOk P w K mg base CX0 1 f fd ["form", "n"] spFplus := by
  have sc := sc_fplus
  refine F.ok sc (fun vs H Q E h => ?_) (fun cdv A outer s H vs Q E hr h => ?_)
  · obtain ⟨a, n, f, rfl, _⟩ := h
    rfl
  · obtain ⟨a, n, f, rfl, ha, hne, hl, hz, hn, q⟩ := h
    refine ⟨_, (pss_one (ps_ret (pe_tup (pa_cons (pe_op op_add (pe_ix ix_tup (pv 0) pe_int (fun _ _ => rfl)) (pv 1)) (pa_starK (K := K) rfl (pe_slice sl_tupA (pv 0) (po_some pe_int) po_none) pa_nil))))), ?_⟩
    obtain ⟨c, xs, rfl⟩ : ∃ c xs, f = c :: xs := by
      cases f with
      | nil => exact absurd rfl hne
      | cons c xs => exact ⟨c, xs, rfl⟩
    refine ⟨.ref a, rfl, a, _, 0, .int c, rfl, rfl, ha.1.t, atI_nat (j := 0) rfl, .int n, rfl, c, n, rfl, rfl, .ref a, rfl, 1, rfl, ?_⟩
    unfold tNoPart
    refine slice_tp ha.1 fun r H1 s1 g1 => ?_
    have e1 : cutV (List.map V.int (c :: xs)) (some 1) none = xs.map V.int := cut1
    rw [e1] at g1
    refine ⟨r, _, rfl, .inl g1.t, ?_⟩
    refine ⟨by show (_ :: _).length ≤ _; rw [List.length_cons, List.length_append, List.length_map]; exact Nat.le_of_lt (small (by rw [List.length_cons] at hl; show xs.length + 0 + 1 ≤ 100; omega)), fun p np => ?_⟩
    refine q p _ (s1.trans (same_new np)) ⟨?_, by rw [plusF_len]; omega, fun x hx => smz_mono (plusF_sm hz hn x hx) (by decide)⟩
    show upd H1 p _ p = _
    rw [upd_same, List.append_nil]
    rfl
theorem ok_sts {f : Addr} {fd : FuncData} (F : Fun K "_sign_of_ts" "_sign_of_ts" s_sts f fd) (C_sign_of : Cal P w K mg base 1 "sign_of" ["number"] spSign) : FnOk P w K mg base CX0 2 f fd ["ts"] spSts := by
  have sc := sc_sts
  refine F.ok sc (fun vs H Q E h => ?_) (fun cdv A outer s H vs Q E hr h => ?_)
  · obtain ⟨a, ts, rfl, _⟩ := h
    rfl
  · obtain ⟨a, ts, rfl, ha, q⟩ := h
    refine ⟨_, (pss_cons (ps_for PassesOwn.never rfl (pi_tup (pv 0)) (pg_name (i := 1) sc.nd rfl (Or.inl rfl))
      (pss_one (ps_if (pt_cmpR op_ne (pv 1) pe_int (nomark _))
      (pss_one (ps_ret (call_ C_sign_of (hr.mono (by decide)) (by rfl) (pa_cons (pv 1) pa_nil))))
      pss_nil)))
    (pss_one (ps_ret pe_int))), ?_⟩
    refine ⟨.ref a, rfl, a, rfl, ⟨_, ha.1.t⟩, ?_⟩
    refine for_tup (K := K) (a := a) (xs := ts.map V.int) (fun i σ H' => (∃ y, σ = [some (.ref a), y]) ∧ H' = H ∧ lexS (ts.drop i) = lexS ts) ⟨⟨none, rfl⟩, rfl, rfl⟩ ?_ ?_ ?_
    · rintro i σ H' _ ⟨_, rfl, _⟩
      exact ha.1.t
    · rintro i x σ H' hx ⟨⟨y, rfl⟩, rfl, he⟩
      obtain ⟨z, hz, rfl⟩ := map_get hx
      have hi := (List.getElem?_eq_some_iff.mp hz).1
      have ed : ts.drop i = z :: ts.drop (i + 1) := by
        rw [List.drop_eq_getElem_cons hi]
        congr 1
        exact (List.getElem?_eq_some_iff.mp hz).2
      rw [ed] at he
      refine ⟨.int z, rfl, rfl, _, rfl, ite2 (fun h => ?_) (fun h => ?_)⟩
      · have zn : z ≠ 0 := fun e => by
          rw [e] at h
          exact absurd h (by decide)
        refine ⟨.int z, rfl, z, rfl, ?_⟩
        have e2 : lexS ts = sg z := by
          rw [← he]
          show (if z ≠ 0 then sg z else _) = _
          rw [if_pos zn]
        rw [e2] at q
        exact q
      · have zn : z = 0 := by
          by_cases e : z = 0
          · exact e
          · refine absurd ?_ h
            rw [decide_eq_false (fun e' => e (V.int.inj e'))]
            rfl
        refine ⟨⟨_, rfl⟩, rfl, ?_⟩
        rw [← he]
        show _ = if z ≠ 0 then _ else _
        rw [if_neg (by omega)]
    · rintro σ H' ⟨⟨y, rfl⟩, rfl, he⟩
      rw [List.length_map, List.drop_length] at he
      rw [← he] at q
      exact q
theorem ok_nfit {f : Addr} {fd : FuncData} (F : Fun K "_need_fit" "_need_fit" s_nfit f fd) (m_len : mg "len" = none) : FnOk P w K mg base CX0 1 f fd ["one", "other"] spNfit := by
  have sc := sc_nfit
  refine F.ok sc (fun vs H Q E h => ?_) (fun cdv A outer s H vs Q E hr h => ?_)
  · obtain ⟨a, b, f1, t1, f2, t2, D1, D2, rfl, _⟩ := h
    rfl
  · obtain ⟨a, b, f1, t1, f2, t2, D1, D2, rfl, ⟨pf1, pt1, h1, h2, h3⟩, ⟨pf2, pt2, k1, k2, k3⟩, hl, q⟩ := h
    refine ⟨_, (pss_one (ps_if (pt_cmpR op_ne (pe_callB call_len_seq (by rfl) m_len (by decide +kernel) (pa_cons (pe_ix ix_tup (pv 0) pe_int (fun _ _ => rfl)) pa_nil)) (pe_callB call_len_seq (by rfl) m_len (by decide +kernel) (pa_cons (pe_ix ix_tup (pv 1) pe_int (fun _ _ => rfl)) pa_nil)) (nomark _))
      (pss_one ps_never)
      pss_nil)), ?_⟩
    refine ⟨.ref a, rfl, a, _, 0, .ref pf1, rfl, rfl, h1.t, atI_nat (j := 0) rfl, pf1, _, rfl, .inr h2.1.t, .ref b, rfl, b, _, 0, .ref pf2, rfl, rfl, k1.t, atI_nat (j := 0) rfl, pf2, _, rfl, .inr k2.1.t, rfl, _, rfl, iteF' ?_ q⟩
    rw [List.length_map, List.length_map, hl, decide_eq_true rfl]
    rfl
theorem ok_nfitX {f C : Addr} {fd : FuncData} (F : Fun K "_need_fit" "_need_fit" s_nfit f fd) (m_len : mg "len" = none) (T : ExcT K mg "NotFit" C) : FnOk P w K mg base (L2.CX P w) 1 f fd ["one", "other"] (spNfitX C) := by
  have sc := sc_nfit
  refine F.okX sc (fun vs H Q E h => ?_) (fun cdv A outer s H vs Q E hr h => ?_)
  · obtain ⟨a, b, f1, t1, f2, t2, D1, D2, rfl, _⟩ := h
    rfl
  · obtain ⟨a, b, f1, t1, f2, t2, D1, D2, rfl, ⟨pf1, pt1, h1, h2, h3⟩, ⟨pf2, pt2, k1, k2, k3⟩, hl, q⟩ := h
    refine ⟨_, (pss_one (ps_if (pt_cmpR op_ne (pe_callB call_len_seq (by rfl) m_len (by decide +kernel) (pa_cons (pe_ix ix_tup (pv 0) pe_int (fun _ _ => rfl)) pa_nil)) (pe_callB call_len_seq (by rfl) m_len (by decide +kernel) (pa_cons (pe_ix ix_tup (pv 1) pe_int (fun _ _ => rfl)) pa_nil)) (nomark _))
      (pss_one (ps_raise rfl (takes_of rfl rfl rfl rfl) (pmk_own0 PySem.F.excBase_ValueError T.ex T.g T.k (raises_own T.b T.t) rfl)))
      pss_nil)), ?_⟩
    refine ⟨.ref a, rfl, a, _, 0, .ref pf1, rfl, rfl, h1.t, atI_nat (j := 0) rfl, pf1, _, rfl, .inr h2.1.t, .ref b, rfl, b, _, 0, .ref pf2, rfl, rfl, k1.t, atI_nat (j := 0) rfl, pf2, _, rfl, .inr k2.1.t, rfl, _, rfl, iteT' ?_ q⟩
    rw [List.length_map, List.length_map, decide_eq_false (fun e => hl (by have := V.int.inj e; omega))]
    rfl
theorem pad_tp {H : Hp} {a : Addr} {xs : List Int} {L : Nat} {z : Int} {Q : VK} (ha : Tp H a (xs.map V.int)) (hz : z = ((L - xs.length : Nat) : Int)) (hL : L ≤ 50) (hx : xs.length ≤ 50) (q : ∀ r H', Same H H' → Tp H' r ((pad xs L).map V.int) → Q (.ref r) H') :
    ∀ p, H p = none → rTms K (.ref p) (.int z) (upd H p (.tup [.int 0])) fun y H2 => rCatA K (.ref a) y H2 Q := by
  intro p np
  have s1 : Same H (upd H p (.tup [.int 0])) := same_new np
  have g1 : Tp (upd H p (.tup [.int 0])) p [.int 0] := upd_same
  generalize upd H p (.tup [.int 0]) = H1 at s1 g1 ⊢
  refine tms_tp (k := L - xs.length) hz g1 (by simp) (by omega) (by decide) fun r H2 s2 g2 => ?_
  have e2 : (List.replicate (L - xs.length) [V.int 0]).flatten = (List.replicate (L - xs.length) (0 : Int)).map V.int := by
    rw [List.map_replicate]
    generalize L - xs.length = n
    induction n with
    | zero => rfl
    | succ n ih => rw [List.replicate_succ, List.flatten_cons, ih, List.replicate_succ]; rfl
  rw [e2] at g2
  refine cat_tp ((ha.same s1).same s2) g2 (by rw [List.length_map, List.length_map, List.length_replicate]; exact Nat.le_of_lt (small (by omega))) fun r2 H3 s3 g3 => ?_
  refine q r2 H3 ((s1.trans s2).trans s3) ?_
  unfold pad
  rw [List.map_append]
  exact g3
theorem ok_tsum {f : Addr} {fd : FuncData} (F : Fun K "_ts_sum" "_ts_sum" s_tsum f fd) (C_form_sum : Cal P w K mg base 1 "form_sum" ["one", "other"] spFsum) (m_max : mg "max" = none) (m_len : mg "len" = none) : FnOk P w K mg base CX0 2 f fd ["one", "other"] spTsum := by
  have sc := sc_tsum
  refine F.ok sc (fun vs H Q E h => ?_) (fun cdv A outer s H vs Q E hr h => ?_)
  · obtain ⟨a, b, xs, ys, rfl, _⟩ := h
    rfl
  · obtain ⟨a, b, xs, ys, rfl, ha, hb, lx, ly, q⟩ := h
    refine ⟨_, (pss_cons (ps_set (i := 2) sc.nd rfl (Or.inl rfl) (pe_callB (call_max2 rfl) (by rfl) m_max (by decide +kernel) (pa_cons (pe_callB call_len_seq (by rfl) m_len (by decide +kernel) (pa_cons (pv 0) pa_nil)) (pa_cons (pe_callB call_len_seq (by rfl) m_len (by decide +kernel) (pa_cons (pv 1) pa_nil)) pa_nil))))
    (pss_cons (ps_set (i := 3) sc.nd rfl (Or.inl rfl) (pe_op op_catA (pv 0) (pe_op (op_tmsK (K := K) rfl) (pe_tup (pa_cons pe_int pa_nil)) (pe_op op_sub (pv 2) (pe_callB call_len_seq (by rfl) m_len (by decide +kernel) (pa_cons (pv 0) pa_nil))))))
    (pss_one (ps_ret (call_ C_form_sum (hr.mono (by decide)) (by rfl) (pa_cons (pv 3) (pa_cons (pe_op op_catA (pv 1) (pe_op (op_tmsK (K := K) rfl) (pe_tup (pa_cons pe_int pa_nil)) (pe_op op_sub (pv 2) (pe_callB call_len_seq (by rfl) m_len (by decide +kernel) (pa_cons (pv 1) pa_nil))))) pa_nil))))))), ?_⟩
    obtain ⟨L, hL⟩ : ∃ L, L = max xs.length ys.length := ⟨_, rfl⟩
    refine ⟨.ref a, rfl, a, _, rfl, .inr ha.1.t, .ref b, rfl, b, _, rfl, .inr hb.1.t, _, _, rfl, ?_⟩
    have eL : (if (((ys.map V.int).length : Nat) : Int) > (((xs.map V.int).length : Nat) : Int) then (((ys.map V.int).length : Nat) : Int) else (((xs.map V.int).length : Nat) : Int)) = ((L : Nat) : Int) := by
      rw [List.length_map, List.length_map]
      split <;> omega
    rw [eL]
    refine ⟨.ref a, rfl, by show 1 ≤ sizeLine; decide, fun p np => ?_⟩
    refine ⟨.int L, rfl, .ref a, rfl, a, _, rfl, .inr (ha.1.same (same_new np)).t, (L : Int), ((xs.map V.int).length : Nat), rfl, rfl, ?_⟩
    refine pad_tp (L := L) ha.1 (by rw [List.length_map]; omega) (by omega) (by omega) (fun r H1 s1 g1 => ?_) p np
    refine ⟨.ref r, rfl, .ref b, rfl, by show 1 ≤ sizeLine; decide, fun p2 np2 => ?_⟩
    have hb1 := hb.1.same s1
    refine ⟨.int L, rfl, .ref b, rfl, b, _, rfl, .inr (hb1.same (same_new np2)).t, (L : Int), ((ys.map V.int).length : Nat), rfl, rfl, ?_⟩
    refine pad_tp (L := L) hb1 (by rw [List.length_map]; omega) (by omega) (by omega) (fun r2 H2 s2 g2 => ?_) p2 np2
    have px : (pad xs L).length = L := pad_len (by omega)
    have py : (pad ys L).length = L := pad_len (by omega)
    refine ⟨r, r2, pad xs L, pad ys L, rfl, ⟨g1.same s2, by omega, fun x hx => ?_⟩, ⟨g2, by omega, fun x hx => ?_⟩, by omega, fun r3 H3 s3 g3 => ?_⟩
    · rcases pad_mem hx with h | h
      · exact ha.2.2 x h
      · subst h
        exact (by decide : (0 : Int).natAbs < 2 ^ 300)
    · rcases pad_mem hx with h | h
      · exact hb.2.2 x h
      · subst h
        exact (by decide : (0 : Int).natAbs < 2 ^ 300)
    · refine q r3 H3 ((s1.trans s2).trans s3) ?_
      unfold tsumI
      rw [← hL]
      exact g3
theorem ok_above {f : Addr} {fd : FuncData} (F : Fun K "above_row" "above_row" s_above f fd) (C__sign_of_ts : Cal P w K mg base 2 "_sign_of_ts" ["ts"] spSts) (C_form_plus : Cal P w K mg base 1 "form_plus" ["form", "n"] spFplus) : FnOk P w K mg base CX0 3 f fd ["amount"] spAbove := by
  have sc := sc_above
  refine F.ok sc (fun vs H Q E h => ?_) (fun cdv A outer s H vs Q E hr h => ?_)
  · obtain ⟨a, f, ts, D, rfl, _⟩ := h
    rfl
  · obtain ⟨a, f, ts, D, rfl, ⟨pf, pt, h1, h2, h3⟩, z, q⟩ := h
    refine ⟨_, (pss_cons (ps_asg (pv 0) (pg_tup (n := 3) (by rfl) (pgs_cons (pg_name (i := 1) sc.nd rfl (Or.inl rfl)) (pgs_cons (pg_name (i := 2) sc.nd rfl (Or.inl rfl)) (pgs_cons (pg_name (i := 3) sc.nd rfl (Or.inl rfl)) pgs_nil)))))
    (pss_one (ps_ret (pe_ifExp (pt_cmpR op_gt (call_ C__sign_of_ts (hr.mono (by decide)) (by rfl) (pa_cons (pv 2) pa_nil)) pe_int (nomark _)) (pv 1) (call_ C_form_plus (hr.mono (by decide)) (by rfl) (pa_cons (pv 1) (pa_cons (pe_un un_neg pe_int) pa_nil))))))), ?_⟩
    refine ⟨.ref a, rfl, a, _, rfl, h1.t, rfl, .ref pf, [.ref pt, .int D], rfl, .ref pt, [.int D], rfl, .int D, [], rfl, rfl, ?_⟩
    refine ⟨.ref pt, rfl, pt, ts, rfl, h3, _, _, rfl, rfl, _, rfl, ite2 (fun e => ?_) (fun e => ?_)⟩
    · have q := q pf H (Same.refl _)
      unfold aboveF at q
      rw [if_pos (of_decide_eq_true e)] at q
      exact ⟨.ref pf, rfl, q h2⟩
    · refine ⟨.ref pf, rfl, 1, rfl, pf, -1, f, rfl, h2, z.ne, by have := z.fl; omega, fun x hx => smz_mono (z.fz x hx) (by decide), by decide, fun r H1 s1 g1 => ?_⟩
      have q := q r H1 s1
      unfold aboveF at q
      rw [if_neg (fun h => e (decide_eq_true h))] at q
      exact q g1
theorem ok_up {f : Addr} {fd : FuncData} (F : Fun K "round_up" "round_up" s_up f fd) (C__sign_of_ts : Cal P w K mg base 2 "_sign_of_ts" ["ts"] spSts) (C_form_plus : Cal P w K mg base 1 "form_plus" ["form", "n"] spFplus) : FnOk P w K mg base CX0 3 f fd ["amount"] spUp := by
  have sc := sc_up
  refine F.ok sc (fun vs H Q E h => ?_) (fun cdv A outer s H vs Q E hr h => ?_)
  · obtain ⟨a, f, ts, D, rfl, _⟩ := h
    rfl
  · obtain ⟨a, f, ts, D, rfl, ⟨pf, pt, h1, h2, h3⟩, z, q⟩ := h
    refine ⟨_, (pss_cons (ps_asg (pv 0) (pg_tup (n := 3) (by rfl) (pgs_cons (pg_name (i := 1) sc.nd rfl (Or.inl rfl)) (pgs_cons (pg_name (i := 2) sc.nd rfl (Or.inl rfl)) (pgs_cons (pg_name (i := 3) sc.nd rfl (Or.inl rfl)) pgs_nil)))))
    (pss_cons (ps_if (pt_cmpR op_gt (call_ C__sign_of_ts (hr.mono (by decide)) (by rfl) (pa_cons (pv 2) pa_nil)) pe_int (nomark _))
      (pss_one (ps_ret (pe_tup (pa_cons (pe_tup (pa_cons (pv 3) (pa_cons (pv 1) pa_nil))) (pa_cons pe_int pa_nil)))))
      pss_nil)
    (pss_one (ps_ret (pe_tup (pa_cons (pe_tup (pa_cons (pv 3) (pa_cons (call_ C_form_plus (hr.mono (by decide)) (by rfl) (pa_cons (pv 1) (pa_cons (pe_op op_sub (pv 3) pe_int) pa_nil))) pa_nil))) (pa_cons pe_int pa_nil))))))), ?_⟩
    refine ⟨.ref a, rfl, a, _, rfl, h1.t, rfl, .ref pf, [.ref pt, .int D], rfl, .ref pt, [.int D], rfl, .int D, [], rfl, rfl, ?_⟩
    refine ⟨.ref pt, rfl, pt, ts, rfl, h3, _, _, rfl, rfl, _, rfl, ite2 (fun e => ?_) (fun e => ?_)⟩
    · have e := of_decide_eq_true e
      refine ⟨.int D, rfl, .ref pf, rfl, by show 2 ≤ sizeLine; decide, fun p1 n1 => ?_⟩
      have s1 := same_new (o := .tup [.int D, .ref pf]) n1
      refine ⟨by show 2 ≤ sizeLine; decide, fun p2 n2 => ?_⟩
      have s2 := same_new (o := .tup [.ref p1, .int 1]) n2
      refine q p2 p1 pf _ (s1.trans s2) ?_ (s2 _ _ upd_same) ?_
      · unfold upJ
        rw [if_pos e]
        exact upd_same
      · unfold upF
        rw [if_pos e]
        exact (h2.same s1).same s2
    · have e : ¬ 0 < lexS ts := fun h => e (decide_eq_true h)
      have zd : SmZ 200 (D - 1) := by
        have h0 := z.d0
        have h1 := z.d1
        exact Nat.lt_of_le_of_lt (show (D - 1).natAbs ≤ 10000 by omega) (by decide)
      refine ⟨.int D, rfl, .ref pf, rfl, .int D, rfl, D, 1, rfl, rfl, pf, D - 1, f, rfl, h2, z.ne, by have := z.fl; omega, fun x hx => smz_mono (z.fz x hx) (by decide), zd, fun r H1 s1 g1 => ?_⟩
      refine ⟨by show 2 ≤ sizeLine; decide, fun p1 n1 => ?_⟩
      have s2 := same_new (o := .tup [.int D, .ref r]) n1
      refine ⟨by show 2 ≤ sizeLine; decide, fun p2 n2 => ?_⟩
      have s3 := same_new (o := .tup [.ref p1, .int 0]) n2
      refine q p2 p1 r _ ((s1.trans s2).trans s3) ?_ (s3 _ _ upd_same) ?_
      · unfold upJ
        rw [if_neg e]
        exact upd_same
      · unfold upF
        rw [if_neg e]
        exact (g1.same s2).same s3
theorem ok_down {f : Addr} {fd : FuncData} (F : Fun K "round_down" "round_down" s_down f fd) (C__sign_of_ts : Cal P w K mg base 2 "_sign_of_ts" ["ts"] spSts) (C_form_plus : Cal P w K mg base 1 "form_plus" ["form", "n"] spFplus) : FnOk P w K mg base CX0 3 f fd ["amount"] spDown := by
  have sc := sc_down
  refine F.ok sc (fun vs H Q E h => ?_) (fun cdv A outer s H vs Q E hr h => ?_)
  · obtain ⟨a, f, ts, D, rfl, _⟩ := h
    rfl
  · obtain ⟨a, f, ts, D, rfl, ⟨pf, pt, h1, h2, h3⟩, z, q⟩ := h
    refine ⟨_, (pss_cons (ps_asg (pv 0) (pg_tup (n := 3) (by rfl) (pgs_cons (pg_name (i := 1) sc.nd rfl (Or.inl rfl)) (pgs_cons (pg_name (i := 2) sc.nd rfl (Or.inl rfl)) (pgs_cons (pg_name (i := 3) sc.nd rfl (Or.inl rfl)) pgs_nil)))))
    (pss_cons (ps_if (pt_cmpR op_lt (call_ C__sign_of_ts (hr.mono (by decide)) (by rfl) (pa_cons (pv 2) pa_nil)) pe_int (nomark _))
      (pss_one (ps_ret (pe_tup (pa_cons (pe_tup (pa_cons (pv 3) (pa_cons (call_ C_form_plus (hr.mono (by decide)) (by rfl) (pa_cons (pv 1) (pa_cons (pe_un un_neg pe_int) pa_nil))) pa_nil))) (pa_cons pe_int pa_nil)))))
      pss_nil)
    (pss_one (ps_ret (pe_tup (pa_cons (pe_tup (pa_cons (pv 3) (pa_cons (pv 1) pa_nil))) (pa_cons pe_int pa_nil))))))), ?_⟩
    refine ⟨.ref a, rfl, a, _, rfl, h1.t, rfl, .ref pf, [.ref pt, .int D], rfl, .ref pt, [.int D], rfl, .int D, [], rfl, rfl, ?_⟩
    refine ⟨.ref pt, rfl, pt, ts, rfl, h3, _, _, rfl, rfl, _, rfl, ite2 (fun e => ?_) (fun e => ?_)⟩
    · have e := of_decide_eq_true e
      refine ⟨.int D, rfl, .ref pf, rfl, 1, rfl, pf, -1, f, rfl, h2, z.ne, by have := z.fl; omega, fun x hx => smz_mono (z.fz x hx) (by decide), by decide, fun r H1 s1 g1 => ?_⟩
      refine ⟨by show 2 ≤ sizeLine; decide, fun p1 n1 => ?_⟩
      have s2 := same_new (o := .tup [.int D, .ref r]) n1
      refine ⟨by show 2 ≤ sizeLine; decide, fun p2 n2 => ?_⟩
      have s3 := same_new (o := .tup [.ref p1, .int 0]) n2
      refine q p2 p1 r _ ((s1.trans s2).trans s3) upd_same (s3 _ _ upd_same) ?_
      unfold downF
      rw [if_pos e]
      exact (g1.same s2).same s3
    · have e : ¬ lexS ts < 0 := fun h => e (decide_eq_true h)
      refine ⟨.int D, rfl, .ref pf, rfl, by show 2 ≤ sizeLine; decide, fun p1 n1 => ?_⟩
      have s1 := same_new (o := .tup [.int D, .ref pf]) n1
      refine ⟨by show 2 ≤ sizeLine; decide, fun p2 n2 => ?_⟩
      have s2 := same_new (o := .tup [.ref p1, .int 0]) n2
      refine q p2 p1 pf _ (s1.trans s2) upd_same (s2 _ _ upd_same) ?_
      unfold downF
      rw [if_neg e]
      exact (h2.same s1).same s2
end
end K17
namespace K17
open PySem PySem.Spec PyProof.Rows L2 Vk
abbrev s_cmp : Stmt := topS 17
theorem sc_cmp : FnScope ["one", "other", "p", "told", "form", "ts", "_"] ["one", "other", "p"] (defScope s_cmp) := ⟨rfl, rfl, rfl, by decide +kernel, rfl, by decide +kernel, by decide +kernel⟩
abbrev s_asum : Stmt := topS 21
theorem sc_asum : FnScope ["one", "other", "size", "form", "n", "n_other"] ["one", "other"] (defScope s_asum) := ⟨rfl, rfl, rfl, by decide +kernel, rfl, by decide +kernel, by decide +kernel⟩
abbrev s_atimes : Stmt := topS 22
theorem sc_atimes : FnScope ["amount", "n", "form", "ts", "size"] ["amount", "n"] (defScope s_atimes) := ⟨rfl, rfl, rfl, by decide +kernel, rfl, by decide +kernel, by decide +kernel⟩
/-- the parts of two lower numbers -/
structure Pts (D1 D2 g n1 n2 L : Int) : Prop where
  g0 : 0 < g
  p1 : 0 < n1
  p2 : 0 < n2
  e1 : D1 = g * n2
  e2 : D2 = g * n1
  eL : L = g * n1 * n2
  eg : g = Int.gcd D1 D2
def spAsum : Sp := fun vs H Q _ => ∃ (a b : Addr) (f1 t1 f2 t2 : List Int) (D1 D2 : Int), vs = [.ref a, .ref b] ∧ Am H a f1 t1 D1 ∧ Am H b f2 t2 D2 ∧ Sml 100 f1 t1 D1 ∧ Sml 100 f2 t2 D2 ∧ f1.length = f2.length ∧
  ∀ g n1 n2 L r H', Pts D1 D2 g n1 n2 L → Same H H' → Am H' r (List.zipWith (· + ·) (f1.map (n1 * ·)) (f2.map (n2 * ·))) (tsumI (t1.map (n1 * ·)) (t2.map (n2 * ·))) L → Q (.ref r) H'
def spAtimes : Sp := fun vs H Q _ => ∃ (a : Addr) (n : Int) (f t : List Int) (D : Int), vs = [.ref a, .int n] ∧ Am H a f t D ∧ Sml 100 f t D ∧ SmZ 100 n ∧ ∀ r H', Same H H' → Am H' r (f.map (n * ·)) (t.map (n * ·)) D → Q (.ref r) H'
def spCmp : Sp := fun vs H Q _ => ∃ (a b c : Addr) (f1 t1 f2 t2 : List Int) (D1 D2 : Int) (ps : List Int), vs = [.ref a, .ref b, .ref c] ∧ Am H a f1 t1 D1 ∧ Am H b f2 t2 D2 ∧ Sml 100 f1 t1 D1 ∧ Sml 100 f2 t2 D2 ∧ f1.length = f2.length ∧ Row H c ps ∧ f1.length = ps.length + 1 ∧
  ∀ H', Same H H' → Q (.int (cmpI (fv f1 ps) t1 D1 (fv f2 ps) t2 D2)) H'
def spSumX (C : Addr) : Sp := fun vs H Q E => ∃ (a b : Addr) (f1 t1 f2 t2 : List Int) (D1 D2 : Int), vs = [.ref a, .ref b] ∧ Am H a f1 t1 D1 ∧ Am H b f2 t2 D2 ∧ f1.length ≠ f2.length ∧ E (.ref C) none H
def spCmpX (C : Addr) : Sp := fun vs H Q E => ∃ (a b c : Addr) (f1 t1 f2 t2 : List Int) (D1 D2 : Int), vs = [.ref a, .ref b, .ref c] ∧ Am H a f1 t1 D1 ∧ Am H b f2 t2 D2 ∧ f1.length ≠ f2.length ∧ E (.ref C) none H
theorem map_sm {k j : Nat} {n : Int} {xs : List Int} (hn : SmZ k n) (hx : ∀ x ∈ xs, SmZ j x) : ∀ x ∈ xs.map (n * ·), SmZ (k + j) x := fun x h => by
  obtain ⟨y, hy, rfl⟩ := List.mem_map.mp h
  exact smz_mul hn (hx y hy)
theorem zip_sm {k : Nat} : ∀ {xs ys : List Int}, (∀ x ∈ xs, SmZ k x) → (∀ x ∈ ys, SmZ k x) → ∀ x ∈ List.zipWith (· + ·) xs ys, SmZ (k + 1) x
  | [], _, _, _, x, h => by cases h
  | _ :: _, [], _, _, x, h => by cases h
  | a :: xs, b :: ys, h1, h2, x, h => by
    rw [List.zipWith_cons_cons] at h
    rcases List.mem_cons.mp h with rfl | h
    · exact smz_add (h1 a (List.mem_cons_self ..)) (h2 b (List.mem_cons_self ..))
    · exact zip_sm (fun y hy => h1 y (List.mem_cons_of_mem _ hy)) (fun y hy => h2 y (List.mem_cons_of_mem _ hy)) x h
theorem tsum_sm {k : Nat} {xs ys : List Int} (h1 : ∀ x ∈ xs, SmZ k x) (h2 : ∀ x ∈ ys, SmZ k x) : ∀ x ∈ tsumI xs ys, SmZ (k + 1) x := by
  have z : SmZ k 0 := Nat.two_pow_pos k
  refine zip_sm (fun x h => ?_) (fun x h => ?_)
  · rcases pad_mem h with h | h
    · exact h1 x h
    · subst h
      exact z
  · rcases pad_mem h with h | h
    · exact h2 x h
    · subst h
      exact z
theorem tsum_len {xs ys : List Int} : (tsumI xs ys).length = max xs.length ys.length := by
  unfold tsumI
  rw [List.length_zipWith, pad_len (by omega), pad_len (by omega), Nat.min_self]
theorem neg_sm {k : Nat} {xs : List Int} (h : ∀ x ∈ xs, SmZ k x) : ∀ x ∈ xs.map (-1 * ·), SmZ k x := fun x hx => by
  obtain ⟨y, hy, rfl⟩ := List.mem_map.mp hx
  have := h y hy
  unfold SmZ at *
  show (-1 * y).natAbs < _
  rw [show -1 * y = -y by omega, Int.natAbs_neg]
  exact this
theorem pts_le {D1 D2 g n1 n2 L : Int} (h : Pts D1 D2 g n1 n2 L) : n1 ≤ D2 ∧ n2 ≤ D1 ∧ L ≤ D1 * D2 := by
  obtain ⟨h1, h2, h3, h4, h5, h6, _⟩ := h
  have a1 : 1 * n1 ≤ g * n1 := Int.mul_le_mul_of_nonneg_right (by omega) (by omega)
  have a2 : 1 * n2 ≤ g * n2 := Int.mul_le_mul_of_nonneg_right (by omega) (by omega)
  refine ⟨by omega, by omega, ?_⟩
  rw [h6, h4, h5, Int.mul_comm (g * n2)]
  exact Int.mul_le_mul_of_nonneg_left (by omega) (by rw [← h5]; omega)
section
variable {P : Program} {w : World} {K : PySem.W.Frag} {mg : Str → Option Value} {base : Heap}
theorem ok_asum {f : Addr} {fd : FuncData} (F : Fun K "amount_sum" "amount_sum" s_asum f fd) (C__need_fit : Cal P w K mg base 1 "_need_fit" ["one", "other"] spNfit) (C_form_sum : Cal P w K mg base 1 "form_sum" ["one", "other"] spFsum) (C_form_times : Cal P w K mg base 1 "form_times" ["form", "n"] spFtimes) (C__ts_sum : Cal P w K mg base 2 "_ts_sum" ["one", "other"] spTsum) (g_lcm : mg "lcm" = some (.builtin "math.lcm")) : FnOk P w K mg base CX0 3 f fd ["one", "other"] spAsum := by
  have sc := sc_asum
  refine F.ok sc (fun vs H Q E h => ?_) (fun cdv A outer s H vs Q E hr h => ?_)
  · obtain ⟨a, b, f1, t1, f2, t2, D1, D2, rfl, _⟩ := h
    rfl
  · obtain ⟨a, b, f1, t1, f2, t2, D1, D2, rfl, hA, hB, z1, z2, hl, q⟩ := h
    refine ⟨_, (pss_cons (ps_expr (call_ C__need_fit (hr.mono (by decide)) (by rfl) (pa_cons (pv 0) (pa_cons (pv 1) pa_nil))))
    (pss_cons (ps_set (i := 2) sc.nd rfl (Or.inl rfl) (pe_callBfun cr_lcm rfl g_lcm (pa_cons (pe_ix ix_tup (pv 0) pe_int (fun _ _ => rfl)) (pa_cons (pe_ix ix_tup (pv 1) pe_int (fun _ _ => rfl)) pa_nil))))
    (pss_cons (ps_par (i := 4) (j := 5) (by rfl) sc.nd rfl rfl (by decide) rfl rfl (pa_cons (pe_op op_fdivX (pv 2) (pe_ix ix_tup (pv 0) pe_int (fun _ _ => rfl))) (pa_cons (pe_op op_fdivX (pv 2) (pe_ix ix_tup (pv 1) pe_int (fun _ _ => rfl))) pa_nil)) (by rfl))
    (pss_cons (ps_set (i := 3) sc.nd rfl (Or.inl rfl) (call_ C_form_sum (hr.mono (by decide)) (by rfl) (pa_cons (call_ C_form_times (hr.mono (by decide)) (by rfl) (pa_cons (pe_ix ix_tup (pv 0) pe_int (fun _ _ => rfl)) (pa_cons (pv 4) pa_nil))) (pa_cons (call_ C_form_times (hr.mono (by decide)) (by rfl) (pa_cons (pe_ix ix_tup (pv 1) pe_int (fun _ _ => rfl)) (pa_cons (pv 5) pa_nil))) pa_nil))))
    (pss_one (ps_ret (pe_tup (pa_cons (pv 3) (pa_cons (call_ C__ts_sum (hr.mono (by decide)) (by rfl) (pa_cons (call_ C_form_times (hr.mono (by decide)) (by rfl) (pa_cons (pe_ix ix_tup (pv 0) pe_int (fun _ _ => rfl)) (pa_cons (pv 4) pa_nil))) (pa_cons (call_ C_form_times (hr.mono (by decide)) (by rfl) (pa_cons (pe_ix ix_tup (pv 1) pe_int (fun _ _ => rfl)) (pa_cons (pv 5) pa_nil))) pa_nil))) (pa_cons (pv 2) pa_nil)))))))))), ?_⟩
    have hA0 := hA
    have hB0 := hB
    obtain ⟨pf1, pt1, h1, h2, h3⟩ := hA
    obtain ⟨pf2, pt2, k1, k2, k3⟩ := hB
    have d10 := z1.d0
    have d11 := z1.d1
    have d20 := z2.d0
    have d21 := z2.d1
    obtain ⟨g, n1, n2, g0, p1, p2, e1, e2, eL, v1, v2, eg⟩ := lcm_parts (a := D1) (b := D2) (by omega) (by omega)
    have pts : Pts D1 D2 g n1 n2 _ := ⟨g0, p1, p2, e1, e2, eL, eg⟩
    have le := pts_le pts
    have sm64 : ∀ x : Int, 1 ≤ x → x ≤ 10000 → x.natAbs < 2 ^ 64 := fun x h0 h1 => Nat.lt_of_le_of_lt (show x.natAbs ≤ 10000 by omega) (by decide)
    have cd : ∀ x y : Int, 1 ≤ y → y ≤ 10000 → CDivX x y := fun x y h0 h1 => ⟨by omega, Nat.lt_trans (PySem.Flt.log2_lt_of (by decide) (sm64 y h0 h1)) (by decide)⟩
    refine ⟨.ref a, rfl, .ref b, rfl, a, b, f1, t1, f2, t2, D1, D2, rfl, hA0, hB0, hl, ?_⟩
    refine ⟨.ref a, rfl, a, _, 2, .int D1, rfl, rfl, h1.t, atI_nat (j := 2) rfl, .ref b, rfl, b, _, 2, .int D2, rfl, rfl, k1.t, atI_nat (j := 2) rfl, D1, D2, rfl, sm64 _ d10 d11, sm64 _ d20 d21, ?_⟩
    generalize ((Nat.lcm D1.natAbs D2.natAbs : Nat) : Int) = L at eL v1 v2 pts le ⊢
    refine ⟨.int L, rfl, .ref a, rfl, a, _, 2, .int D1, rfl, rfl, h1.t, atI_nat (j := 2) rfl, L, D1, rfl, rfl, cd _ _ d10 d11, .int L, rfl, .ref b, rfl, b, _, 2, .int D2, rfl, rfl, k1.t, atI_nat (j := 2) rfl, L, D2, rfl, rfl, cd _ _ d20 d21, ?_⟩
    dsimp only
    rw [v1, v2]
    have zn : ∀ x : Int, 0 < x → x ≤ 10000 → SmZ 14 x := fun x h0 h1 => Nat.lt_of_le_of_lt (show x.natAbs ≤ 10000 by omega) (by decide)
    have zn1 := zn n1 p1 (by omega)
    have zn2 := zn n2 p2 (by omega)
    have mf1 : ∀ x ∈ f1.map (n1 * ·), SmZ 114 x := map_sm zn1 z1.fz
    have mf2 : ∀ x ∈ f2.map (n2 * ·), SmZ 114 x := map_sm zn2 z2.fz
    have mt1 : ∀ x ∈ t1.map (n1 * ·), SmZ 114 x := map_sm zn1 z1.tz
    have mt2 : ∀ x ∈ t2.map (n2 * ·), SmZ 114 x := map_sm zn2 z2.tz
    have fl1 := z1.fl
    have fl2 := z2.fl
    have tl1 := z1.tl
    have tl2 := z2.tl
    refine ⟨_, _, rfl, .ref a, rfl, a, _, 0, .ref pf1, rfl, rfl, h1.t, atI_nat (j := 0) rfl, .int n1, rfl, pf1, n1, f1, rfl, h2, smz_mono zn1 (by decide), fun r1 H1 s1 g1 => ?_⟩
    refine ⟨.ref b, rfl, b, _, 0, .ref pf2, rfl, rfl, (k1.same s1).t, atI_nat (j := 0) rfl, .int n2, rfl, pf2, n2, f2, rfl, k2.same s1, smz_mono zn2 (by decide), fun r2 H2 s2 g2 => ?_⟩
    refine ⟨r1, r2, f1.map (n1 * ·), f2.map (n2 * ·), rfl, ⟨g1.same s2, by rw [List.length_map]; omega, fun x hx => smz_mono (mf1 x hx) (by decide)⟩, ⟨g2, by rw [List.length_map]; omega, fun x hx => smz_mono (mf2 x hx) (by decide)⟩, by rw [List.length_map, List.length_map]; exact hl, fun r3 H3 s3 g3 => ?_⟩
    have s03 := (s1.trans s2).trans s3
    refine ⟨.ref r3, rfl, ?_⟩
    refine ⟨.ref a, rfl, a, _, 1, .ref pt1, rfl, rfl, (h1.same s03).t, atI_nat (j := 1) rfl, .int n1, rfl, pt1, n1, t1, rfl, h3.same s03, smz_mono zn1 (by decide), fun r4 H4 s4 g4 => ?_⟩
    have s04 := s03.trans s4
    refine ⟨.ref b, rfl, b, _, 1, .ref pt2, rfl, rfl, (k1.same s04).t, atI_nat (j := 1) rfl, .int n2, rfl, pt2, n2, t2, rfl, k3.same s04, smz_mono zn2 (by decide), fun r5 H5 s5 g5 => ?_⟩
    refine ⟨r4, r5, t1.map (n1 * ·), t2.map (n2 * ·), rfl, ⟨g4.same s5, by rw [List.length_map]; omega, fun x hx => smz_mono (mt1 x hx) (by decide)⟩, ⟨g5, by rw [List.length_map]; omega, fun x hx => smz_mono (mt2 x hx) (by decide)⟩, by rw [List.length_map]; exact tl1, by rw [List.length_map]; exact tl2, fun r6 H6 s6 g6 => ?_⟩
    refine ⟨.int L, rfl, by show 3 ≤ sizeLine; decide, fun p np => ?_⟩
    have s7 := same_new (o := .tup [.ref r3, .ref r6, .int L]) np
    have s36 := (s4.trans s5).trans (s6.trans s7)
    refine q g n1 n2 L p _ pts (s03.trans s36) ⟨r3, r6, upd_same, ⟨(show Tp H3 r3 _ from g3).same s36, ?_, fun x hx => smz_mono (zip_sm mf1 mf2 x hx) (by decide)⟩, ⟨g6.same s7, ?_, fun x hx => smz_mono (tsum_sm mt1 mt2 x hx) (by decide)⟩⟩
    · rw [List.length_zipWith, List.length_map, List.length_map]
      omega
    · rw [tsum_len, List.length_map, List.length_map]
      omega
theorem ok_atimes {f : Addr} {fd : FuncData} (F : Fun K "amount_times" "amount_times" s_atimes f fd) (C_form_times : Cal P w K mg base 1 "form_times" ["form", "n"] spFtimes) : FnOk P w K mg base CX0 2 f fd ["amount", "n"] spAtimes := by
  have sc := sc_atimes
  refine F.ok sc (fun vs H Q E h => ?_) (fun cdv A outer s H vs Q E hr h => ?_)
  · obtain ⟨a, n, f, t, D, rfl, _⟩ := h
    rfl
  · obtain ⟨a, n, f, t, D, rfl, ⟨pf, pt, h1, h2, h3⟩, z, hn, q⟩ := h
    refine ⟨_, (pss_cons (ps_asg (pv 0) (pg_tup (n := 3) (by rfl) (pgs_cons (pg_name (i := 2) sc.nd rfl (Or.inl rfl)) (pgs_cons (pg_name (i := 3) sc.nd rfl (Or.inl rfl)) (pgs_cons (pg_name (i := 4) sc.nd rfl (Or.inl rfl)) pgs_nil)))))
    (pss_one (ps_ret (pe_tup (pa_cons (call_ C_form_times (hr.mono (by decide)) (by rfl) (pa_cons (pv 2) (pa_cons (pv 1) pa_nil))) (pa_cons (call_ C_form_times (hr.mono (by decide)) (by rfl) (pa_cons (pv 3) (pa_cons (pv 1) pa_nil))) (pa_cons (pv 4) pa_nil))))))), ?_⟩
    refine ⟨.ref a, rfl, a, _, rfl, h1.t, rfl, .ref pf, [.ref pt, .int D], rfl, .ref pt, [.int D], rfl, .int D, [], rfl, rfl, ?_⟩
    have fl := z.fl
    have tl := z.tl
    refine ⟨.ref pf, rfl, .int n, rfl, pf, n, f, rfl, h2, smz_mono hn (by decide), fun r1 H1 s1 g1 => ?_⟩
    refine ⟨.ref pt, rfl, .int n, rfl, pt, n, t, rfl, h3.same s1, smz_mono hn (by decide), fun r2 H2 s2 g2 => ?_⟩
    refine ⟨.int D, rfl, by show 3 ≤ sizeLine; decide, fun p np => ?_⟩
    have s3 := same_new (o := .tup [.ref r1, .ref r2, .int D]) np
    exact q p _ ((s1.trans s2).trans s3) ⟨r1, r2, upd_same, ⟨((show Tp H1 r1 _ from g1).same s2).same s3, by rw [List.length_map]; omega, fun x hx => smz_mono (map_sm hn z.fz x hx) (by decide)⟩, ⟨(show Tp H2 r2 _ from g2).same s3, by rw [List.length_map]; omega, fun x hx => smz_mono (map_sm hn z.tz x hx) (by decide)⟩⟩
theorem ok_cmp {f : Addr} {fd : FuncData} (F : Fun K "compare_at" "compare_at" s_cmp f fd) (C__need_fit : Cal P w K mg base 1 "_need_fit" ["one", "other"] spNfit) (C_amount_sum : Cal P w K mg base 3 "amount_sum" ["one", "other"] spAsum) (C_amount_times : Cal P w K mg base 2 "amount_times" ["amount", "n"] spAtimes) (C_form_value : Cal P w K mg base 2 "form_value" ["form", "t"] spFval) (C_sign_of : Cal P w K mg base 1 "sign_of" ["number"] spSign) (C__sign_of_ts : Cal P w K mg base 2 "_sign_of_ts" ["ts"] spSts) : FnOk P w K mg base CX0 4 f fd ["one", "other", "p"] spCmp := by
  have sc := sc_cmp
  refine F.ok sc (fun vs H Q E h => ?_) (fun cdv A outer s H vs Q E hr h => ?_)
  · obtain ⟨a, b, c, f1, t1, f2, t2, D1, D2, ps, rfl, _⟩ := h
    rfl
  · obtain ⟨a, b, c, f1, t1, f2, t2, D1, D2, ps, rfl, hA, hB, z1, z2, hl, hp, lp, q⟩ := h
    refine ⟨_, (pss_cons (ps_expr (call_ C__need_fit (hr.mono (by decide)) (by rfl) (pa_cons (pv 0) (pa_cons (pv 1) pa_nil))))
    (pss_cons (ps_asg (call_ C_amount_sum (hr.mono (by decide)) (by rfl) (pa_cons (pv 0) (pa_cons (call_ C_amount_times (hr.mono (by decide)) (by rfl) (pa_cons (pv 1) (pa_cons (pe_un un_neg pe_int) pa_nil))) pa_nil))) (pg_tup (n := 3) (by rfl) (pgs_cons (pg_name (i := 4) sc.nd rfl (Or.inl rfl)) (pgs_cons (pg_name (i := 5) sc.nd rfl (Or.inl rfl)) (pgs_cons (pg_name (i := 6) sc.nd rfl (Or.inl rfl)) pgs_nil)))))
    (pss_cons (ps_set (i := 3) sc.nd rfl (Or.inl rfl) (call_ C_sign_of (hr.mono (by decide)) (by rfl) (pa_cons (call_ C_form_value (hr.mono (by decide)) (by rfl) (pa_cons (pv 4) (pa_cons (pv 2) pa_nil))) pa_nil)))
    (pss_one (ps_ret (pe_ifExp (pt_cmpR op_ne (pv 3) pe_int (nomark _)) (pv 3) (call_ C__sign_of_ts (hr.mono (by decide)) (by rfl) (pa_cons (pv 5) pa_nil)))))))), ?_⟩
    refine ⟨.ref a, rfl, .ref b, rfl, a, b, f1, t1, f2, t2, D1, D2, rfl, hA, hB, hl, ?_⟩
    refine ⟨.ref a, rfl, .ref b, rfl, 1, rfl, b, -1, f2, t2, D2, rfl, hB, z2, by decide, fun r1 H1 s1 g1 => ?_⟩
    have z2' : Sml 100 (f2.map (-1 * ·)) (t2.map (-1 * ·)) D2 := ⟨by simpa using z2.ne, by rw [List.length_map]; exact z2.fl, by rw [List.length_map]; exact z2.tl, neg_sm z2.fz, neg_sm z2.tz, z2.d0, z2.d1⟩
    refine ⟨a, r1, f1, t1, _, _, D1, D2, rfl, hA.same s1, g1, z1, z2', by rw [List.length_map]; exact hl, fun g n1 n2 L r2 H2 pts s2 g2 => ?_⟩
    obtain ⟨pf, pt, h1, h2, h3⟩ := g2
    refine ⟨r2, _, rfl, h1.t, rfl, .ref pf, [.ref pt, .int L], rfl, .ref pt, [.int L], rfl, .int L, [], rfl, rfl, ?_⟩
    have hl2 : (f1.map (n1 * ·)).length = ((f2.map (-1 * ·)).map (n2 * ·)).length := by
      rw [List.length_map, List.length_map, List.length_map]
      exact hl
    have ev := fv_add hl2 ps
    rw [fv_map, fv_map, fv_map] at ev
    have lz : (List.zipWith (· + ·) (f1.map (n1 * ·)) ((f2.map (-1 * ·)).map (n2 * ·))).length = ps.length + 1 := by
      rw [List.length_zipWith, List.length_map, List.length_map, List.length_map]
      omega
    generalize List.zipWith (· + ·) (f1.map (n1 * ·)) ((f2.map (-1 * ·)).map (n2 * ·)) = ff at h2 ev lz
    obtain ⟨c0, xs, rfl⟩ : ∃ c0 xs, ff = c0 :: xs := by
      cases ff with
      | nil => cases lz
      | cons c xs => exact ⟨c, xs, rfl⟩
    refine ⟨.ref pf, rfl, .ref c, rfl, pf, c, c0, xs, ps, rfl, h2, (hp.same s1).same s2, Nat.succ.inj lz, fun H3 s3 => ⟨_, rfl, ?_⟩⟩
    have told := cmp_told (v1 := fv f1 ps) (v2 := fv f2 ps) (t1 := t1) (t2 := t2) pts.g0 pts.e1 pts.e2
    have ev2 : c0 + dot xs ps = n1 * fv f1 ps + n2 * (-1 * fv f2 ps) := ev
    rw [ev2]
    have q := q H3 ((s1.trans s2).trans s3)
    rw [told] at q
    generalize sg (n1 * fv f1 ps + n2 * (-1 * fv f2 ps)) = x at q ⊢
    refine ⟨.int x, rfl, rfl, _, rfl, ite2 (fun h => ?_) (fun h => ?_)⟩
    · have hx : x ≠ 0 := fun e => by
        rw [e] at h
        exact absurd h (by decide)
      rw [if_pos hx] at q
      exact ⟨.int x, rfl, q⟩
    · have hx : ¬ x ≠ 0 := fun e => h (by
        rw [decide_eq_false (fun e' => e (V.int.inj e'))]
        rfl)
      rw [if_neg hx] at q
      exact ⟨.ref pt, rfl, pt, _, rfl, h3.same s3, q⟩
theorem ok_asumX {f C : Addr} {fd : FuncData} (F : Fun K "amount_sum" "amount_sum" s_asum f fd) (C__need_fit : CalX P w K mg base 1 "_need_fit" ["one", "other"] (spNfitX C)) : FnOk P w K mg base (L2.CX P w) 2 f fd ["one", "other"] (spSumX C) := by
  have sc := sc_asum
  obtain ⟨fN, fdN, FN, gN, kN, bN⟩ := C__need_fit
  refine F.okX sc (fun vs H Q E h => ?_) (fun cdv A outer s H vs Q E hr h => ?_)
  · obtain ⟨a, b, f1, t1, f2, t2, D1, D2, rfl, _⟩ := h
    rfl
  · obtain ⟨a, b, f1, t1, f2, t2, D1, D2, rfl, hA, hB, hl, q⟩ := h
    refine ⟨_, (pss_cons (ps_expr (pe_call FN (hr.mono (by decide)) (by rfl) gN kN bN .nil (passes_call (takes_of rfl rfl rfl rfl) (fun _ _ _ _ z => z)) (pa_cons (pv 0) (pa_cons (pv 1) pa_nil))))
    (pss_cons ps_never (pss_cons ps_never (pss_cons ps_never (pss_one ps_never))))), ?_⟩
    exact ⟨.ref a, rfl, .ref b, rfl, a, b, f1, t1, f2, t2, D1, D2, rfl, hA, hB, hl, q⟩
theorem ok_cmpX {f C : Addr} {fd : FuncData} (F : Fun K "compare_at" "compare_at" s_cmp f fd) (C__need_fit : CalX P w K mg base 1 "_need_fit" ["one", "other"] (spNfitX C)) : FnOk P w K mg base (L2.CX P w) 2 f fd ["one", "other", "p"] (spCmpX C) := by
  have sc := sc_cmp
  obtain ⟨fN, fdN, FN, gN, kN, bN⟩ := C__need_fit
  refine F.okX sc (fun vs H Q E h => ?_) (fun cdv A outer s H vs Q E hr h => ?_)
  · obtain ⟨a, b, c, f1, t1, f2, t2, D1, D2, rfl, _⟩ := h
    rfl
  · obtain ⟨a, b, c, f1, t1, f2, t2, D1, D2, rfl, hA, hB, hl, q⟩ := h
    refine ⟨_, (pss_cons (ps_expr (pe_call FN (hr.mono (by decide)) (by rfl) gN kN bN .nil (passes_call (takes_of rfl rfl rfl rfl) (fun _ _ _ _ z => z)) (pa_cons (pv 0) (pa_cons (pv 1) pa_nil))))
    (pss_cons ps_never (pss_cons ps_never (pss_one ps_never)))), ?_⟩
    exact ⟨.ref a, rfl, .ref b, rfl, a, b, f1, t1, f2, t2, D1, D2, rfl, hA, hB, hl, q⟩
end
end K17
namespace K17
open PySem PySem.Spec PyProof.Rows L2 Vk
abbrev s_signed : Stmt := topS 29
theorem sc_signed : FnScope ["m", "most", "number"] ["m", "most"] (defScope s_signed) := ⟨rfl, rfl, rfl, by decide +kernel, rfl, by decide +kernel, by decide +kernel⟩
abbrev s_lfval : Stmt := topS 31
theorem sc_lfval : FnScope ["form", "p", "i"] ["form", "p"] (defScope s_lfval) := ⟨rfl, rfl, rfl, by decide +kernel, rfl, by decide +kernel, by decide +kernel⟩
abbrev s_worth : Stmt := topS 32
theorem sc_worth : FnScope ["amount", "p", "count", "k_so", "total", "unit"] ["amount", "p", "count"] (defScope s_worth) := ⟨rfl, rfl, rfl, by decide +kernel, rfl, by decide +kernel, by decide +kernel⟩
abbrev s_lcmp : Stmt := topS 35
theorem sc_lcmp : FnScope ["one", "other", "p", "count", "left", "right"] ["one", "other", "p"] (defScope s_lcmp) := ⟨rfl, rfl, rfl, by decide +kernel, rfl, by decide +kernel, by decide +kernel⟩
abbrev s_rounds : Stmt := topS 36
theorem sc_rounds : FnScope ["amount", "p", "form", "ts", "whole", "worth", "unit", "j", "i", "low_so", "near", "far_so", "far"] ["amount", "p"] (defScope s_rounds) := ⟨rfl, rfl, rfl, by decide +kernel, rfl, by decide +kernel, by decide +kernel⟩
def spSignedW : Sp := fun vs H Q _ => ∃ (m c : Addr) (q : Nat) (b : Int), vs = [.ref m, .int b] ∧ MOk H m c q ∧ q ≤ 50000 ∧ 0 ≤ b ∧ b ≤ 10000000000000 ∧ ∀ H' v, SameBut m H H' → MOk H' m c (q + 2) → -b ≤ v → v ≤ b → Q (.int v) H'
/-- the unit of the small numbers -/
def BB : Int := 10000000000000000000000000000000000000000
theorem BB_pos : 0 < BB := by decide
def spWorth : Sp := fun vs H Q _ => ∃ (a c : Addr) (f ts : List Int) (D : Int) (ps : List Int) (n : Nat), vs = [.ref a, .ref c, .int n] ∧ Am H a f ts D ∧ Sml 100 f ts D ∧ Row H c ps ∧ f.length = ps.length + 1 ∧ (∀ x ∈ ps, SmZ 60 x) ∧ ts.length ≤ n ∧ n ≤ 20 ∧
  ∀ r H', Same H H' → Tp H' r [.int (sumW BB (fv f ps :: pad ts n)), .int (BB ^ n)] → Q (.ref r) H'
def spLcmp : Sp := fun vs H Q _ => ∃ (a b c : Addr) (f1 t1 f2 t2 : List Int) (D1 D2 : Int) (ps : List Int), vs = [.ref a, .ref b, .ref c] ∧ Am H a f1 t1 D1 ∧ Am H b f2 t2 D2 ∧ Sml 100 f1 t1 D1 ∧ Sml 100 f2 t2 D2 ∧ Row H c ps ∧ f1.length = ps.length + 1 ∧ f2.length = ps.length + 1 ∧ (∀ x ∈ ps, SmZ 60 x) ∧
  ∀ H', Same H H' → Q (.int (cmpI (fv f1 ps) t1 D1 (fv f2 ps) t2 D2)) H'
def spRounds : Sp := fun vs H Q _ => ∃ (a c : Addr) (f ts : List Int) (D : Int) (ps : List Int), vs = [.ref a, .ref c] ∧ Am H a f ts D ∧ Sml 100 f ts D ∧ Row H c ps ∧ f.length = ps.length + 1 ∧ (∀ x ∈ ps, SmZ 60 x) ∧ ∀ H', Same H H' → Q (.bl true) H'
theorem dot_sm {k j : Nat} : ∀ {xs ys : List Int}, (∀ x ∈ xs, SmZ k x) → (∀ x ∈ ys, SmZ j x) → xs.length ≤ 20 → SmZ (k + j + xs.length) (dot xs ys)
  | [], ys, _, _, _ => Nat.two_pow_pos _
  | x :: xs, [], _, _, _ => Nat.two_pow_pos _
  | x :: xs, y :: ys, h1, h2, hl => by
    rw [List.length_cons] at hl
    have ih := dot_sm (xs := xs) (ys := ys) (fun z hz => h1 z (List.mem_cons_of_mem _ hz)) (fun z hz => h2 z (List.mem_cons_of_mem _ hz)) (by omega)
    have h3 := smz_mul (h1 x (List.mem_cons_self ..)) (h2 y (List.mem_cons_self ..))
    have e : dot (x :: xs) (y :: ys) = x * y + dot xs ys := by
      unfold dot
      rw [List.zipWith_cons_cons, List.sum_cons]
    rw [e, List.length_cons]
    exact smz_add (n := k + j + xs.length) (smz_mono h3 (by omega)) ih
theorem fv_sm {f ps : List Int} (h1 : ∀ x ∈ f, SmZ 100 x) (h2 : ∀ x ∈ ps, SmZ 60 x) (hl : f.length ≤ 10) : SmZ 200 (fv f ps) := by
  cases f with
  | nil => exact Nat.two_pow_pos _
  | cons c xs =>
    rw [List.length_cons] at hl
    have h3 := dot_sm (xs := xs) (ys := ps) (fun z hz => h1 z (List.mem_cons_of_mem _ hz)) h2 (by omega)
    exact smz_mono (smz_add (n := 100 + 60 + xs.length) (smz_mono (h1 c (List.mem_cons_self ..)) (by omega)) h3) (by omega)
theorem sm_BB {x : Int} (h : SmZ 100 x) : -BB < x ∧ x < BB := by
  unfold SmZ at h
  unfold BB
  have : (2 : Nat) ^ 100 < 10000000000000000000000000000000000000000 := by decide
  omega
theorem BB_log (n : Nat) (hn : n ≤ 20) : SmZ 2700 (BB ^ n) := by
  unfold SmZ
  rw [Int.natAbs_pow]
  have h : BB.natAbs ^ n ≤ BB.natAbs ^ 20 := Nat.pow_le_pow_right (by decide) hn
  exact Nat.lt_of_le_of_lt h (by decide)
theorem logS {k : Nat} {x : Int} (hk : 0 < k) (h : SmZ k x) : x.natAbs.log2 < k := PySem.Flt.log2_lt_of hk h
theorem mulW {k j : Nat} {x y : Int} (hk : 0 < k) (hj : 0 < j) (h1 : SmZ k x) (h2 : SmZ j y) (h : k + j ≤ 900000) : CMulW x y := by
  have a := logS hk h1
  have b := logS hj h2
  show _ + _ < 1000000
  omega
theorem worth_sm {f ts ps : List Int} {D : Int} {n : Nat} (z : Sml 100 f ts D) (hp : ∀ x ∈ ps, SmZ 60 x) (hn : n ≤ 20) (ht : ts.length ≤ n) : SmZ 3000 (sumW BB (fv f ps :: pad ts n)) := by
  have h1 := fv_sm z.fz hp z.fl
  have h2 := sumW_abs BB_pos (pad ts n) fun x hx => by
    rcases pad_mem hx with h | h
    · exact sm_BB (z.tz x h)
    · subst h
      decide
  have h3 := smz_mul h1 (BB_log n hn)
  have pl := pad_len ht
  rw [pl] at h2
  have h4 := BB_log n hn
  have e : sumW BB (fv f ps :: pad ts n) = fv f ps * BB ^ n + sumW BB (pad ts n) := by
    show fv f ps * BB ^ (pad ts n).length + _ = _
    rw [pl]
  rw [e]
  have h5 : SmZ 2900 (sumW BB (pad ts n)) := by
    have p : 0 < BB ^ n := Int.pow_pos BB_pos
    refine smz_mono (n := 2700) ?_ (by decide)
    unfold SmZ at h4 ⊢
    omega
  exact smz_mono (smz_add (n := 2900) h3 h5) (by decide)
section
variable {P : Program} {w : World} {K : PySem.W.Frag} {mg : Str → Option Value} {base : Heap}
theorem ok_signed {f : Addr} {fd : FuncData} (F : Fun K "_law_signed" "_law_signed" s_signed f fd) (C__law_draw : Cal P w K mg base 1 "_law_draw" ["m", "bound"] spDraw) : FnOk P w K mg base CX0 2 f fd ["m", "most"] spSignedW := by
  have sc := sc_signed
  refine F.ok sc (fun vs H Q E h => ?_) (fun cdv A outer s H vs Q E hr h => ?_)
  · obtain ⟨m, c, q, b, rfl, _⟩ := h
    rfl
  · obtain ⟨m, c, q, b, rfl, hM, hq, b0, b1, k⟩ := h
    refine ⟨_, (pss_cons (ps_set (i := 2) sc.nd rfl (Or.inl rfl) (call_ C__law_draw (hr.mono (by decide)) (by rfl) (pa_cons (pv 0) (pa_cons (pe_op op_add (pv 1) pe_int) pa_nil))))
    (pss_one (ps_ret (pe_ifExp (pt_cmpR op_eq (call_ C__law_draw (hr.mono (by decide)) (by rfl) (pa_cons (pv 0) (pa_cons pe_int pa_nil))) pe_int (nomark _)) (pv 2) (pe_un un_neg (pv 2)))))), ?_⟩
    have lim : ∀ z : Int, 0 ≤ z → z ≤ 100000000000000 → z.natAbs < 2 ^ 200 := fun z h0 h1 => Nat.lt_of_le_of_lt (show z.natAbs ≤ 100000000000000 by omega) (by decide)
    refine ⟨.ref m, rfl, .int b, rfl, b, 1, rfl, rfl, m, c, q, b + 1, rfl, hM, by omega, by omega, lim _ (by omega) (by omega), fun H1 v s1 M1 v0 v1 => ?_⟩
    refine ⟨.ref m, rfl, m, c, q + 1, 2, rfl, M1, by omega, by decide, by decide, fun H2 u s2 M2 u0 u1 => ?_⟩
    have s12 := s1.trans s2
    have M3 := M2.mono (show q + 1 + 1 ≤ q + 2 by omega)
    refine ⟨rfl, _, rfl, ite2 (fun _ => ?_) (fun _ => ?_)⟩
    · exact ⟨_, rfl, k H2 _ s12 M3 (by omega) (by omega)⟩
    · exact ⟨_, rfl, v, rfl, k H2 _ s12 M3 (by omega) (by omega)⟩
theorem ok_lfval {f : Addr} {fd : FuncData} (F : Fun K "_law_form_value" "_law_form_value" s_lfval f fd) (m_sum : mg "sum" = none) (m_len : mg "len" = none) (m_range : mg "range" = none) : FnOk P w K mg base CX0 1 f fd ["form", "p"] spFval := by
  have sc := sc_lfval
  refine F.ok sc (fun vs H Q E h => ?_) (fun cdv A outer s H vs Q E hr h => ?_)
  · obtain ⟨a, b, c, xs, ys, rfl, _⟩ := h
    rfl
  · obtain ⟨a, b, c, xs, ys, rfl, ha, hb, hl, q⟩ := h
    refine ⟨_, (pss_one (ps_ret (pe_op op_add (pe_ix ix_tup (pv 0) pe_int (fun _ _ => rfl)) (pe_callB (cr_sum rfl) (by rfl) m_sum (by decide +kernel) (pa_cons (pe_lc (own := [("i", 2)]) (g := gName 2) (by rfl) sc.nd (pi_range1 rfl m_range (pa_cons (pe_callB call_len_seq (by rfl) m_len (by decide +kernel) (pa_cons (pv 1) pa_nil)) pa_nil)) (blkOk_by (own := [("i", 2)]) (N := ["form", "p", "i"]) (sc := defScope s_lfval) (by decide +kernel)) (fun _ _ _ _ _ => pg_name (i := 2) sc.nd rfl (Or.inl rfl)) (fun _ _ _ _ _ => pts_nil) (fun _ _ _ _ _ => (pe_op op_mulW (pe_ix (ix_tupK (K := K) rfl) (pv 0) (pe_op op_add pe_int (pv 2)) (fun _ _ => rfl)) (pe_ix (ix_tupK (K := K) rfl) (pv 1) (pv 2) (fun _ _ => rfl))))) pa_nil))))), ?_⟩
    refine ⟨.ref a, rfl, a, _, 0, .int c, rfl, rfl, ha.1.t, atI_nat (j := 0) rfl, .ref b, rfl, b, _, rfl, .inr hb.1.t, ((ys.map V.int).length : Int), rfl, by omega, ?_, fun D nD => ?_⟩
    · rw [List.length_map]
      have := hb.2.1
      omega
    have e0 : ((ys.map V.int).length : Int).toNat = ys.length := by
      rw [List.length_map]
      omega
    rw [e0]
    refine lc_to (walk_range (lo := 0) (n := ys.length)) ((List.zipWith (· * ·) xs ys).map V.int) (by rw [List.length_map, List.length_zipWith]; omega) (small hb.2.1) nD (fun H' s => True.intro) ?_ ?_
    · rintro i x y H0 H1 Qy hy hi s0 ⟨rfl, rfl⟩ hq
      obtain ⟨z, hz, rfl⟩ := map_get hy
      obtain ⟨p, r, hp, hr', rfl⟩ := zipW_get hz
      refine ⟨rfl, .ref a, rfl, .int (0 + i), rfl, 1, 0 + i, rfl, rfl, a, _, 1 + (0 + i), .int p, rfl, rfl, (ha.1.same s0).t, atI_at (i := i + 1) (by omega) (get_map (xs := c :: xs) hp), .ref b, rfl, .int (0 + i), rfl, b, _, 0 + i, .int r, rfl, rfl, (hb.1.same s0).t, atI_at (i := i) (by omega) (get_map hr'), p, r, rfl, rfl, ?_, hq _ (Same.refl _)⟩
      exact Nat.lt_trans (wide (ha.tail.2 _ (List.mem_of_getElem? hp)) (hb.2.2 _ (List.mem_of_getElem? hr'))) (by decide)
    · intro H' s d
      exact ⟨D, List.zipWith (· * ·) xs ys, rfl, SqL.of d, c, dot xs ys, rfl, rfl, q H' s⟩
theorem ok_worth {f : Addr} {fd : FuncData} (F : Fun K "_law_worth" "_law_worth" s_worth f fd) (C__law_form_value : Cal P w K mg base 1 "_law_form_value" ["form", "p"] spFval) (m_len : mg "len" = none) (m_range : mg "range" = none) : FnOk P w K mg base CX0 2 f fd ["amount", "p", "count"] spWorth := by
  have sc := sc_worth
  refine F.ok sc (fun vs H Q E h => ?_) (fun cdv A outer s H vs Q E hr h => ?_)
  · obtain ⟨a, c, f, ts, D, ps, n, rfl, _⟩ := h
    rfl
  · obtain ⟨a, c, f, ts, D, ps, n, rfl, ⟨pf, pt, h1, h2, h3⟩, z, hp, lf, zp, ht, hn, q⟩ := h
    refine ⟨_, (pss_cons (ps_asg (pe_tup (pa_cons pe_int (pa_cons pe_int pa_nil))) (pg_tup (n := 2) (by rfl) (pgs_cons (pg_name (i := 4) sc.nd rfl (Or.inl rfl)) (pgs_cons (pg_name (i := 5) sc.nd rfl (Or.inl rfl)) pgs_nil))))
    (pss_cons (ps_for PassesOwn.never rfl (pi_range3 rfl m_range (pa_cons (pv 2) (pa_cons pe_int (pa_cons (pe_un un_neg pe_int) pa_nil)))) (pg_name (i := 3) sc.nd rfl (Or.inl rfl))
      (pss_cons (ps_set (i := 4) sc.nd rfl (Or.inl rfl) (pe_op op_add (pv 4) (pe_op op_mulW (pe_ifExp (pt_cmpR op_le (pv 3) (pe_callB call_len_seq (by rfl) m_len (by decide +kernel) (pa_cons (pe_ix ix_tup (pv 0) pe_int (fun _ _ => rfl)) pa_nil)) (nomark _)) (pe_ix ix_tup (pe_ix ix_tup (pv 0) pe_int (fun _ _ => rfl)) (pe_op op_sub (pv 3) pe_int) (fun _ _ => rfl)) pe_int) (pv 5))))
    (pss_one (ps_set (i := 5) sc.nd rfl (Or.inl rfl) (pe_op op_mulW (pv 5) (pe_op op_pow pe_int pe_int))))))
    (pss_one (ps_ret (pe_tup (pa_cons (pe_op op_add (pv 4) (pe_op op_mulW (call_ C__law_form_value (hr.mono (by decide)) (by rfl) (pa_cons (pe_ix ix_tup (pv 0) pe_int (fun _ _ => rfl)) (pa_cons (pv 1) pa_nil))) (pv 5))) (pa_cons (pv 5) pa_nil))))))), ?_⟩
    have pl : (pad ts n).length = n := pad_len ht
    have tl := z.tl
    refine ⟨by show 2 ≤ sizeLine; decide, fun p0 np0 => ⟨p0, [.int 0, .int 1], rfl, SqT.of upd_same, rfl, .int 0, [.int 1], rfl, .int 1, [], rfl, rfl, ?_⟩⟩
    have s0 : Same H (upd H p0 (.tup [.int 0, .int 1])) := same_new np0
    generalize upd H p0 (.tup [.int 0, .int 1]) = H0 at s0 ⊢
    have h1 := h1.same s0
    have h2 := h2.same s0
    have h3 := h3.same s0
    have hp := hp.same s0
    refine ⟨.int n, rfl, 1, rfl, n, 0, -1, ((n : Int) - 0).toNat, rfl, RgC.neg (by omega) (by omega) (by omega) (by omega), ?_⟩
    have e0 : ((n : Int) - 0).toNat = n := by omega
    rw [e0]
    refine for_rangeC (lo := n) (c := -1) (n := n) (fun i σ H' => (∃ y3, σ = [some (.ref a), some (.ref c), some (.int n), y3, some (.int (sumW BB ((pad ts n).drop (n - i)))), some (.int (BB ^ i))]) ∧ H' = H0) ⟨⟨none, ?_⟩, rfl⟩ ?_ ?_
    · rw [List.drop_of_length_le (by omega), Int.pow_zero]
      rfl
    · rintro i σ H' hi ⟨⟨y3, rfl⟩, rfl⟩
      have hB := BB_log i (by omega)
      obtain ⟨k, hk⟩ : ∃ k, n - i = k + 1 := ⟨n - i - 1, by omega⟩
      have hkl : k < (pad ts n).length := by omega
      have ed : (pad ts n).drop k = (pad ts n)[k] :: (pad ts n).drop (n - i) := by
        rw [List.drop_eq_getElem_cons hkl, hk]
      have ek : (n : Int) + (i : Nat) * (-1) = ((k + 1 : Nat) : Int) := by omega
      rw [ek]
      have zx : SmZ 100 (pad ts n)[k] := by
        rcases pad_mem (List.getElem_mem hkl) with h | h
        · exact z.tz _ h
        · rw [h]
          decide
      have el : ((pad ts n).drop (n - i)).length = i := by
        rw [List.length_drop, pl]
        omega
      refine ⟨_, rfl, .int ((k + 1 : Nat) : Int), rfl, .ref a, rfl, a, _, 1, .ref pt, rfl, rfl, h1.t, atI_nat (j := 1) rfl, pt, _, rfl, .inr h3.1.t, _, _, rfl, rfl, _, rfl, ?_⟩
      refine tif_both (fun v => v = .int (pad ts n)[k]) ?_ ?_ ?_
      · rintro _ rfl
        refine ⟨.int (BB ^ i), rfl, (pad ts n)[k], BB ^ i, rfl, rfl, mulW (by decide) (by decide) zx hB (by decide), _, _, rfl, rfl, ?_⟩
        have p40 : (10 : Int) ^ (40 : Int).toNat = BB := by decide
        refine ⟨.int (BB ^ i), rfl, 10, 40, rfl, rfl, ⟨by decide, by decide, by decide⟩, BB ^ i, _, rfl, rfl, ?_, ⟨some (.int ((k + 1 : Nat) : Int)), ?_⟩, rfl⟩
        · rw [p40]
          exact mulW (by decide) (by decide) hB (show SmZ 140 BB by decide) (by decide)
        · dsimp only
          rw [p40, ← Int.pow_succ, show n - (i + 1) = k by omega, ed]
          show _ = [_, _, _, _, some (V.int (_ * BB ^ ((pad ts n).drop (n - i)).length + _)), _]
          rw [el, Int.add_comm]
          rfl
      · intro hc hQ
        have hc := of_decide_eq_true hc
        rw [List.length_map] at hc
        have hkt : k < ts.length := by omega
        have eg : (pad ts n)[k] = ts[k] := by
          have h : (pad ts n)[k]? = ts[k]? := by
            unfold pad
            rw [List.getElem?_append_left hkt]
          rw [List.getElem?_eq_getElem hkl, List.getElem?_eq_getElem hkt] at h
          exact Option.some.inj h
        refine ⟨.ref a, rfl, a, _, 1, .ref pt, rfl, rfl, h1.t, atI_nat (j := 1) rfl, .int ((k + 1 : Nat) : Int), rfl, ((k + 1 : Nat) : Int), 1, rfl, rfl, pt, _, ((k + 1 : Nat) : Int) - 1, .int ts[k], rfl, rfl, h3.1.t, atI_at (i := k) (by omega) (get_map (List.getElem?_eq_getElem hkt)), hQ _ (by rw [eg])⟩
      · intro hc hQ
        have hc := of_decide_eq_false hc
        rw [List.length_map] at hc
        have hkt : ts.length ≤ k := by omega
        have eg : (pad ts n)[k] = 0 := by
          have h : (pad ts n)[k]? = some 0 := by
            unfold pad
            rw [List.getElem?_append_right hkt, List.getElem?_replicate, if_pos (by omega)]
          rw [List.getElem?_eq_getElem hkl] at h
          exact Option.some.inj h
        exact hQ _ (by rw [eg])
    · rintro σ H' ⟨⟨y3, rfl⟩, rfl⟩
      rw [Nat.sub_self, List.drop_zero]
      obtain ⟨c0, xs, rfl⟩ : ∃ c0 xs, f = c0 :: xs := by
        cases f with
        | nil => exact absurd rfl z.ne
        | cons c xs => exact ⟨c, xs, rfl⟩
      refine ⟨_, rfl, .ref a, rfl, a, _, 0, .ref pf, rfl, rfl, h1.t, atI_nat (j := 0) rfl, .ref c, rfl, pf, c, c0, xs, ps, rfl, h2, hp, Nat.succ.inj lf, fun H1 s1 => ?_⟩
      have zf := fv_sm z.fz zp z.fl
      refine ⟨.int (BB ^ n), rfl, fv (c0 :: xs) ps, BB ^ n, rfl, rfl, mulW (by decide) (by decide) zf (BB_log n hn) (by decide), _, _, rfl, rfl, .int (BB ^ n), rfl, by show 2 ≤ sizeLine; decide, fun p np => ?_⟩
      refine q p _ ((s0.trans s1).trans (same_new np)) ?_
      show upd H1 p _ p = _
      rw [upd_same]
      have e : sumW BB (fv (c0 :: xs) ps :: pad ts n) = sumW BB (pad ts n) + fv (c0 :: xs) ps * BB ^ n := by
        show fv (c0 :: xs) ps * BB ^ (pad ts n).length + _ = _
        rw [pl, Int.add_comm]
      rw [e]
end
end K17
namespace K17
open PySem PySem.Spec PyProof.Rows L2 Vk
theorem sg_dec (l r : Int) : (if decide (r < l) = true then (1 : Int) else 0) - (if decide (l < r) = true then 1 else 0) = sg (l - r) := by
  unfold sg
  simp only [decide_eq_true_eq]
  congr 1
  · congr 1
    exact propext ⟨fun h => by omega, fun h => by omega⟩
  · congr 1
    exact propext ⟨fun h => by omega, fun h => by omega⟩
theorem cmp_worth {v1 v2 : Int} {t1 t2 : List Int} {D1 D2 : Int} (h1 : ∀ x ∈ t1, SmZ 100 x) (h2 : ∀ x ∈ t2, SmZ 100 x) (d1 : 1 ≤ D1) (d1' : D1 ≤ 10000) (d2 : 1 ≤ D2) (d2' : D2 ≤ 10000) :
    sg (sumW BB (v1 :: pad t1 (max t1.length t2.length)) * D2 - sumW BB (v2 :: pad t2 (max t1.length t2.length)) * D1) = cmpI v1 t1 D1 v2 t2 D2 := by
  unfold cmpI
  have l1 : (pad t1 (max t1.length t2.length)).length = max t1.length t2.length := pad_len (by omega)
  have l2 : (pad t2 (max t1.length t2.length)).length = max t1.length t2.length := pad_len (by omega)
  rw [Int.mul_comm _ D2, Int.mul_comm _ D1, ← sumW_lin BB D2 D1 _ _ (by rw [List.length_cons, List.length_cons, l1, l2])]
  refine lex_sum BB_pos _ ?_
  rw [List.zipWith_cons_cons, List.tail_cons]
  have b1 : ∀ x ∈ pad t1 (max t1.length t2.length), x.natAbs < 2 ^ 100 := fun x hx => by
    rcases pad_mem hx with h | h
    · exact h1 x h
    · subst h
      decide
  have b2 : ∀ x ∈ pad t2 (max t1.length t2.length), x.natAbs < 2 ^ 100 := fun x hx => by
    rcases pad_mem hx with h | h
    · exact h2 x h
    · subst h
      decide
  intro x hx
  obtain ⟨i, hi⟩ := List.getElem?_of_mem hx
  rw [List.getElem?_zipWith] at hi
  cases ha : (pad t1 (max t1.length t2.length))[i]? with
  | none =>
    rw [ha] at hi
    cases hi
  | some a =>
    cases hb : (pad t2 (max t1.length t2.length))[i]? with
    | none =>
      rw [ha, hb] at hi
      cases hi
    | some b =>
      rw [ha, hb] at hi
      obtain rfl : D2 * a - D1 * b = x := Option.some.inj hi
      have za := b1 a (List.mem_of_getElem? ha)
      have zb := b2 b (List.mem_of_getElem? hb)
      have m1 : SmZ 114 (D2 * a) := smz_mul (n := 14) (show D2.natAbs < 2 ^ 14 from Nat.lt_of_le_of_lt (show D2.natAbs ≤ 10000 by omega) (by decide)) za
      have m2 : SmZ 114 (D1 * b) := smz_mul (n := 14) (show D1.natAbs < 2 ^ 14 from Nat.lt_of_le_of_lt (show D1.natAbs ≤ 10000 by omega) (by decide)) zb
      unfold SmZ at m1 m2
      unfold BB
      have : (2 : Nat) ^ 114 < 1000000000000000000000000000000000000000 := by decide
      omega
theorem lex_sg (ts : List Int) (h : ∀ x ∈ ts, SmZ 100 x) : sg (sumW BB ts) = lexS ts := lex_sum BB_pos ts fun x hx => sm_BB (h x (List.mem_of_mem_tail hx))
/-- what the worth's roundings are -/
theorem rounds_up {v s U D : Int} {ts : List Int} (hU : 0 < U) (hD : 0 < D) (h0 : -U < s) (h1 : s < U) (hs : sg s = lexS ts) (f ps : List Int) (hf : f ≠ []) (hv : v = fv f ps) : (fv (upF f ts D) ps).fdiv D + upJ ts = -((-(v * U + s)).fdiv (D * U)) := by
  have hDU : 0 < D * U := Int.mul_pos hD hU
  rw [Int.fdiv_eq_ediv_of_nonneg _ (Int.le_of_lt hD), Int.fdiv_eq_ediv_of_nonneg _ (Int.le_of_lt hDU)]
  have e : -(v * U + s) = (-v) * U + (-s) := by
    rw [Int.neg_mul]
    omega
  rw [e]
  unfold upF upJ
  by_cases hp : 0 < lexS ts
  · rw [if_pos hp, if_pos hp, ← hv]
    have sp : 0 < s := by
      rcases Int.lt_trichotomy s 0 with h | h | h
      · rw [sg_neg h] at hs
        omega
      · subst h
        rw [sg_zero] at hs
        omega
      · exact h
    rw [div_neg hU hD (by omega) (by omega), up_one hD]
  · rw [if_neg hp, if_neg hp, fv_plus hf, ← hv, Int.add_zero]
    have sp : s ≤ 0 := by
      rcases Int.lt_trichotomy s 0 with h | h | h
      · omega
      · omega
      · rw [sg_pos h] at hs
        omega
    rw [div_low hU hD (by omega) (by omega), up_two hD]
    congr 1
    omega
theorem rounds_down {v s U D : Int} {ts : List Int} (hU : 0 < U) (hD : 0 < D) (h0 : -U < s) (h1 : s < U) (hs : sg s = lexS ts) (f ps : List Int) (hf : f ≠ []) (hv : v = fv f ps) : (fv (downF f ts) ps).fdiv D = (v * U + s).fdiv (D * U) := by
  have hDU : 0 < D * U := Int.mul_pos hD hU
  rw [Int.fdiv_eq_ediv_of_nonneg _ (Int.le_of_lt hD), Int.fdiv_eq_ediv_of_nonneg _ (Int.le_of_lt hDU)]
  unfold downF
  by_cases hp : lexS ts < 0
  · rw [if_pos hp, fv_plus hf, ← hv]
    have sp : s < 0 := by
      rcases Int.lt_trichotomy s 0 with h | h | h
      · exact h
      · subst h
        rw [sg_zero] at hs
        omega
      · rw [sg_pos h] at hs
        omega
    rw [div_neg hU hD sp h0]
    rfl
  · rw [if_neg hp, ← hv]
    have sp : 0 ≤ s := by
      rcases Int.lt_trichotomy s 0 with h | h | h
      · rw [sg_neg h] at hs
        omega
      · omega
      · omega
    rw [div_low hU hD sp h1]
theorem above_iff {v s U : Int} {ts : List Int} (hU : 0 < U) (h0 : -U < s) (h1 : s < U) (hs : sg s = lexS ts) (f ps : List Int) (hf : f ≠ []) (hv : v = fv f ps) : decide (0 ≤ fv (aboveF f ts) ps) = decide (0 < v * U + s) := by
  refine decide_eq_decide.mpr ?_
  unfold aboveF
  have big : ∀ x : Int, 0 < x → U ≤ x * U := fun x hx => by
    have := Int.mul_le_mul_of_nonneg_right (show 1 ≤ x by omega) (Int.le_of_lt hU)
    omega
  have low : ∀ x : Int, x < 0 → x * U ≤ -U := fun x hx => by
    have := Int.mul_le_mul_of_nonneg_right (show x ≤ -1 by omega) (Int.le_of_lt hU)
    omega
  by_cases hp : 0 < lexS ts
  · rw [if_pos hp, ← hv]
    have sp : 0 < s := by
      rcases Int.lt_trichotomy s 0 with h | h | h
      · rw [sg_neg h] at hs
        omega
      · subst h
        rw [sg_zero] at hs
        omega
      · exact h
    rcases Int.lt_trichotomy v 0 with h | h | h
    · have := low v h
      constructor <;> intro <;> omega
    · subst h
      rw [Int.zero_mul]
      constructor <;> intro <;> omega
    · have := big v h
      constructor <;> intro <;> omega
  · rw [if_neg hp, fv_plus hf, ← hv]
    have sp : s ≤ 0 := by
      rcases Int.lt_trichotomy s 0 with h | h | h
      · omega
      · omega
      · rw [sg_pos h] at hs
        omega
    rcases Int.lt_trichotomy v 0 with h | h | h
    · have := low v h
      constructor <;> intro <;> omega
    · subst h
      rw [Int.zero_mul]
      constructor <;> intro <;> omega
    · have := big v h
      constructor <;> intro <;> omega
section
variable {P : Program} {w : World} {K : PySem.W.Frag} {mg : Str → Option Value} {base : Heap}
theorem ok_lcmp {f : Addr} {fd : FuncData} (F : Fun K "_law_compared" "_law_compared" s_lcmp f fd) (C__law_worth : Cal P w K mg base 2 "_law_worth" ["amount", "p", "count"] spWorth) (m_len : mg "len" = none) (m_max : mg "max" = none) (m_int : mg "int" = none) : FnOk P w K mg base CX0 3 f fd ["one", "other", "p"] spLcmp := by
  have sc := sc_lcmp
  refine F.ok sc (fun vs H Q E h => ?_) (fun cdv A outer s H vs Q E hr h => ?_)
  · obtain ⟨a, b, c, f1, t1, f2, t2, D1, D2, ps, rfl, _⟩ := h
    rfl
  · obtain ⟨a, b, c, f1, t1, f2, t2, D1, D2, ps, rfl, hA, hB, z1, z2, hp, lf1, lf2, zp, q⟩ := h
    refine ⟨_, (pss_cons (ps_set (i := 3) sc.nd rfl (Or.inl rfl) (pe_callB (call_max2 rfl) (by rfl) m_max (by decide +kernel) (pa_cons (pe_callB call_len_seq (by rfl) m_len (by decide +kernel) (pa_cons (pe_ix ix_tup (pv 0) pe_int (fun _ _ => rfl)) pa_nil)) (pa_cons (pe_callB call_len_seq (by rfl) m_len (by decide +kernel) (pa_cons (pe_ix ix_tup (pv 1) pe_int (fun _ _ => rfl)) pa_nil)) pa_nil))))
    (pss_cons (ps_par (i := 4) (j := 5) (by rfl) sc.nd rfl rfl (by decide) rfl rfl (pa_cons (pe_op op_mulW (pe_ix ix_tup (call_ C__law_worth (hr.mono (by decide)) (by rfl) (pa_cons (pv 0) (pa_cons (pv 2) (pa_cons (pv 3) pa_nil)))) pe_int (fun _ _ => rfl)) (pe_ix ix_tup (pv 1) pe_int (fun _ _ => rfl))) (pa_cons (pe_op op_mulW (pe_ix ix_tup (call_ C__law_worth (hr.mono (by decide)) (by rfl) (pa_cons (pv 1) (pa_cons (pv 2) (pa_cons (pv 3) pa_nil)))) pe_int (fun _ _ => rfl)) (pe_ix ix_tup (pv 0) pe_int (fun _ _ => rfl))) pa_nil)) (by rfl))
    (pss_one (ps_ret (pe_op op_sub (pe_callTy call_int1 (by rfl) m_int (by decide +kernel) (pa_cons (pe_cmpR op_gt (pv 4) (pv 5) (nomark _)) pa_nil)) (pe_callTy call_int1 (by rfl) m_int (by decide +kernel) (pa_cons (pe_cmpR op_lt (pv 4) (pv 5) (nomark _)) pa_nil))))))), ?_⟩
    have hA0 := hA
    have hB0 := hB
    obtain ⟨pf1, pt1, h1, h2, h3⟩ := hA
    obtain ⟨pf2, pt2, k1, k2, k3⟩ := hB
    have tl1 := z1.tl
    have tl2 := z2.tl
    obtain ⟨L, hL⟩ : ∃ L, L = max t1.length t2.length := ⟨_, rfl⟩
    refine ⟨.ref a, rfl, a, _, 1, .ref pt1, rfl, rfl, h1.t, atI_nat (j := 1) rfl, pt1, _, rfl, .inr h3.1.t, .ref b, rfl, b, _, 1, .ref pt2, rfl, rfl, k1.t, atI_nat (j := 1) rfl, pt2, _, rfl, .inr k3.1.t, _, _, rfl, ?_⟩
    have eL : (if (((t2.map V.int).length : Nat) : Int) > (((t1.map V.int).length : Nat) : Int) then (((t2.map V.int).length : Nat) : Int) else (((t1.map V.int).length : Nat) : Int)) = ((L : Nat) : Int) := by
      rw [List.length_map, List.length_map]
      split <;> omega
    rw [eL]
    have zd : ∀ x : Int, 1 ≤ x → x ≤ 10000 → SmZ 14 x := fun x h0 h1 => Nat.lt_of_le_of_lt (show x.natAbs ≤ 10000 by omega) (by decide)
    refine ⟨.ref a, rfl, .ref c, rfl, .int L, rfl, a, c, f1, t1, D1, ps, L, rfl, hA0, z1, hp, lf1, zp, by omega, by omega, fun r1 H1 s1 g1 => ?_⟩
    refine ⟨r1, _, 0, .int _, rfl, rfl, g1.t, atI_nat (j := 0) rfl, .ref b, rfl, b, _, 2, .int D2, rfl, rfl, (k1.same s1).t, atI_nat (j := 2) rfl, _, D2, rfl, rfl, mulW (by decide) (by decide) (worth_sm z1 zp (by omega) (by omega)) (zd D2 z2.d0 z2.d1) (by decide), ?_⟩
    refine ⟨.ref b, rfl, .ref c, rfl, .int L, rfl, b, c, f2, t2, D2, ps, L, rfl, hB0.same s1, z2, hp.same s1, lf2, zp, by omega, by omega, fun r2 H2 s2 g2 => ?_⟩
    refine ⟨r2, _, 0, .int _, rfl, rfl, g2.t, atI_nat (j := 0) rfl, .ref a, rfl, a, _, 2, .int D1, rfl, rfl, ((h1.same s1).same s2).t, atI_nat (j := 2) rfl, _, D1, rfl, rfl, mulW (by decide) (by decide) (worth_sm z2 zp (by omega) (by omega)) (zd D1 z1.d0 z1.d1) (by decide), ?_⟩
    have key := cmp_worth (v1 := fv f1 ps) (v2 := fv f2 ps) z1.tz z2.tz z1.d0 z1.d1 z2.d0 z2.d1
    rw [← hL] at key
    dsimp only
    generalize sumW BB (fv f1 ps :: pad t1 L) * D2 = l at key ⊢
    generalize sumW BB (fv f2 ps :: pad t2 L) * D1 = r at key ⊢
    refine ⟨_, _, rfl, .int l, rfl, .int r, rfl, l, r, rfl, rfl, .inr ⟨_, rfl, .int l, rfl, .int r, rfl, l, r, rfl, rfl, .inr ⟨_, rfl, _, _, rfl, rfl, ?_⟩⟩⟩
    have q := q H2 (s1.trans s2)
    rw [← key, ← sg_dec] at q
    exact q
theorem ok_rounds {f : Addr} {fd : FuncData} (F : Fun K "_law_rounds_right" "_law_rounds_right" s_rounds f fd) (C__law_worth : Cal P w K mg base 2 "_law_worth" ["amount", "p", "count"] spWorth) (C__law_form_value : Cal P w K mg base 1 "_law_form_value" ["form", "p"] spFval) (C_above_row : Cal P w K mg base 3 "above_row" ["amount"] spAbove) (C_round_up : Cal P w K mg base 3 "round_up" ["amount"] spUp) (C_round_down : Cal P w K mg base 3 "round_down" ["amount"] spDown) (m_len : mg "len" = none) : FnOk P w K mg base CX0 4 f fd ["amount", "p"] spRounds := by
  have sc := sc_rounds
  refine F.ok sc (fun vs H Q E h => ?_) (fun cdv A outer s H vs Q E hr h => ?_)
  · obtain ⟨a, c, f, ts, D, ps, rfl, _⟩ := h
    rfl
  · obtain ⟨a, c, f, ts, D, ps, rfl, hA, z, hp, lf, zp, q⟩ := h
    refine ⟨_, (pss_cons (ps_asg (pv 0) (pg_tup (n := 3) (by rfl) (pgs_cons (pg_name (i := 2) sc.nd rfl (Or.inl rfl)) (pgs_cons (pg_name (i := 3) sc.nd rfl (Or.inl rfl)) (pgs_cons (pg_name (i := 4) sc.nd rfl (Or.inl rfl)) pgs_nil)))))
    (pss_cons (ps_asg (call_ C__law_worth (hr.mono (by decide)) (by rfl) (pa_cons (pv 0) (pa_cons (pv 1) (pa_cons (pe_callB call_len_seq (by rfl) m_len (by decide +kernel) (pa_cons (pv 3) pa_nil)) pa_nil)))) (pg_tup (n := 2) (by rfl) (pgs_cons (pg_name (i := 5) sc.nd rfl (Or.inl rfl)) (pgs_cons (pg_name (i := 6) sc.nd rfl (Or.inl rfl)) pgs_nil))))
    (pss_cons (ps_if (pt_cmpR op_ne (pe_cmpR op_ge (call_ C__law_form_value (hr.mono (by decide)) (by rfl) (pa_cons (call_ C_above_row (hr.mono (by decide)) (by rfl) (pa_cons (pv 0) pa_nil)) (pa_cons (pv 1) pa_nil))) pe_int (nomark _)) (pe_cmpR op_gt (pv 5) pe_int (nomark _)) (nomark _))
      (pss_one (ps_ret pe_bl))
      pss_nil)
    (pss_cons (ps_asg (call_ C_round_up (hr.mono (by decide)) (by rfl) (pa_cons (pv 0) pa_nil)) (pg_tup (n := 2) (by rfl) (pgs_cons (pg_tup (n := 2) (by rfl) (pgs_cons (pg_name (i := 9) sc.nd rfl (Or.inl rfl)) (pgs_cons (pg_name (i := 10) sc.nd rfl (Or.inl rfl)) pgs_nil))) (pgs_cons (pg_name (i := 7) sc.nd rfl (Or.inl rfl)) pgs_nil))))
    (pss_cons (ps_asg (call_ C_round_down (hr.mono (by decide)) (by rfl) (pa_cons (pv 0) pa_nil)) (pg_tup (n := 2) (by rfl) (pgs_cons (pg_tup (n := 2) (by rfl) (pgs_cons (pg_name (i := 11) sc.nd rfl (Or.inl rfl)) (pgs_cons (pg_name (i := 12) sc.nd rfl (Or.inl rfl)) pgs_nil))) (pgs_cons (pg_name (i := 8) sc.nd rfl (Or.inl rfl)) pgs_nil))))
    (pss_cons (ps_if (pt_cmpR op_ne (pe_op op_add (pe_op op_fdivX (call_ C__law_form_value (hr.mono (by decide)) (by rfl) (pa_cons (pv 10) (pa_cons (pv 1) pa_nil))) (pv 9)) (pv 7)) (pe_un un_neg (pe_op op_fdivX (pe_un un_neg (pv 5)) (pe_op op_mulW (pv 4) (pv 6)))) (nomark _))
      (pss_one (ps_ret pe_bl))
      pss_nil)
    (pss_one (ps_ret (pe_and (pe_cmpR op_eq (pv 8) pe_int (nomark _)) (pe_one (pe_cmpR op_eq (pe_op op_fdivX (call_ C__law_form_value (hr.mono (by decide)) (by rfl) (pa_cons (pv 12) (pa_cons (pv 1) pa_nil))) (pv 11)) (pe_op op_fdivX (pv 5) (pe_op op_mulW (pv 4) (pv 6))) (nomark _)))))))))))), ?_⟩
    have hA0 := hA
    obtain ⟨pf, pt, h1, h2, h3⟩ := hA
    have tl := z.tl
    refine ⟨.ref a, rfl, a, _, rfl, h1.t, rfl, .ref pf, [.ref pt, .int D], rfl, .ref pt, [.int D], rfl, .int D, [], rfl, rfl, ?_⟩
    refine ⟨.ref a, rfl, .ref c, rfl, .ref pt, rfl, pt, _, rfl, .inr h3.1.t, a, c, f, ts, D, ps, ts.length, by rw [List.length_map], hA0, z, hp, lf, zp, Nat.le_refl _, tl, fun r1 H1 s1 g1 => ?_⟩
    have ep : pad ts ts.length = ts := by
      unfold pad
      rw [Nat.sub_self, List.replicate_zero, List.append_nil]
    have zw := worth_sm z zp tl (Nat.le_refl _)
    rw [ep] at g1 zw
    obtain ⟨v, hv⟩ : ∃ v, v = fv f ps := ⟨_, rfl⟩
    obtain ⟨S, hS⟩ : ∃ S, S = sumW BB ts := ⟨_, rfl⟩
    obtain ⟨U, hU⟩ : ∃ U, U = BB ^ ts.length := ⟨_, rfl⟩
    have ew : sumW BB (fv f ps :: ts) = v * U + S := by
      rw [hv, hU, hS]
      rfl
    rw [ew] at g1 zw
    have U0 : 0 < U := by
      rw [hU]
      exact Int.pow_pos BB_pos
    have ab := sumW_abs BB_pos ts fun x hx => sm_BB (z.tz x hx)
    rw [← hS, ← hU] at ab
    have hs : sg S = lexS ts := by
      rw [hS]
      exact lex_sg ts z.tz
    have zU : SmZ 2700 U := by
      rw [hU]
      exact BB_log _ tl
    rw [← hU] at g1
    have D0 : 0 < D := by
      have := z.d0
      omega
    have zD : SmZ 14 D := by
      have := z.d1
      exact Nat.lt_of_le_of_lt (show D.natAbs ≤ 10000 by omega) (by decide)
    generalize hW : v * U + S = W at g1 zw
    refine ⟨r1, _, rfl, g1.t, rfl, .int W, [.int U], rfl, .int U, [], rfl, rfl, ?_⟩
    have lab : (aboveF f ts).length = f.length := by
      unfold aboveF
      split
      · rfl
      · exact plusF_len _ _
    refine ⟨.ref a, rfl, a, f, ts, D, rfl, hA0.same s1, z, fun r2 H2 s2 g2 => ?_⟩
    have ea := above_iff U0 ab.1 ab.2 hs f ps z.ne hv
    generalize aboveF f ts = fa at g2 lab ea
    obtain ⟨c0, xs, rfl⟩ : ∃ c0 xs, fa = c0 :: xs := by
      cases fa with
      | nil =>
        rw [lf] at lab
        cases lab
      | cons c xs => exact ⟨c, xs, rfl⟩
    have hp2 := (hp.same s1).same s2
    refine ⟨.ref c, rfl, r2, c, c0, xs, ps, rfl, g2, hp2, by rw [List.length_cons] at lab; omega, fun H3 s3 => ?_⟩
    have ea : decide (0 ≤ c0 + dot xs ps) = decide (0 < v * U + S) := ea
    rw [hW] at ea
    refine ⟨_, _, rfl, rfl, .int W, rfl, _, _, rfl, rfl, rfl, _, rfl, iteF' ?_ ?_⟩
    · have e' : V.bl (decide (0 ≤ c0 + dot xs ps)) = V.bl (decide (0 < W)) := by rw [ea]
      show (!decide (V.bl (decide (0 ≤ c0 + dot xs ps)) = V.bl (decide (0 < W)))) = false
      rw [decide_eq_true e']
      rfl
    have s13 := (s1.trans s2).trans s3
    have lup : (upF f ts D).length = f.length := by
      unfold upF
      split
      · rfl
      · exact plusF_len _ _
    have eu := rounds_up U0 D0 ab.1 ab.2 hs f ps z.ne hv
    have ldn : (downF f ts).length = f.length := by
      unfold downF
      split
      · exact plusF_len _ _
      · rfl
    have edn := rounds_down U0 D0 ab.1 ab.2 hs f ps z.ne hv
    rw [hW] at eu edn
    refine ⟨.ref a, rfl, a, f, ts, D, rfl, hA0.same s13, z, fun r4 q4 p4 H4 s4 g4 g4' g4'' => ?_⟩
    refine ⟨r4, _, rfl, g4.t, rfl, .ref q4, [.int (upJ ts)], rfl, q4, _, rfl, g4'.t, rfl, .int D, [.ref p4], rfl, .ref p4, [], rfl, rfl, .int (upJ ts), [], rfl, rfl, ?_⟩
    have s14 := s13.trans s4
    refine ⟨.ref a, rfl, a, f, ts, D, rfl, hA0.same s14, z, fun r5 q5 p5 H5 s5 g5 g5' g5'' => ?_⟩
    refine ⟨r5, _, rfl, g5.t, rfl, .ref q5, [.int 0], rfl, q5, _, rfl, g5'.t, rfl, .int D, [.ref p5], rfl, .ref p5, [], rfl, rfl, .int 0, [], rfl, rfl, ?_⟩
    have s15 := s14.trans s5
    have g4'' := g4''.same s5
    generalize upF f ts D = fu at g4'' lup eu
    obtain ⟨c1, x1, rfl⟩ : ∃ c0 xs, fu = c0 :: xs := by
      cases fu with
      | nil =>
        rw [lf] at lup
        cases lup
      | cons c xs => exact ⟨c, xs, rfl⟩
    generalize downF f ts = fdn at g5'' ldn edn
    obtain ⟨c2, x2, rfl⟩ : ∃ c0 xs, fdn = c0 :: xs := by
      cases fdn with
      | nil =>
        rw [lf] at ldn
        cases ldn
      | cons c xs => exact ⟨c, xs, rfl⟩
    have cdD : ∀ x : Int, CDivX x D := fun x => ⟨by omega, Nat.lt_trans (logS (by decide) zD) (by decide)⟩
    have zDU := smz_mul zD zU
    have cdU : ∀ x : Int, CDivX x (D * U) := fun x => ⟨Int.mul_ne_zero (by omega) (by omega), Nat.lt_trans (logS (by decide) zDU) (by decide)⟩
    refine ⟨.ref p4, rfl, .ref c, rfl, p4, c, c1, x1, ps, rfl, g4'', hp.same s15, by rw [List.length_cons] at lup; omega, fun H6 s6 => ?_⟩
    have eu : (c1 + dot x1 ps).fdiv D + upJ ts = -((-W).fdiv (D * U)) := eu
    refine ⟨.int D, rfl, c1 + dot x1 ps, D, rfl, rfl, cdD _, .int (upJ ts), rfl, _, _, rfl, rfl, .int W, rfl, W, rfl, .int D, rfl, .int U, rfl, D, U, rfl, rfl, mulW (by decide) (by decide) zD zU (by decide), -W, D * U, rfl, rfl, cdU _, _, rfl, rfl, _, rfl, iteF' ?_ ?_⟩
    · have e' : V.int ((c1 + dot x1 ps).fdiv D + upJ ts) = V.int (-((-W).fdiv (D * U))) := by rw [eu]
      show (!decide (V.int ((c1 + dot x1 ps).fdiv D + upJ ts) = V.int (-((-W).fdiv (D * U))))) = false
      rw [decide_eq_true e']
      rfl
    refine ⟨.int 0, rfl, rfl, _, rfl, iteT' (by rfl) ?_⟩
    refine ⟨.ref p5, rfl, .ref c, rfl, p5, c, c2, x2, ps, rfl, g5''.same s6, hp.same (s15.trans s6), by rw [List.length_cons] at ldn; omega, fun H7 s7 => ?_⟩
    have edn : (c2 + dot x2 ps).fdiv D = W.fdiv (D * U) := edn
    refine ⟨.int D, rfl, c2 + dot x2 ps, D, rfl, rfl, cdD _, .int W, rfl, .int D, rfl, .int U, rfl, D, U, rfl, rfl, mulW (by decide) (by decide) zD zU (by decide), W, D * U, rfl, rfl, cdU _, rfl, ?_⟩
    have e' : V.int ((c2 + dot x2 ps).fdiv D) = V.int (W.fdiv (D * U)) := by rw [edn]
    show Q (.bl (decide (V.int ((c2 + dot x2 ps).fdiv D) = V.int (W.fdiv (D * U))))) H7
    rw [decide_eq_true e']
    exact q H7 ((s15.trans s6).trans s7)
end
end K17
namespace K17
open PySem PySem.Spec PyProof.Rows L2 Vk
abbrev s_amount : Stmt := topS 33
theorem sc_amount : FnScope ["m", "many", "most", "form", "ts", "k_so"] ["m", "many"] (defScope s_amount) := ⟨rfl, rfl, rfl, by decide +kernel, rfl, by decide +kernel, by decide +kernel⟩
abbrev s_beside : Stmt := topS 34
theorem sc_beside : FnScope ["m", "amount", "form", "ts", "whole", "word", "times", "c", "t"] ["m", "amount"] (defScope s_beside) := ⟨rfl, rfl, rfl, by decide +kernel, rfl, by decide +kernel, by decide +kernel⟩
/-- a drawn amount's bounds -/
structure Bd (f ts : List Int) (D : Int) : Prop where
  ne : f ≠ []
  fl : f.length ≤ 5
  tl : ts.length ≤ 5
  fz : ∀ x ∈ f, SmZ 31 x
  tz : ∀ x ∈ ts, SmZ 5 x
  d0 : 1 ≤ D
  d1 : D ≤ 12
theorem Bd.sml {f ts : List Int} {D : Int} (b : Bd f ts D) : Sml 100 f ts D := ⟨b.ne, by have := b.fl; omega, by have := b.tl; omega, fun x hx => smz_mono (b.fz x hx) (by decide), fun x hx => smz_mono (b.tz x hx) (by decide), b.d0, by have := b.d1; omega⟩
def spAmount : Sp := fun vs H Q _ => ∃ (m c : Addr) (q n : Nat), vs = [.ref m, .int n] ∧ MOk H m c q ∧ q ≤ 20000 ∧ n ≤ 4 ∧ ∀ H' a f ts D, SameBut m H H' → MOk H' m c (q + 60) → Am H' a f ts D → f.length = n + 1 → Bd f ts D → Q (.ref a) H'
def spBeside : Sp := fun vs H Q _ => ∃ (m c a : Addr) (q : Nat) (f ts : List Int) (D : Int), vs = [.ref m, .ref a] ∧ MOk H m c q ∧ q ≤ 20000 ∧ Am H a f ts D ∧ Bd f ts D ∧ ∀ H' b f' ts' D', SameBut m H H' → MOk H' m c (q + 60) → Am H' b f' ts' D' → f'.length = f.length → Sml 100 f' ts' D' → Q (.ref b) H'
section
variable {P : Program} {w : World} {K : PySem.W.Frag} {mg : Str → Option Value} {base : Heap}
theorem ok_amount {f : Addr} {fd : FuncData} (F : Fun K "_law_amount" "_law_amount" s_amount f fd) (C__law_draw : Cal P w K mg base 1 "_law_draw" ["m", "bound"] spDraw) (C__law_signed : Cal P w K mg base 2 "_law_signed" ["m", "most"] spSignedW) (C__law_of : Cal P w K mg base 2 "_law_of" ["m", "some"] spOf) (m_tuple : mg "tuple" = none) (m_range : mg "range" = none) : FnOk P w K mg base CX0 3 f fd ["m", "many"] spAmount := by
  have sc := sc_amount
  refine F.ok sc (fun vs H Q E h => ?_) (fun cdv A outer s H vs Q E hr h => ?_)
  · obtain ⟨m, c, q, n, rfl, _⟩ := h
    rfl
  · obtain ⟨m, c, q, n, rfl, hM, hq, hn, k⟩ := h
    refine ⟨_, (pss_cons (ps_set (i := 2) sc.nd rfl (Or.inr rfl) (pe_ifExp (pt_cmpR op_eq (call_ C__law_draw (hr.mono (by decide)) (by rfl) (pa_cons (pv 0) (pa_cons pe_int pa_nil))) pe_int (nomark _)) (pe_op op_pow pe_int pe_int) pe_int))
    (pss_cons (ps_set (i := 3) sc.nd rfl (Or.inl rfl) (pe_callTy call_tuple_of (by rfl) m_tuple (by decide +kernel) (pa_cons (pe_lc (own := [("k_so", 5)]) (g := gName 5) (by rfl) sc.nd (pi_range1 rfl m_range (pa_cons (pe_op op_add (pv 1) pe_int) pa_nil)) (blkOk_by (own := [("k_so", 5)]) (N := ["m", "many", "most", "form", "ts", "k_so"]) (sc := defScope s_amount) (by decide +kernel)) (fun _ _ _ _ _ => pg_name (i := 5) sc.nd rfl (Or.inl rfl)) (fun _ _ _ _ _ => pts_nil) (fun _ _ _ _ _ => (call_ C__law_signed (hr.mono (by decide)) (by rfl) (pa_cons (pv 0) (pa_cons (pv 2) pa_nil))))) pa_nil)))
    (pss_cons (ps_set (i := 4) sc.nd rfl (Or.inl rfl) (pe_callTy call_tuple_of (by rfl) m_tuple (by decide +kernel) (pa_cons (pe_lc (own := [("k_so", 5)]) (g := gName 5) (by rfl) sc.nd (pi_range1 rfl m_range (pa_cons (call_ C__law_draw (hr.mono (by decide)) (by rfl) (pa_cons (pv 0) (pa_cons pe_int pa_nil))) pa_nil)) (blkOk_by (own := [("k_so", 5)]) (N := ["m", "many", "most", "form", "ts", "k_so"]) (sc := defScope s_amount) (by decide +kernel)) (fun _ _ _ _ _ => pg_name (i := 5) sc.nd rfl (Or.inl rfl)) (fun _ _ _ _ _ => pts_nil) (fun _ _ _ _ _ => (call_ C__law_of (hr.mono (by decide)) (by rfl) (pa_cons (pv 0) (pa_cons (pe_lst (pa_cons pe_int (pa_cons pe_int (pa_cons pe_int (pa_cons (pe_un un_neg pe_int) (pa_cons (call_ C__law_signed (hr.mono (by decide)) (by rfl) (pa_cons (pv 0) (pa_cons pe_int pa_nil))) pa_nil)))))) pa_nil))))) pa_nil)))
    (pss_one (ps_ret (pe_tup (pa_cons (pv 3) (pa_cons (pv 4) (pa_cons (pe_op op_add pe_int (call_ C__law_draw (hr.mono (by decide)) (by rfl) (pa_cons (pv 0) (pa_cons pe_int pa_nil)))) pa_nil))))))))), ?_⟩
    refine ⟨.ref m, rfl, m, c, q, 6, rfl, hM, by omega, by decide, by decide, fun H1 v b1 M1 v0 v1 => ⟨rfl, _, rfl, ?_⟩⟩
    refine tif_both (fun v => ∃ b : Int, v = .int b ∧ 0 ≤ b ∧ b ≤ 1000000000) ?_ (fun _ hQ => ⟨10, 9, rfl, rfl, ⟨by decide, by decide, by decide⟩, hQ _ ⟨_, rfl, by decide, by decide⟩⟩) (fun _ hQ => hQ _ ⟨30, rfl, by decide, by decide⟩)
    rintro _ ⟨b, rfl, b0, b10⟩
    refine ⟨.int n, rfl, n, 1, rfl, rfl, (n : Int) + 1, rfl, by omega, by omega, fun D nD => ?_⟩
    rw [show ((n : Int) + 1).toNat = n + 1 by omega]
    refine lc_dr (w := 2) (q := q + 1) (m := m) (c := c) (fun _ x => -b ≤ x ∧ x ≤ b) (small (by omega)) M1 nD ?_ ?_
    · intro j H4 Qy hj _ M' hQ
      exact ⟨rfl, .ref m, rfl, .int b, rfl, m, c, q + 1 + 2 * j, b, rfl, M', by omega, b0, by omega, fun H5 v b5 M5 w0 w1 => hQ H5 _ b5 M5 ⟨w0, w1⟩⟩
    intro H2 xs b2 M2 d2 l2 bx
    have bx := all_of_get bx
    refine ⟨D, _, rfl, .inl ⟨SqL.of d2, fun T nT => ?_⟩⟩
    have s3 : Same H2 (upd H2 T (.tup (xs.map V.int))) := same_new nT
    have g3 : Tp (upd H2 T (.tup (xs.map V.int))) T (xs.map V.int) := upd_same
    generalize upd H2 T (.tup (xs.map V.int)) = H3 at s3 g3 ⊢
    have M3 := M2.same s3
    obtain ⟨kv3, hm3⟩ := M3.m_some
    have b3 := (b1.trans b2).trans (SameBut.of s3)
    refine ⟨.ref m, rfl, m, c, _, 6, rfl, M3, by omega, by decide, by decide, fun H4 u b4 M4 u0 u1 => ?_⟩
    obtain ⟨t, rfl⟩ : ∃ t : Nat, u = t := ⟨u.toNat, by omega⟩
    refine ⟨(t : Int), rfl, by omega, by omega, fun G nG => ?_⟩
    rw [Int.toNat_natCast]
    refine lc_dr (w := 3) (q := q + 1 + 2 * (n + 1) + 1) (m := m) (c := c) (fun _ x => -9 ≤ x ∧ x ≤ 9) (small (by omega)) M4 nG ?_ ?_
    · intro j H5 Qy hj _ M' hQ
      refine ⟨rfl, .ref m, rfl, 1, rfl, .ref m, rfl, m, c, _, 9, rfl, M', by omega, by decide, by decide, fun H6 x b6 M6 x0 x1 => ⟨by show 5 ≤ sizeLine; decide, fun S nS => ?_⟩⟩
      have s7 : Same H6 (upd H6 S (.lst [.int 0, .int 0, .int 1, .int (-1), .int x])) := same_new nS
      have g7 : upd H6 S (.lst [.int 0, .int 0, .int 1, .int (-1), .int x]) S = some (.lst [.int 0, .int 0, .int 1, .int (-1), .int x]) := upd_same
      generalize upd H6 S (.lst [.int 0, .int 0, .int 1, .int (-1), .int x]) = H7 at s7 g7 ⊢
      refine ⟨m, c, S, _, _, rfl, M6.same s7, by omega, g7, by show 0 < 5; decide, by show 5 ≤ 100; decide, fun H8 y b8 M8 hy => ?_⟩
      have hb : ∃ z : Int, y = .int z ∧ -9 ≤ z ∧ z ≤ 9 := by
        simp only [List.mem_cons, List.not_mem_nil, or_false] at hy
        rcases hy with rfl | rfl | rfl | rfl | rfl
        · exact ⟨_, rfl, by decide, by decide⟩
        · exact ⟨_, rfl, by decide, by decide⟩
        · exact ⟨_, rfl, by decide, by decide⟩
        · exact ⟨_, rfl, by decide, by decide⟩
        · exact ⟨_, rfl, x0, x1⟩
      obtain ⟨z, rfl, z0, z1⟩ := hb
      exact hQ H8 z ((b6.trans (SameBut.of s7)).trans b8) (M8.mono (by omega)) ⟨z0, z1⟩
    intro H5 ys b5 M5 d5 l5 by5
    have by5 := all_of_get by5
    refine ⟨G, _, rfl, .inl ⟨SqL.of d5, fun T2 nT2 => ?_⟩⟩
    have s6 : Same H5 (upd H5 T2 (.tup (ys.map V.int))) := same_new nT2
    have g6 : Tp (upd H5 T2 (.tup (ys.map V.int))) T2 (ys.map V.int) := upd_same
    generalize upd H5 T2 (.tup (ys.map V.int)) = H6 at s6 g6 ⊢
    have M6 := M5.same s6
    obtain ⟨kv6, hm6⟩ := M6.m_some
    have b36 := (b4.trans b5).trans (SameBut.of s6)
    have g3 := g3.but hm3 b36
    refine ⟨.ref T, rfl, .ref T2, rfl, .ref m, rfl, m, c, _, 12, rfl, M6, by omega, by decide, by decide, fun H7 dd b7 M7 dd0 dd1 => ?_⟩
    refine ⟨1, dd, rfl, rfl, by show 3 ≤ sizeLine; decide, fun p np => ?_⟩
    have s8 := same_new (o := .tup [.ref T, .ref T2, .int (1 + dd)]) np
    have g3 := g3.but hm6 b7
    have g6 := g6.but hm6 b7
    have zx : ∀ x ∈ xs, SmZ 31 x := fun x hx => by
      have := bx x hx
      exact Nat.lt_of_le_of_lt (show x.natAbs ≤ 1000000000 by omega) (by decide)
    have zy : ∀ x ∈ ys, SmZ 5 x := fun x hx => by
      have := by5 x hx
      exact Nat.lt_of_le_of_lt (show x.natAbs ≤ 9 by omega) (by decide)
    refine k _ p xs ys (1 + dd) ((b3.trans b36).trans (b7.trans (SameBut.of s8))) ((M7.same s8).mono (by omega)) ⟨T, T2, upd_same, ⟨g3.same s8, by omega, fun x hx => smz_mono (zx x hx) (by decide)⟩, ⟨g6.same s8, by omega, fun x hx => smz_mono (zy x hx) (by decide)⟩⟩ l2 ⟨?_, by omega, by omega, zx, zy, by omega, by omega⟩
    intro e
    rw [e] at l2
    cases l2
end
end K17
namespace K17
open PySem PySem.Spec PyProof.Rows L2 Vk
theorem flat1 {α : Type} (n : Nat) (a : α) : (List.replicate n [a]).flatten = List.replicate n a := by
  induction n with
  | zero => rfl
  | succ n ih => rw [List.replicate_succ, List.flatten_cons, ih, List.replicate_succ]; rfl
/-- lam with the first k entries made -/
theorem cut_last (xs : List V) : cutV xs none (some (-1)) = xs.dropLast := by
  unfold cutV
  rw [HT.sIx_none, List.drop_zero, Nat.sub_zero]
  cases xs with
  | nil => rfl
  | cons x r =>
    have e : HT.sIx (x :: r).length (x :: r).length (some (-1)) = r.length := by
      show (if (-1 : Int) < 0 then ((-1 : Int) + ((x :: r).length : Int)).toNat else min (-1 : Int).toNat (x :: r).length) = _
      rw [if_pos (by decide), List.length_cons]
      omega
    rw [e, List.dropLast_eq_take, List.length_cons, Nat.add_sub_cancel]
section
variable {P : Program} {w : World} {K : PySem.W.Frag} {mg : Str → Option Value} {base : Heap}
theorem ok_beside {f : Addr} {fd : FuncData} (F : Fun K "_law_beside" "_law_beside" s_beside f fd) (C__law_draw : Cal P w K mg base 1 "_law_draw" ["m", "bound"] spDraw) (C__law_signed : Cal P w K mg base 2 "_law_signed" ["m", "most"] spSignedW) (m_tuple : mg "tuple" = none) : FnOk P w K mg base CX0 3 f fd ["m", "amount"] spBeside := by
  have sc := sc_beside
  refine F.ok sc (fun vs H Q E h => ?_) (fun cdv A outer s H vs Q E hr h => ?_)
  · obtain ⟨m, c, a, q, f, ts, D, rfl, _⟩ := h
    rfl
  · obtain ⟨m, c, a, q, f, ts, D, rfl, hM, hq, ⟨pf, pt, h1, h2, h3⟩, z, k⟩ := h
    refine ⟨_, (pss_cons (ps_asg (pv 1) (pg_tup (n := 3) (by rfl) (pgs_cons (pg_name (i := 2) sc.nd rfl (Or.inl rfl)) (pgs_cons (pg_name (i := 3) sc.nd rfl (Or.inl rfl)) (pgs_cons (pg_name (i := 4) sc.nd rfl (Or.inl rfl)) pgs_nil)))))
    (pss_cons (ps_asg (pe_tup (pa_cons (call_ C__law_draw (hr.mono (by decide)) (by rfl) (pa_cons (pv 0) (pa_cons pe_int pa_nil))) (pa_cons (pe_op op_add pe_int (call_ C__law_draw (hr.mono (by decide)) (by rfl) (pa_cons (pv 0) (pa_cons pe_int pa_nil)))) pa_nil))) (pg_tup (n := 2) (by rfl) (pgs_cons (pg_name (i := 5) sc.nd rfl (Or.inl rfl)) (pgs_cons (pg_name (i := 6) sc.nd rfl (Or.inr rfl)) pgs_nil))))
    (pss_cons (ps_if (pt_cmpR op_eq (pv 5) pe_int (nomark _))
      (pss_one (ps_ret (pe_tup (pa_cons (pe_callTy call_tuple_of (by rfl) m_tuple (by decide +kernel) (pa_cons (pe_lc (own := [("c", 7)]) (g := gName 7) (by rfl) sc.nd (pi_tup (pv 2)) (blkOk_by (own := [("c", 7)]) (N := ["m", "amount", "form", "ts", "whole", "word", "times", "c", "t"]) (sc := defScope s_beside) (by decide +kernel)) (fun _ _ _ _ _ => pg_name (i := 7) sc.nd rfl (Or.inl rfl)) (fun _ _ _ _ _ => pts_nil) (fun _ _ _ _ _ => (pe_op op_mulW (pv 6) (pv 7)))) pa_nil)) (pa_cons (pe_callTy call_tuple_of (by rfl) m_tuple (by decide +kernel) (pa_cons (pe_lc (own := [("t", 8)]) (g := gName 8) (by rfl) sc.nd (pi_tup (pv 3)) (blkOk_by (own := [("t", 8)]) (N := ["m", "amount", "form", "ts", "whole", "word", "times", "c", "t"]) (sc := defScope s_beside) (by decide +kernel)) (fun _ _ _ _ _ => pg_name (i := 8) sc.nd rfl (Or.inl rfl)) (fun _ _ _ _ _ => pts_nil) (fun _ _ _ _ _ => (pe_op op_mulW (pv 6) (pv 8)))) pa_nil)) (pa_cons (pe_op op_mulW (pv 6) (pv 4)) pa_nil))))))
      pss_nil)
    (pss_cons (ps_if (pt_cmpR op_eq (pv 5) pe_int (nomark _))
      (pss_one (ps_ret (pe_tup (pa_cons (pv 2) (pa_cons (pe_op op_catA (pv 3) (pe_op (op_tmsK (K := K) rfl) (pe_tup (pa_cons pe_int pa_nil)) (call_ C__law_draw (hr.mono (by decide)) (by rfl) (pa_cons (pv 0) (pa_cons pe_int pa_nil))))) (pa_cons (pv 4) pa_nil))))))
      pss_nil)
    (pss_cons (ps_if (pt_cmpR op_eq (pv 5) pe_int (nomark _))
      (pss_one (ps_ret (pe_tup (pa_cons (pv 2) (pa_cons (pe_op op_catA (pe_slice sl_tupA (pv 3) po_none (po_some (pe_un un_neg pe_int))) (pe_tup (pa_cons (call_ C__law_signed (hr.mono (by decide)) (by rfl) (pa_cons (pv 0) (pa_cons pe_int pa_nil))) pa_nil))) (pa_cons (pv 4) pa_nil))))))
      pss_nil)
    (pss_cons (ps_if (pt_cmpR op_eq (pv 5) pe_int (nomark _))
      (pss_one (ps_ret (pe_tup (pa_cons (pe_callTy call_tuple_of (by rfl) m_tuple (by decide +kernel) (pa_cons (pe_lc (own := [("c", 7)]) (g := gName 7) (by rfl) sc.nd (pi_tup (pv 2)) (blkOk_by (own := [("c", 7)]) (N := ["m", "amount", "form", "ts", "whole", "word", "times", "c", "t"]) (sc := defScope s_beside) (by decide +kernel)) (fun _ _ _ _ _ => pg_name (i := 7) sc.nd rfl (Or.inl rfl)) (fun _ _ _ _ _ => pts_nil) (fun _ _ _ _ _ => (pe_op op_mulW (pv 6) (pv 7)))) pa_nil)) (pa_cons (pv 3) (pa_cons (pe_op op_mulW (pv 6) (pv 4)) pa_nil))))))
      pss_nil)
    (pss_one (ps_ret (pe_tup (pa_cons (pe_op op_catA (pe_tup (pa_cons (pe_op op_add (pe_ix ix_tup (pv 2) pe_int (fun _ _ => rfl)) (call_ C__law_signed (hr.mono (by decide)) (by rfl) (pa_cons (pv 0) (pa_cons pe_int pa_nil)))) pa_nil)) (pe_slice sl_tupA (pv 2) (po_some pe_int) po_none)) (pa_cons (pv 3) (pa_cons (pv 4) pa_nil)))))))))))), ?_⟩
    have fl := z.fl
    have tl := z.tl
    have d0 := z.d0
    have d1 := z.d1
    obtain ⟨kv0, hm0⟩ := hM.m_some
    refine ⟨.ref a, rfl, a, _, rfl, h1.t, rfl, .ref pf, [.ref pt, .int D], rfl, .ref pt, [.int D], rfl, .int D, [], rfl, rfl, ?_⟩
    refine ⟨.ref m, rfl, m, c, q, 5, rfl, hM, by omega, by decide, by decide, fun H1 wd b1 M1 w0 w1 => ?_⟩
    refine ⟨.ref m, rfl, m, c, q + 1, 4, rfl, M1, by omega, by decide, by decide, fun H2 u b2 M2 u0 u1 => ⟨1, u, rfl, rfl, by show 2 ≤ sizeLine; decide, fun p0 np0 => ⟨p0, [.int wd, .int (1 + u)], rfl, SqT.of upd_same, rfl, .int wd, [.int (1 + u)], rfl, .int (1 + u), [], rfl, rfl, ?_⟩⟩⟩
    have s3 : Same H2 (upd H2 p0 (.tup [.int wd, .int (1 + u)])) := same_new np0
    generalize upd H2 p0 (.tup [.int wd, .int (1 + u)]) = H3 at s3 ⊢
    have M3 := M2.same s3
    have b3 := (b1.trans b2).trans (SameBut.of s3)
    have h2 := h2.but hm0 b3
    have h3 := h3.but hm0 b3
    obtain ⟨kv3, hm3⟩ := M3.m_some
    obtain ⟨t, ht⟩ : ∃ t : Int, t = 1 + u := ⟨_, rfl⟩
    rw [← ht]
    have t0 : 1 ≤ t ∧ t ≤ 4 := by omega
    clear ht u0 u1 b1 b2 s3 M1 M2 hM h1
    have zt : SmZ 3 t := Nat.lt_of_le_of_lt (show t.natAbs ≤ 4 by omega) (by decide)
    have zD : SmZ 4 D := Nat.lt_of_le_of_lt (show D.natAbs ≤ 12 by omega) (by decide)
    have tD : 1 ≤ t * D ∧ t * D ≤ 10000 := by
      have e1 : 1 * D ≤ t * D := Int.mul_le_mul_of_nonneg_right t0.1 (by omega)
      have e2 : t * D ≤ 4 * D := Int.mul_le_mul_of_nonneg_right t0.2 (by omega)
      omega
    have mf : ∀ x ∈ f.map (t * ·), SmZ 100 x := fun x hx => smz_mono (map_sm zt z.fz x hx) (by decide)
    have mt : ∀ x ∈ ts.map (t * ·), SmZ 100 x := fun x hx => smz_mono (map_sm zt z.tz x hx) (by decide)
    have r300 : ∀ {x : Int}, SmZ 100 x → SmZ 300 x := fun h => smz_mono h (by decide)
    refine ⟨.int wd, rfl, rfl, _, rfl, ite2 (fun _ => ?_) (fun _ => ?_)⟩
    · -- both times
      refine ⟨.ref pf, rfl, pf, rfl, ⟨_, h2.1.t⟩, fun D1 nD1 => ?_⟩
      refine lc_to (walk_tup (K := K) (a := pf) (xs := f.map V.int)) ((f.map (t * ·)).map V.int) (by rw [List.length_map, List.length_map, List.length_map]) (by rw [List.length_map]; exact small (by omega)) nD1 (fun H' s => (h2.1.same s).t) ?_ ?_
      · rintro i x y H0 H0' Qy hy hi s0 ⟨rfl, hx⟩ hq
        obtain ⟨z0, hz, rfl⟩ := map_get hy
        obtain ⟨p, hp, rfl⟩ := map_get hz
        obtain ⟨p', hp', rfl⟩ := map_get hx
        obtain rfl := Option.some.inj (hp.symm.trans hp')
        exact ⟨rfl, .int t, rfl, .int p, rfl, t, p, rfl, rfl, mulW (by decide) (by decide) zt (z.fz p (List.mem_of_getElem? hp)) (by decide), hq _ (Same.refl _)⟩
      intro J1 s1 d1
      refine ⟨D1, _, rfl, .inl ⟨SqL.of d1, fun T1 nT1 => ?_⟩⟩
      have u1 : Same J1 (upd J1 T1 (.tup ((f.map (t * ·)).map V.int))) := same_new nT1
      have g1 : Tp (upd J1 T1 (.tup ((f.map (t * ·)).map V.int))) T1 ((f.map (t * ·)).map V.int) := upd_same
      generalize upd J1 T1 (.tup ((f.map (t * ·)).map V.int)) = J2 at u1 g1 ⊢
      have h3a := (h3.same s1).same u1
      refine ⟨.ref pt, rfl, pt, rfl, ⟨_, h3a.1.t⟩, fun D2 nD2 => ?_⟩
      refine lc_to (walk_tup (K := K) (a := pt) (xs := ts.map V.int)) ((ts.map (t * ·)).map V.int) (by rw [List.length_map, List.length_map, List.length_map]) (by rw [List.length_map]; exact small (by omega)) nD2 (fun H' s => (h3a.1.same s).t) ?_ ?_
      · rintro i x y H0 H0' Qy hy hi s0 ⟨rfl, hx⟩ hq
        obtain ⟨z0, hz, rfl⟩ := map_get hy
        obtain ⟨p, hp, rfl⟩ := map_get hz
        obtain ⟨p', hp', rfl⟩ := map_get hx
        obtain rfl := Option.some.inj (hp.symm.trans hp')
        exact ⟨rfl, .int t, rfl, .int p, rfl, t, p, rfl, rfl, mulW (by decide) (by decide) zt (z.tz p (List.mem_of_getElem? hp)) (by decide), hq _ (Same.refl _)⟩
      intro J3 s2 d2
      refine ⟨D2, _, rfl, .inl ⟨SqL.of d2, fun T2 nT2 => ?_⟩⟩
      have u2 : Same J3 (upd J3 T2 (.tup ((ts.map (t * ·)).map V.int))) := same_new nT2
      have g2 : Tp (upd J3 T2 (.tup ((ts.map (t * ·)).map V.int))) T2 ((ts.map (t * ·)).map V.int) := upd_same
      generalize upd J3 T2 (.tup ((ts.map (t * ·)).map V.int)) = J4 at u2 g2 ⊢
      refine ⟨.int t, rfl, .int D, rfl, t, D, rfl, rfl, mulW (by decide) (by decide) zt zD (by decide), by show 3 ≤ sizeLine; decide, fun p np => ?_⟩
      have s9 := same_new (o := .tup [.ref T1, .ref T2, .int (t * D)]) np
      have sA := ((s1.trans u1).trans s2).trans (u2.trans s9)
      refine k _ p (f.map (t * ·)) (ts.map (t * ·)) (t * D) (b3.trans (SameBut.of sA)) ((M3.same sA).mono (by omega)) ⟨T1, T2, upd_same, ⟨((g1.same s2).same u2).same s9, by rw [List.length_map]; omega, fun x hx => r300 (mf x hx)⟩, ⟨g2.same s9, by rw [List.length_map]; omega, fun x hx => r300 (mt x hx)⟩⟩ (List.length_map ..) ⟨by simpa using z.ne, by rw [List.length_map]; omega, by rw [List.length_map]; omega, mf, mt, tD.1, tD.2⟩
    refine ⟨.int wd, rfl, rfl, _, rfl, ite2 (fun _ => ?_) (fun _ => ?_)⟩
    · -- zeros behind
      refine ⟨.ref pf, rfl, .ref pt, rfl, by show 1 ≤ sizeLine; decide, fun p1 np1 => ?_⟩
      have s4 : Same H3 (upd H3 p1 (.tup [.int 0])) := same_new np1
      have g4 : Tp (upd H3 p1 (.tup [.int 0])) p1 [.int 0] := upd_same
      generalize upd H3 p1 (.tup [.int 0]) = H4 at s4 g4 ⊢
      have M4 := M3.same s4
      obtain ⟨kv4, hm4⟩ := M4.m_some
      refine ⟨.ref m, rfl, m, c, q + 2, 3, rfl, M4, by omega, by decide, by decide, fun H5 x b5 M5 x0 x1 => ?_⟩
      obtain ⟨n, rfl⟩ : ∃ n : Nat, x = n := ⟨x.toNat, by omega⟩
      have b35 : SameBut m H3 H5 := (SameBut.of s4).trans b5
      refine tms_tp (k := n) rfl (g4.but hm4 b5) (by simp) (by omega) (by decide) fun r6 H6 s6 g6 => ?_
      have e6 : (List.replicate n [V.int 0]).flatten = (List.replicate n (0 : Int)).map V.int := by
        rw [flat1, List.map_replicate]
      rw [e6] at g6
      have h3b := (h3.but hm3 b35).same s6
      have h2b := (h2.but hm3 b35).same s6
      refine cat_tp h3b.1 g6 (by rw [List.length_map, List.length_map, List.length_replicate]; exact Nat.le_of_lt (small (by omega))) fun r7 H7 s7 g7 => ?_
      rw [← List.map_append] at g7
      refine ⟨.int D, rfl, by show 3 ≤ sizeLine; decide, fun p np => ?_⟩
      have s8 := same_new (o := .tup [.ref pf, .ref r7, .int D]) np
      have zt' : ∀ x ∈ ts ++ List.replicate n 0, SmZ 100 x := fun x hx => by
        rcases List.mem_append.mp hx with h | h
        · exact smz_mono (z.tz x h) (by decide)
        · rw [(List.mem_replicate.mp h).2]
          decide
      have lt' : (ts ++ List.replicate n (0 : Int)).length ≤ 20 := by
        rw [List.length_append, List.length_replicate]
        omega
      refine k _ p f (ts ++ List.replicate n 0) D (b3.trans (b35.trans (SameBut.of ((s6.trans s7).trans s8)))) ((((M5.same s6).same s7).same s8).mono (by omega)) ⟨pf, r7, upd_same, (h2b.same s7).same s8, ⟨g7.same s8, by omega, fun x hx => r300 (zt' x hx)⟩⟩ rfl ⟨z.ne, by omega, lt', fun x hx => smz_mono (z.fz x hx) (by decide), zt', by omega, by omega⟩
    refine ⟨.int wd, rfl, rfl, _, rfl, ite2 (fun _ => ?_) (fun _ => ?_)⟩
    · -- another last one
      refine ⟨.ref pf, rfl, .ref pt, rfl, ?_⟩
      unfold tNoPart tPart
      refine ⟨1, rfl, -1, rfl, ?_⟩
      refine slice_tp h3.1 fun r4 H4 s4 g4 => ?_
      rw [cut_last, ← List.map_dropLast] at g4
      have M4 := M3.same s4
      obtain ⟨kv4, hm4⟩ := M4.m_some
      refine ⟨.ref m, rfl, m, c, q + 2, 3, rfl, M4, by omega, by decide, by decide, fun H5 x b5 M5 x0 x1 => ⟨by show 1 ≤ sizeLine; decide, fun p1 np1 => ?_⟩⟩
      have s6 : Same H5 (upd H5 p1 (.tup [.int x])) := same_new np1
      have g6 : Tp (upd H5 p1 (.tup [.int x])) p1 ([x].map V.int) := upd_same
      generalize upd H5 p1 (.tup [.int x]) = H6 at s6 g6 ⊢
      have b46 := b5.trans (SameBut.of s6)
      have g4 := g4.but hm4 b46
      have ld : ts.dropLast.length ≤ 5 := by
        rw [List.length_dropLast]
        omega
      refine cat_tp g4 g6 (by rw [List.length_map, List.length_map]; exact Nat.le_of_lt (small (by show _ + 1 ≤ 100; omega))) fun r7 H7 s7 g7 => ?_
      rw [← List.map_append] at g7
      refine ⟨.int D, rfl, by show 3 ≤ sizeLine; decide, fun p np => ?_⟩
      have s8 := same_new (o := .tup [.ref pf, .ref r7, .int D]) np
      have b37 : SameBut m H3 H7 := ((SameBut.of s4).trans b46).trans (SameBut.of s7)
      have h2b := h2.but hm3 b37
      have zt' : ∀ y ∈ ts.dropLast ++ [x], SmZ 100 y := fun y hy => by
        rcases List.mem_append.mp hy with h | h
        · exact smz_mono (z.tz y (List.dropLast_subset _ h)) (by decide)
        · rw [List.mem_singleton] at h
          subst h
          exact Nat.lt_of_le_of_lt (show y.natAbs ≤ 3 by omega) (by decide)
      have lt' : (ts.dropLast ++ [x]).length ≤ 20 := by
        rw [List.length_append]
        show _ + 1 ≤ 20
        omega
      refine k _ p f (ts.dropLast ++ [x]) D (b3.trans (b37.trans (SameBut.of s8))) ((((M5.same s6).same s7).same s8).mono (by omega)) ⟨pf, r7, upd_same, h2b.same s8, ⟨g7.same s8, by omega, fun x hx => r300 (zt' x hx)⟩⟩ rfl ⟨z.ne, by omega, lt', fun x hx => smz_mono (z.fz x hx) (by decide), zt', by omega, by omega⟩
    refine ⟨.int wd, rfl, rfl, _, rfl, ite2 (fun _ => ?_) (fun _ => ?_)⟩
    · -- the form times
      refine ⟨.ref pf, rfl, pf, rfl, ⟨_, h2.1.t⟩, fun D1 nD1 => ?_⟩
      refine lc_to (walk_tup (K := K) (a := pf) (xs := f.map V.int)) ((f.map (t * ·)).map V.int) (by rw [List.length_map, List.length_map, List.length_map]) (by rw [List.length_map]; exact small (by omega)) nD1 (fun H' s => (h2.1.same s).t) ?_ ?_
      · rintro i x y H0 H0' Qy hy hi s0 ⟨rfl, hx⟩ hq
        obtain ⟨z0, hz, rfl⟩ := map_get hy
        obtain ⟨p, hp, rfl⟩ := map_get hz
        obtain ⟨p', hp', rfl⟩ := map_get hx
        obtain rfl := Option.some.inj (hp.symm.trans hp')
        exact ⟨rfl, .int t, rfl, .int p, rfl, t, p, rfl, rfl, mulW (by decide) (by decide) zt (z.fz p (List.mem_of_getElem? hp)) (by decide), hq _ (Same.refl _)⟩
      intro J1 s1 d1
      refine ⟨D1, _, rfl, .inl ⟨SqL.of d1, fun T1 nT1 => ?_⟩⟩
      have u1 : Same J1 (upd J1 T1 (.tup ((f.map (t * ·)).map V.int))) := same_new nT1
      have g1 : Tp (upd J1 T1 (.tup ((f.map (t * ·)).map V.int))) T1 ((f.map (t * ·)).map V.int) := upd_same
      generalize upd J1 T1 (.tup ((f.map (t * ·)).map V.int)) = J2 at u1 g1 ⊢
      refine ⟨.ref pt, rfl, .int t, rfl, .int D, rfl, t, D, rfl, rfl, mulW (by decide) (by decide) zt zD (by decide), by show 3 ≤ sizeLine; decide, fun p np => ?_⟩
      have s9 := same_new (o := .tup [.ref T1, .ref pt, .int (t * D)]) np
      have sA := (s1.trans u1).trans s9
      refine k _ p (f.map (t * ·)) ts (t * D) (b3.trans (SameBut.of sA)) ((M3.same sA).mono (by omega)) ⟨T1, pt, upd_same, ⟨g1.same s9, by rw [List.length_map]; omega, fun x hx => r300 (mf x hx)⟩, h3.same sA⟩ (List.length_map ..) ⟨by simpa using z.ne, by rw [List.length_map]; omega, by omega, mf, fun x hx => smz_mono (z.tz x hx) (by decide), tD.1, tD.2⟩
    · -- another constant
      obtain ⟨c0, xs, rfl⟩ : ∃ c0 xs, f = c0 :: xs := by
        cases f with
        | nil => exact absurd rfl z.ne
        | cons c xs => exact ⟨c, xs, rfl⟩
      refine ⟨.ref pf, rfl, pf, _, 0, .int c0, rfl, rfl, h2.1.t, atI_nat (j := 0) rfl, .ref m, rfl, m, c, q + 2, 2, rfl, M3, by omega, by decide, by decide, fun H4 x b4 M4 x0 x1 => ⟨c0, x, rfl, rfl, by show 1 ≤ sizeLine; decide, fun p1 np1 => ?_⟩⟩
      have s5 : Same H4 (upd H4 p1 (.tup [.int (c0 + x)])) := same_new np1
      have g5 : Tp (upd H4 p1 (.tup [.int (c0 + x)])) p1 [.int (c0 + x)] := upd_same
      generalize upd H4 p1 (.tup [.int (c0 + x)]) = H5 at s5 g5 ⊢
      have b35 := b4.trans (SameBut.of s5)
      have h2b := h2.but hm3 b35
      refine ⟨.ref pf, rfl, 1, rfl, ?_⟩
      unfold tNoPart
      refine slice_tp h2b.1 fun r6 H6 s6 g6 => ?_
      have e6 : cutV (List.map V.int (c0 :: xs)) (some 1) none = xs.map V.int := cut1
      rw [e6] at g6
      rw [List.length_cons] at fl
      refine cat_tp (g5.same s6) g6 (by rw [List.length_map]; exact Nat.le_of_lt (small (by show 1 + _ ≤ 100; omega))) fun r7 H7 s7 g7 => ?_
      replace g7 : Tp H7 r7 (((c0 + x) :: xs).map V.int) := g7
      refine ⟨.ref pt, rfl, .int D, rfl, by show 3 ≤ sizeLine; decide, fun p np => ?_⟩
      have s8 := same_new (o := .tup [.ref r7, .ref pt, .int D]) np
      have sA := (s6.trans s7).trans s8
      have zx : SmZ 31 x := Nat.lt_of_le_of_lt (show x.natAbs ≤ 2 by omega) (by decide)
      have zf' : ∀ y ∈ (c0 + x) :: xs, SmZ 100 y := fun y hy => by
        rcases List.mem_cons.mp hy with rfl | h
        · exact smz_mono (smz_add (z.fz c0 (List.mem_cons_self ..)) zx) (by decide)
        · exact smz_mono (z.fz y (List.mem_cons_of_mem _ h)) (by decide)
      refine k _ p ((c0 + x) :: xs) ts D (b3.trans (b35.trans (SameBut.of sA))) ((((M4.same s5).same (s6.trans s7)).same s8).mono (by omega)) ⟨r7, pt, upd_same, ⟨g7.same s8, by rw [List.length_cons]; omega, fun x hx => r300 (zf' x hx)⟩, (h3.but hm3 b35).same sA⟩ rfl ⟨by simp, by rw [List.length_cons]; omega, by omega, zf', fun x hx => smz_mono (z.tz x hx) (by decide), by omega, by omega⟩
end
end K17
namespace K17
open PySem PySem.Spec PyProof.Rows L2 Vk
abbrev s_told : Stmt := topS 37
theorem sc_told : FnScope ["amount", "many", "some", "side", "less_so", "more", "due", "form", "ts", "whole", "t"] ["amount", "many"] (defScope s_told) := ⟨rfl, rfl, rfl, by decide +kernel, rfl, by decide +kernel, by decide +kernel⟩
theorem range_get (xs : List Int) : (List.range xs.length).map (fun i => xs.getD i 0) = xs := by
  refine List.ext_getElem (by rw [List.length_map, List.length_range]) fun i h1 h2 => ?_
  rw [List.getElem_map, List.getElem_range, List.getD_eq_getElem?_getD, List.getElem?_eq_getElem h2]
  rfl
theorem range_filter (p : Int → Bool) (xs : List Int) : ((List.range xs.length).filter fun i => p (xs.getD i 0)).map (fun i => xs.getD i 0) = xs.filter p := by
  have h := List.filter_map (f := fun i => xs.getD i 0) (p := p) (l := List.range xs.length)
  rw [range_get] at h
  exact h.symm
/-- the first entry that is not 0 -/
theorem lex_first : ∀ xs : List Int, sg ((xs.filter fun x => decide (x ≠ 0)).headD 0) = lexS xs
  | [] => rfl
  | x :: r => by
    show _ = if x ≠ 0 then sg x else lexS r
    by_cases h : x ≠ 0
    · rw [if_pos h, List.filter_cons_of_pos (by simpa using h)]
      rfl
    · rw [if_neg h, List.filter_cons_of_neg (by simpa using h)]
      exact lex_first r
theorem sg_iff {s l : Int} (h : sg s = l) : (0 < s ↔ 0 < l) ∧ (s < 0 ↔ l < 0) := by
  subst h
  rcases Int.lt_trichotomy s 0 with h | h | h
  · rw [sg_neg h]
    omega
  · subst h
    rw [sg_zero]
    omega
  · rw [sg_pos h]
    omega
theorem fit_row {k : Nat} {H : Hp} {a : Addr} {xs : List Int} (h : Row H a xs) : FitN (k + 1) 100 (dRow xs) := fit_ints 100 xs h.2.2 h.2.1
theorem fit_two {k n m : Nat} {a b : PyData} (x : FitN k n a) (y : FitN k m b) : FitN (k + 1) (n + m + 2) (.tuple [a, b]) := .tup (.cons x (.cons (n := m + 1) (b := 0) y .nil (by omega)) (by omega))
def spTold : Sp := fun vs H Q _ => ∃ (a : Addr) (x : V) (f ts : List Int) (D : Int), vs = [.ref a, x] ∧ Am H a f ts D ∧ Sml 100 f ts D ∧ ∀ H', Same H H' → Q (.bl true) H'
section
variable {P : Program} {w : World} {K : PySem.W.Frag} {mg : Str → Option Value} {base : Heap}
theorem ok_told {fa : Addr} {fd : FuncData} (F : Fun K "_law_told_right" "_law_told_right" s_told fa fd) (C_above_row : Cal P w K mg base 3 "above_row" ["amount"] spAbove) (C_round_up : Cal P w K mg base 3 "round_up" ["amount"] spUp) (C_round_down : Cal P w K mg base 3 "round_down" ["amount"] spDown) (C__law_like : CalG P w K mg base 1 "_law_like" ["got", "due"] (spLike K)) (m_int : mg "int" = none) : FnG P w K mg base 4 fa fd ["amount", "many"] spTold := by
  have sc := sc_told
  refine okG F sc (fun vs H Q E h => ?_) (fun cdv A outer s H vs Q E hG0 hr h => ?_)
  · obtain ⟨a, x, f, ts, D, rfl, _⟩ := h
    rfl
  · obtain ⟨a, x, f, ts, D, rfl, hA, z, q⟩ := h
    have hG : Quiet (cxOf CX0 P w K mg base ["amount", "many", "some", "side", "less_so", "more", "due", "form", "ts", "whole", "t"] "_law_told_right" (defScope s_told) fa cdv A outer s H E).nox.A := hG0.deeper _
    refine ⟨_, (pss_cons (ps_asg (pv 0) (pg_tup (n := 3) (by rfl) (pgs_cons (pg_name (i := 7) sc.nd rfl (Or.inl rfl)) (pgs_cons (pg_name (i := 8) sc.nd rfl (Or.inl rfl)) (pgs_cons (pg_name (i := 9) sc.nd rfl (Or.inl rfl)) pgs_nil)))))
    (pss_cons (ps_setLc (i := 2) (own := [("t", 10)]) (g := gName 10) (by rfl) sc.nd rfl rfl (sw_true rfl rfl rfl (by decide +kernel)) (pi_tup (pv 8)) (blkOk_by (own := [("t", 10)]) (N := ["amount", "many", "some", "side", "less_so", "more", "due", "form", "ts", "whole", "t"]) (sc := defScope s_told) (by decide +kernel)) (fun _ _ _ _ _ => pg_name (i := 10) sc.nd rfl (Or.inl rfl)) (fun _ _ _ _ _ => (pts_one (pt_cmpR op_ne (pv 10) pe_int (nomark _)))) (fun _ _ _ _ _ => (pv 10)))
    (pss_cons (ps_set (i := 3) sc.nd rfl (Or.inl rfl) (pe_ifExp (pt_cmpR (op_eqD hr.units) (pv 2) (pe_lst pa_nil) (nomark _)) pe_int (pe_ix ix_list (pv 2) pe_int (fun _ _ => rfl))))
    (pss_cons (ps_set (i := 4) sc.nd rfl (Or.inl rfl) (pe_op op_catA (pe_tup (pa_cons (pe_op op_sub (pe_ix ix_tup (pv 7) pe_int (fun _ _ => rfl)) pe_int) pa_nil)) (pe_slice sl_tupA (pv 7) (po_some pe_int) po_none)))
    (pss_cons (ps_set (i := 5) sc.nd rfl (Or.inl rfl) (pe_ifExp (pt_cmpR op_gt (pv 3) pe_int (nomark _)) (pv 7) (pe_op op_catA (pe_tup (pa_cons (pe_op op_sub (pe_op op_add (pe_ix ix_tup (pv 7) pe_int (fun _ _ => rfl)) (pv 9)) pe_int) pa_nil)) (pe_slice sl_tupA (pv 7) (po_some pe_int) po_none))))
    (pss_cons (ps_set (i := 6) sc.nd rfl (Or.inl rfl) (pe_lst (pa_cons (pe_ifExp (pt_cmpR op_gt (pv 3) pe_int (nomark _)) (pv 7) (pv 4)) (pa_cons (pe_tup (pa_cons (pe_tup (pa_cons (pv 9) (pa_cons (pv 5) pa_nil))) (pa_cons (pe_callTy call_int1 (by rfl) m_int (by decide +kernel) (pa_cons (pe_cmpR op_gt (pv 3) pe_int (nomark _)) pa_nil)) pa_nil))) pa_nil))))
    (pss_cons (ps_expr (pe_bm PySem.F.plainAttrs_list PySem.F.slot_list_append PySem.F.type_list_append mt_append (pv 6) (pa_cons (pe_tup (pa_cons (pe_tup (pa_cons (pv 9) (pa_cons (pe_ifExp (pt_cmpR op_lt (pv 3) pe_int (nomark _)) (pv 4) (pv 7)) pa_nil))) (pa_cons pe_int pa_nil))) pa_nil)))
    (pss_one (ps_ret (callG hG C__law_like (hr.mono (by decide)) (by rfl) (pa_cons (pe_lst (pa_cons (call_ C_above_row (hr.mono (by decide)) (by rfl) (pa_cons (pv 0) pa_nil)) (pa_cons (call_ C_round_up (hr.mono (by decide)) (by rfl) (pa_cons (pv 0) pa_nil)) (pa_cons (call_ C_round_down (hr.mono (by decide)) (by rfl) (pa_cons (pv 0) pa_nil)) pa_nil)))) (pa_cons (pv 6) pa_nil)))))))))))), ?_⟩
    have hA0 := hA
    obtain ⟨pf, pt, h1, h2, h3⟩ := hA
    have fl := z.fl
    have tl := z.tl
    have d0 := z.d0
    have d1 := z.d1
    refine ⟨.ref a, rfl, a, _, rfl, h1.t, rfl, .ref pf, [.ref pt, .int D], rfl, .ref pt, [.int D], rfl, .int D, [], rfl, rfl, ?_⟩
    refine ⟨.ref pt, rfl, pt, rfl, ⟨_, h3.1.t⟩, fun E1 nE1 => ?_⟩
    refine lc_fl (walk_tup (K := K) (a := pt) (xs := ts.map V.int)) (fun i => decide (ts.getD i 0 ≠ 0)) (fun i => .int (ts.getD i 0)) (by rw [List.length_map]; exact small (by omega)) nE1 (fun H' s => (h3.1.same s).t) ?_ ?_
    · rintro j x H6 H6' Qy Nx hj s6 ⟨rfl, hx⟩ hk hnk
      obtain ⟨y, hy, rfl⟩ := map_get hx
      have ey : ts.getD j 0 = y := by
        rw [List.getD_eq_getElem?_getD, hy]
        rfl
      rw [ey] at hk hnk
      refine ⟨rfl, .int y, rfl, rfl, _, rfl, ite2 (fun h => ?_) (fun h => ?_)⟩
      · refine ⟨.int y, rfl, hk (decide_eq_true (fun z => ?_)) _ (Same.refl _)⟩
        rw [z] at h
        exact absurd h (by decide)
      · refine hnk (decide_eq_false (fun z => h ?_)) _ (Same.refl _)
        rw [decide_eq_false (fun e => z (V.int.inj e))]
        rfl
    intro H1 s1 g1
    have e1 : ((List.range (ts.map V.int).length).filter fun i => decide (ts.getD i 0 ≠ 0)).map (fun i => V.int (ts.getD i 0)) = (ts.filter fun x => decide (x ≠ 0)).map V.int := by
      rw [← range_filter, List.map_map, List.length_map]
      rfl
    rw [e1] at g1
    have hside := lex_first ts
    generalize ts.filter (fun x => decide (x ≠ 0)) = L at g1 hside
    refine ⟨.ref E1, rfl, by show 0 ≤ sizeLine; decide, fun Z nZ => ?_⟩
    have s2 : Same H1 (upd H1 Z (.lst [])) := same_new nZ
    have g2 : upd H1 Z (.lst []) Z = some (.lst []) := upd_same
    have g1 := s2 _ _ g1
    generalize upd H1 Z (.lst []) = H2 at s2 g2 g1 ⊢
    refine ⟨.list (L.map PyData.int), .list [], .lst (SqL.of g1) (dp_ints _), .lst (SqL.of g2) .nil, shaped_ints _, shaped_ints [], _, rfl, ?_⟩
    refine tif_both (fun v => ∃ s : Int, v = .int s ∧ sg s = lexS ts) ?_ ?_ ?_
    rotate_left
    · intro hc hQ
      cases L with
      | nil => exact hQ _ ⟨0, rfl, hside⟩
      | cons y r =>
        have : PyData.eqv (.list ((y :: r).map PyData.int)) (.list []) = false := rfl
        rw [this] at hc
        cases hc
    · intro hc hQ
      cases L with
      | nil => exact absurd hc (by decide)
      | cons y r => exact ⟨.ref E1, rfl, E1, _, 0, .int y, rfl, rfl, SqL.of g1, atI_nat (j := 0) rfl, hQ _ ⟨y, rfl, hside⟩⟩
    rintro _ ⟨sd, rfl, hs⟩
    obtain ⟨ip, im⟩ := sg_iff hs
    clear hside hs g1 g2
    obtain ⟨c0, xs, rfl⟩ : ∃ c0 xs, f = c0 :: xs := by
      cases f with
      | nil => exact absurd rfl z.ne
      | cons c xs => exact ⟨c, xs, rfl⟩
    have s02 := s1.trans s2
    have hA2 := hA0.same s02
    have h2 := h2.same s02
    have zc := z.fz c0 (List.mem_cons_self ..)
    have zr : ∀ x ∈ xs, SmZ 300 x := fun x hx => smz_mono (z.fz x (List.mem_cons_of_mem _ hx)) (by decide)
    rw [List.length_cons] at fl
    have e6 : cutV (List.map V.int (c0 :: xs)) (some 1) none = xs.map V.int := cut1
    have mk : ∀ n : Int, SmZ 110 n → ∀ y ∈ plusF (c0 :: xs) n, SmZ 300 y := fun n hn y hy => by
      rcases List.mem_cons.mp hy with rfl | h
      · exact smz_mono (smz_add (smz_mono zc (by decide)) hn) (by decide)
      · exact zr y h
    refine ⟨.ref pf, rfl, pf, _, 0, .int c0, rfl, rfl, h2.1.t, atI_nat (j := 0) rfl, c0, 1, rfl, rfl, by show 1 ≤ sizeLine; decide, fun p1 np1 => ?_⟩
    have s3 : Same H2 (upd H2 p1 (.tup [.int (c0 - 1)])) := same_new np1
    have g3 : Tp (upd H2 p1 (.tup [.int (c0 - 1)])) p1 [.int (c0 - 1)] := upd_same
    generalize upd H2 p1 (.tup [.int (c0 - 1)]) = H3 at s3 g3 ⊢
    refine ⟨.ref pf, rfl, 1, rfl, ?_⟩
    unfold tNoPart
    refine slice_tp (h2.1.same s3) fun r4 H4 s4 g4 => ?_
    rw [e6] at g4
    refine cat_tp (g3.same s4) g4 (by rw [List.length_map]; exact Nat.le_of_lt (small (by show 1 + _ ≤ 100; omega))) fun pl H5 s5 g5 => ?_
    have eL : c0 - 1 = c0 + -1 := by omega
    rw [eL] at g5
    have hl5 : Row H5 pl (plusF (c0 :: xs) (-1)) := ⟨g5, by show xs.length + 1 ≤ 100; omega, mk _ (by decide)⟩
    have s25 := (s3.trans s4).trans s5
    have hA5 := hA2.same s25
    have h5 := h2.same s25
    have s05 := s02.trans s25
    clear g3 g4 g5 h2
    refine ⟨.int sd, rfl, sd, 0, rfl, rfl, _, rfl, ?_⟩
    refine tif_bothH (fun v H6 => ∃ pm, v = .ref pm ∧ Same H5 H6 ∧ Row H6 pm (upF (c0 :: xs) ts D)) ?_ ?_ ?_
    rotate_left
    · intro hc hQ
      refine ⟨.ref pf, rfl, hQ _ _ ⟨pf, rfl, Same.refl _, ?_⟩⟩
      unfold upF
      rw [if_pos (ip.mp (of_decide_eq_true hc))]
      exact h5
    · intro hc hQ
      refine ⟨.ref pf, rfl, pf, _, 0, .int c0, rfl, rfl, h5.1.t, atI_nat (j := 0) rfl, .int D, rfl, c0, D, rfl, rfl, c0 + D, 1, rfl, rfl, by show 1 ≤ sizeLine; decide, fun p6 np6 => ?_⟩
      have s6 : Same H5 (upd H5 p6 (.tup [.int (c0 + D - 1)])) := same_new np6
      have g6 : Tp (upd H5 p6 (.tup [.int (c0 + D - 1)])) p6 [.int (c0 + D - 1)] := upd_same
      generalize upd H5 p6 (.tup [.int (c0 + D - 1)]) = H6 at s6 g6 ⊢
      refine ⟨.ref pf, rfl, 1, rfl, ?_⟩
      refine slice_tp (h5.1.same s6) fun r7 H7 s7 g7 => ?_
      rw [e6] at g7
      refine cat_tp (g6.same s7) g7 (by rw [List.length_map]; exact Nat.le_of_lt (small (by show 1 + _ ≤ 100; omega))) fun pm H8 s8 g8 => ?_
      have eL : c0 + D - 1 = c0 + (D - 1) := by omega
      rw [eL] at g8
      refine hQ _ _ ⟨pm, rfl, (s6.trans s7).trans s8, ?_⟩
      unfold upF
      rw [if_neg (fun h => of_decide_eq_false hc (ip.mpr h))]
      exact ⟨g8, by show xs.length + 1 ≤ 100; omega, mk _ (Nat.lt_of_le_of_lt (show (D - 1).natAbs ≤ 10000 by omega) (by decide))⟩
    rintro _ H6 ⟨pm, rfl, s6, hm6⟩
    have h6 := h5.same s6
    have hl6 := hl5.same s6
    have hA6 := hA5.same s6
    have s06 := s05.trans s6
    clear h5 hl5 hA5
    refine ⟨.int sd, rfl, sd, 0, rfl, rfl, _, rfl, ?_⟩
    refine tif_both (fun v => ∃ pa, v = .ref pa ∧ Row H6 pa (aboveF (c0 :: xs) ts)) ?_ ?_ ?_
    rotate_left
    · intro hc hQ
      refine ⟨.ref pf, rfl, hQ _ ⟨pf, rfl, ?_⟩⟩
      unfold aboveF
      rw [if_pos (ip.mp (of_decide_eq_true hc))]
      exact h6
    · intro hc hQ
      refine ⟨.ref pl, rfl, hQ _ ⟨pl, rfl, ?_⟩⟩
      unfold aboveF
      rw [if_neg (fun h => of_decide_eq_false hc (ip.mpr h))]
      exact hl6
    rintro _ ⟨pa, rfl, ha6⟩
    refine ⟨.int D, rfl, .ref pm, rfl, by show 2 ≤ sizeLine; decide, fun t1 n1 => ?_⟩
    have s7 : Same H6 (upd H6 t1 (.tup [.int D, .ref pm])) := same_new n1
    have g7 : Tp (upd H6 t1 (.tup [.int D, .ref pm])) t1 [.int D, .ref pm] := upd_same
    generalize upd H6 t1 (.tup [.int D, .ref pm]) = H7 at s7 g7 ⊢
    refine ⟨.int sd, rfl, sd, 0, rfl, rfl, .inr ⟨_, rfl, by show 2 ≤ sizeLine; decide, fun t2 n2 => ?_⟩⟩
    have ej : (if decide (0 < sd) = true then (1 : Int) else 0) = upJ ts := by
      unfold upJ
      by_cases h : 0 < sd
      · rw [if_pos (decide_eq_true h), if_pos (ip.mp h)]
      · rw [if_neg (by rw [decide_eq_false h]; decide), if_neg (fun e => h (ip.mpr e))]
    rw [ej]
    have s8 : Same H7 (upd H7 t2 (.tup [.ref t1, .int (upJ ts)])) := same_new n2
    have g8 : Tp (upd H7 t2 (.tup [.ref t1, .int (upJ ts)])) t2 [.ref t1, .int (upJ ts)] := upd_same
    generalize upd H7 t2 (.tup [.ref t1, .int (upJ ts)]) = H8 at s8 g8 ⊢
    refine ⟨by show 2 ≤ sizeLine; decide, fun L nL => ?_⟩
    have s9 : Same H8 (upd H8 L (.lst [.ref pa, .ref t2])) := same_new nL
    have g9 : upd H8 L (.lst [.ref pa, .ref t2]) L = some (.lst [.ref pa, .ref t2]) := upd_same
    generalize upd H8 L (.lst [.ref pa, .ref t2]) = H9 at s9 g9 ⊢
    have s69 := (s7.trans s8).trans s9
    have s08 := s06.trans (s7.trans s8)
    have nL0 := s08.free nL
    have h9 := h6.same s69
    have hl9 := hl6.same s69
    have ha9 := ha6.same s69
    have hm9 := hm6.same s69
    have g79 := g7.same (s8.trans s9)
    have g89 := g8.same s9
    have s09 := s06.trans s69
    have hA9 := hA6.same s69
    clear h6 hl6 ha6 hm6 hA6 g7 g8
    refine ⟨.ref L, rfl, .inl ⟨rfl, _, SqL.of g9⟩, .int D, rfl, .int sd, rfl, sd, 0, rfl, rfl, _, rfl, ?_⟩
    refine tif_both (fun v => ∃ pd, v = .ref pd ∧ Row H9 pd (downF (c0 :: xs) ts)) ?_ ?_ ?_
    rotate_left
    · intro hc hQ
      refine ⟨.ref pl, rfl, hQ _ ⟨pl, rfl, ?_⟩⟩
      unfold downF
      rw [if_pos (im.mp (of_decide_eq_true hc))]
      exact hl9
    · intro hc hQ
      refine ⟨.ref pf, rfl, hQ _ ⟨pf, rfl, ?_⟩⟩
      unfold downF
      rw [if_neg (fun h => of_decide_eq_false hc (im.mpr h))]
      exact h9
    rintro _ ⟨pd, rfl, hd9⟩
    refine ⟨by show 2 ≤ sizeLine; decide, fun t3 n3 => ?_⟩
    have s10 : Same H9 (upd H9 t3 (.tup [.int D, .ref pd])) := same_new n3
    have g10 : Tp (upd H9 t3 (.tup [.int D, .ref pd])) t3 [.int D, .ref pd] := upd_same
    generalize upd H9 t3 (.tup [.int D, .ref pd]) = H10 at s10 g10 ⊢
    refine ⟨by show 2 ≤ sizeLine; decide, fun t4 n4 => ?_⟩
    have s11 : Same H10 (upd H10 t4 (.tup [.ref t3, .int 0])) := same_new n4
    have g11 : Tp (upd H10 t4 (.tup [.ref t3, .int 0])) t4 [.ref t3, .int 0] := upd_same
    generalize upd H10 t4 (.tup [.ref t3, .int 0]) = H11 at s11 g11 ⊢
    have s911 := s10.trans s11
    have gL11 := s911 _ _ g9
    refine ⟨L, _, _, rfl, rfl, gL11, small (by show 2 ≤ 100; decide), ?_⟩
    have gL12 : upd H11 L (.lst ([.ref pa, .ref t2] ++ [.ref t4])) L = some (.lst [.ref pa, .ref t2, .ref t4]) := upd_same
    have s012 := same_put (o := .lst ([.ref pa, .ref t2] ++ [.ref t4])) (s09.trans s911) nL0
    have row_put : ∀ {p : Addr} {r : List Int} {o : HO}, Row H11 p r → Row (upd H11 L o) p r := fun h => ⟨tp_put h.1 gL11, h.2⟩
    have ha12 := row_put (o := .lst ([.ref pa, .ref t2] ++ [.ref t4])) (ha9.same s911)
    have hm12 := row_put (o := .lst ([.ref pa, .ref t2] ++ [.ref t4])) (hm9.same s911)
    have hd12 := row_put (o := .lst ([.ref pa, .ref t2] ++ [.ref t4])) (hd9.same s911)
    have g112 := tp_put (o := .lst ([.ref pa, .ref t2] ++ [.ref t4])) (g79.same s911) gL11
    have g212 := tp_put (o := .lst ([.ref pa, .ref t2] ++ [.ref t4])) (g89.same s911) gL11
    have g312 := tp_put (o := .lst ([.ref pa, .ref t2] ++ [.ref t4])) (g10.same s11) gL11
    have g412 := tp_put (o := .lst ([.ref pa, .ref t2] ++ [.ref t4])) g11 gL11
    generalize upd H11 L (.lst ([.ref pa, .ref t2] ++ [.ref t4])) = H12 at gL12 s012 ha12 hm12 hd12 g112 g212 g312 g412 ⊢
    clear ha9 hm9 hd9 g79 g89 g10 g11 h9 hl9 row_put
    have hA12 := hA0.same s012
    refine ⟨.ref a, rfl, a, _, _, _, rfl, hA12, z, fun ra H13 s13 k13 => ?_⟩
    refine ⟨.ref a, rfl, a, _, _, _, rfl, hA12.same s13, z, fun ru qu pu H14 s14 k14 l14 m14 => ?_⟩
    refine ⟨.ref a, rfl, a, _, _, _, rfl, (hA12.same s13).same s14, z, fun rd qd pd' H15 s15 k15 l15 m15 => ?_⟩
    refine ⟨by show 3 ≤ sizeLine; decide, fun M nM => ?_⟩
    have s16 : Same H15 (upd H15 M (.lst [.ref ra, .ref ru, .ref rd])) := same_new nM
    have g16 : upd H15 M (.lst [.ref ra, .ref ru, .ref rd]) M = some (.lst [.ref ra, .ref ru, .ref rd]) := upd_same
    generalize upd H15 M (.lst [.ref ra, .ref ru, .ref rd]) = H16 at s16 g16 ⊢
    have s1216 := ((s13.trans s14).trans s15).trans s16
    have s1316 := (s14.trans s15).trans s16
    have s1416 := s15.trans s16
    refine ⟨.ref L, rfl, .ref M, .ref L, .list [dRow (aboveF (c0 :: xs) ts), .tuple [.tuple [.int D, dRow (upF (c0 :: xs) ts D)], .int (upJ ts)], .tuple [.tuple [.int D, dRow (downF (c0 :: xs) ts)], .int 0]], rfl, ?_, ?_, ?_, q _ (s012.trans s1216)⟩
    · exact .lst (SqL.of g16) (.cons (dp_row (k13.same s1316).1) (.cons (.tup (k14.same s1416).t (.cons (.tup (l14.same s1416).t (.cons (.int _) (.cons (dp_row (m14.same s1416).1) .nil))) (.cons (.int _) .nil))) (.cons (.tup (k15.same s16).t (.cons (.tup (l15.same s16).t (.cons (.int _) (.cons (dp_row (m15.same s16).1) .nil))) (.cons (.int _) .nil))) .nil)))
    · exact .lst (SqL.of (s1216 _ _ gL12)) (.cons (dp_row (ha12.same s1216).1) (.cons (.tup (g212.same s1216).t (.cons (.tup (g112.same s1216).t (.cons (.int _) (.cons (dp_row (hm12.same s1216).1) .nil))) (.cons (.int _) .nil))) (.cons (.tup (g412.same s1216).t (.cons (.tup (g312.same s1216).t (.cons (.int _) (.cons (dp_row (hd12.same s1216).1) .nil))) (.cons (.int _) .nil))) .nil)))
    · have iD : ∀ k, FitN k 0 (.int D) := fun k => FitN.int (Nat.lt_of_le_of_lt (show D.natAbs ≤ 10000 by omega) (by decide))
      have iJ : ∀ k, FitN k 0 (.int (upJ ts)) := fun k => FitN.int (Nat.lt_of_le_of_lt (show (upJ ts).natAbs ≤ 1 by unfold upJ; split <;> decide) (by decide))
      have x1 : FitN 3 104 (.tuple [.tuple [.int D, dRow (upF (c0 :: xs) ts D)], .int (upJ ts)]) := fit_two (k := 2) (n := 102) (m := 0) (fit_two (k := 1) (n := 0) (m := 100) (iD 1) (fit_row hm12)) (iJ 2)
      have x2 : FitN 3 104 (.tuple [.tuple [.int D, dRow (downF (c0 :: xs) ts)], .int 0]) := fit_two (k := 2) (n := 102) (m := 0) (fit_two (k := 1) (n := 0) (m := 100) (iD 1) (fit_row hd12)) (.int (by decide))
      have x0 : FitN 3 100 (dRow (aboveF (c0 :: xs) ts)) := fit_row ha12
      exact FitN.mono (.list (.cons (n := 400) x0 (.cons (n := 250) x1 (.cons (n := 105) (b := 0) x2 .nil (by decide)) (by decide)) (by decide))) (by decide) (by decide)
end
end K17
namespace K17
open PySem PySem.Spec PyProof.Rows L2 Vk
abbrev s_sums : Stmt := topS 38
theorem sc_sums : FnScope ["m", "one", "other", "p", "whole", "form", "near", "far", "ts", "n", "due", "a", "c", "count", "i", "x", "t"] ["m", "one", "other", "p"] (defScope s_sums) := ⟨rfl, rfl, rfl, by decide +kernel, rfl, by decide +kernel, by decide +kernel⟩
theorem pts_uniq {D1 D2 g n1 n2 L g' n1' n2' L' : Int} (h : Pts D1 D2 g n1 n2 L) (h' : Pts D1 D2 g' n1' n2' L') : n1' = n1 ∧ n2' = n2 ∧ L' = L := by
  have eg : g' = g := by rw [h'.eg, h.eg]
  subst eg
  have e1 : n1' = n1 := Int.eq_of_mul_eq_mul_left (Int.ne_of_gt h.g0) (by rw [← h.e2, ← h'.e2])
  have e2 : n2' = n2 := Int.eq_of_mul_eq_mul_left (Int.ne_of_gt h.g0) (by rw [← h.e1, ← h'.e1])
  refine ⟨e1, e2, ?_⟩
  rw [h'.eL, h.eL, e1, e2]
theorem pts_div {D1 D2 g n1 n2 L : Int} (h : Pts D1 D2 g n1 n2 L) : (D1 * D2).fdiv (Int.gcd D1 D2 : Int) = L ∧ L.fdiv D1 = n1 ∧ L.fdiv D2 = n2 := by
  have g0 := h.g0
  have p1 := h.p1
  have p2 := h.p2
  have q1 : 0 < g * n2 := Int.mul_pos g0 p2
  have q2 : 0 < g * n1 := Int.mul_pos g0 p1
  refine ⟨?_, ?_, ?_⟩
  · rw [← h.eg, Int.fdiv_eq_ediv_of_nonneg _ (by omega)]
    refine Int.ediv_eq_of_eq_mul_left (by omega) ?_
    rw [h.e1, h.e2, h.eL]
    simp only [Int.mul_assoc, Int.mul_comm, Int.mul_left_comm]
  · rw [h.e1, h.eL, Int.fdiv_eq_ediv_of_nonneg _ (by omega)]
    refine Int.ediv_eq_of_eq_mul_left (by omega) ?_
    simp only [Int.mul_assoc, Int.mul_comm, Int.mul_left_comm]
  · rw [h.e2, h.eL, Int.fdiv_eq_ediv_of_nonneg _ (by omega)]
    refine Int.ediv_eq_of_eq_mul_left (by omega) ?_
    simp only [Int.mul_assoc, Int.mul_comm, Int.mul_left_comm]
def dAm (f t : List Int) (D : Int) : PyData := .tuple [dRow f, dRow t, .int D]
theorem Am.dp {K : PySem.W.Frag} {H : Hp} {a : Addr} {f t : List Int} {D : Int} (h : Am H a f t D) : Dp K H (.ref a) (dAm f t D) := by
  obtain ⟨pf, pt, h1, h2, h3⟩ := h
  exact .tup h1.t (.cons (dp_row h2.1) (.cons (dp_row h3.1) (.cons (.int _) .nil)))
theorem Am.fit {H : Hp} {a : Addr} {f t : List Int} {D : Int} (h : Am H a f t D) (hD : D.natAbs < 2 ^ 300) : Fit (dAm f t D) := by
  obtain ⟨pf, pt, h1, h2, h3⟩ := h
  have x1 : FitN 1 100 (dRow f) := fit_row h2
  have x2 : FitN 1 100 (dRow t) := fit_row h3
  exact FitN.mono (.tup (.cons (n := 300) x1 (.cons (n := 150) x2 (.cons (n := 10) (a := 0) (b := 0) (.int (Nat.lt_of_lt_of_le hD (Nat.pow_le_pow_right (by decide) (by decide)))) .nil (by decide)) (by decide)) (by decide))) (by decide) (by decide)
def spSums : Sp := fun vs H Q _ => ∃ (m c a b : Addr) (q : Nat) (f1 t1 f2 t2 : List Int) (D1 D2 : Int) (x : V), vs = [.ref m, .ref a, .ref b, x] ∧ MOk H m c q ∧ q ≤ 30000 ∧ Am H a f1 t1 D1 ∧ Am H b f2 t2 D2 ∧ Sml 100 f1 t1 D1 ∧ Sml 100 f2 t2 D2 ∧ f1.length = f2.length ∧
  ∀ H', SameBut m H H' → MOk H' m c (q + 4) → Q (.bl true) H'
section
variable {P : Program} {w : World} {K : PySem.W.Frag} {mg : Str → Option Value} {base : Heap}
theorem ok_sums {fa : Addr} {fd : FuncData} (F : Fun K "_law_sums_right" "_law_sums_right" s_sums fa fd) (C__law_gcd : Cal P w K mg base 1 "_law_gcd" ["a", "c"] spGcd) (C_amount_sum : Cal P w K mg base 3 "amount_sum" ["one", "other"] spAsum) (C_amount_times : Cal P w K mg base 2 "amount_times" ["amount", "n"] spAtimes) (C__law_of : Cal P w K mg base 2 "_law_of" ["m", "some"] spOf) (C__law_signed : Cal P w K mg base 2 "_law_signed" ["m", "most"] spSignedW)
    (C__law_like : CalG P w K mg base 1 "_law_like" ["got", "due"] (spLike K)) (m_tuple : mg "tuple" = none) (m_range : mg "range" = none) (m_len : mg "len" = none) (m_max : mg "max" = none) : FnG P w K mg base 4 fa fd ["m", "one", "other", "p"] spSums := by
  have sc := sc_sums
  refine okG F sc (fun vs H Q E h => ?_) (fun cdv A outer s H vs Q E hG0 hr h => ?_)
  · obtain ⟨m, c, a, b, q, f1, t1, f2, t2, D1, D2, x, rfl, _⟩ := h
    rfl
  · obtain ⟨m, c, a, b, q, f1, t1, f2, t2, D1, D2, x, rfl, hM, hq, hA, hB, z1, z2, hl, k⟩ := h
    have hG : Quiet (cxOf CX0 P w K mg base ["m", "one", "other", "p", "whole", "form", "near", "far", "ts", "n", "due", "a", "c", "count", "i", "x", "t"] "_law_sums_right" (defScope s_sums) fa cdv A outer s H E).nox.A := hG0.deeper _
    refine ⟨_, (pss_cons (ps_set (i := 4) sc.nd rfl (Or.inl rfl) (pe_op op_fdivX (pe_op op_mulW (pe_ix ix_tup (pv 1) pe_int (fun _ _ => rfl)) (pe_ix ix_tup (pv 2) pe_int (fun _ _ => rfl))) (call_ C__law_gcd (hr.mono (by decide)) (by rfl) (pa_cons (pe_ix ix_tup (pv 1) pe_int (fun _ _ => rfl)) (pa_cons (pe_ix ix_tup (pv 2) pe_int (fun _ _ => rfl)) pa_nil)))))
    (pss_cons (ps_asg (pe_tup (pa_cons (pe_op op_fdivX (pv 4) (pe_ix ix_tup (pv 1) pe_int (fun _ _ => rfl))) (pa_cons (pe_op op_fdivX (pv 4) (pe_ix ix_tup (pv 2) pe_int (fun _ _ => rfl))) (pa_cons (pe_callB (call_max2 rfl) (by rfl) m_max (by decide +kernel) (pa_cons (pe_callB call_len_seq (by rfl) m_len (by decide +kernel) (pa_cons (pe_ix ix_tup (pv 1) pe_int (fun _ _ => rfl)) pa_nil)) (pa_cons (pe_callB call_len_seq (by rfl) m_len (by decide +kernel) (pa_cons (pe_ix ix_tup (pv 2) pe_int (fun _ _ => rfl)) pa_nil)) pa_nil))) pa_nil)))) (pg_tup (n := 3) (by rfl) (pgs_cons (pg_name (i := 11) sc.nd rfl (Or.inr rfl)) (pgs_cons (pg_name (i := 12) sc.nd rfl (Or.inr rfl)) (pgs_cons (pg_name (i := 13) sc.nd rfl (Or.inl rfl)) pgs_nil)))))
    (pss_cons (ps_set (i := 5) sc.nd rfl (Or.inl rfl) (pe_callTy call_tuple_of (by rfl) m_tuple (by decide +kernel) (pa_cons (pe_lc (own := [("i", 14)]) (g := gName 14) (by rfl) sc.nd (pi_range1 rfl m_range (pa_cons (pe_callB call_len_seq (by rfl) m_len (by decide +kernel) (pa_cons (pe_ix ix_tup (pv 1) pe_int (fun _ _ => rfl)) pa_nil)) pa_nil)) (blkOk_by (own := [("i", 14)]) (N := ["m", "one", "other", "p", "whole", "form", "near", "far", "ts", "n", "due", "a", "c", "count", "i", "x", "t"]) (sc := defScope s_sums) (by decide +kernel)) (fun _ _ _ _ _ => pg_name (i := 14) sc.nd rfl (Or.inl rfl)) (fun _ _ _ _ _ => pts_nil) (fun _ _ _ _ _ => (pe_op op_add (pe_op op_mulW (pv 11) (pe_ix (ix_tupK (K := K) rfl) (pe_ix (ix_tupK (K := K) rfl) (pv 1) pe_int (fun _ _ => rfl)) (pv 14) (fun _ _ => rfl))) (pe_op op_mulW (pv 12) (pe_ix (ix_tupK (K := K) rfl) (pe_ix (ix_tupK (K := K) rfl) (pv 2) pe_int (fun _ _ => rfl)) (pv 14) (fun _ _ => rfl)))))) pa_nil)))
    (pss_cons (ps_set (i := 6) sc.nd rfl (Or.inr rfl) (pe_op op_catA (pe_ix ix_tup (pv 1) pe_int (fun _ _ => rfl)) (pe_op (op_tmsK (K := K) rfl) (pe_tup (pa_cons pe_int pa_nil)) (pe_op op_sub (pv 13) (pe_callB call_len_seq (by rfl) m_len (by decide +kernel) (pa_cons (pe_ix ix_tup (pv 1) pe_int (fun _ _ => rfl)) pa_nil))))))
    (pss_cons (ps_set (i := 7) sc.nd rfl (Or.inr rfl) (pe_op op_catA (pe_ix ix_tup (pv 2) pe_int (fun _ _ => rfl)) (pe_op (op_tmsK (K := K) rfl) (pe_tup (pa_cons pe_int pa_nil)) (pe_op op_sub (pv 13) (pe_callB call_len_seq (by rfl) m_len (by decide +kernel) (pa_cons (pe_ix ix_tup (pv 2) pe_int (fun _ _ => rfl)) pa_nil))))))
    (pss_cons (ps_set (i := 8) sc.nd rfl (Or.inl rfl) (pe_callTy call_tuple_of (by rfl) m_tuple (by decide +kernel) (pa_cons (pe_lc (own := [("i", 14)]) (g := gName 14) (by rfl) sc.nd (pi_range1 rfl m_range (pa_cons (pv 13) pa_nil)) (blkOk_by (own := [("i", 14)]) (N := ["m", "one", "other", "p", "whole", "form", "near", "far", "ts", "n", "due", "a", "c", "count", "i", "x", "t"]) (sc := defScope s_sums) (by decide +kernel)) (fun _ _ _ _ _ => pg_name (i := 14) sc.nd rfl (Or.inl rfl)) (fun _ _ _ _ _ => pts_nil) (fun _ _ _ _ _ => (pe_op op_add (pe_op op_mulW (pv 11) (pe_ix (ix_tupK (K := K) rfl) (pv 6) (pv 14) (fun _ _ => rfl))) (pe_op op_mulW (pv 12) (pe_ix (ix_tupK (K := K) rfl) (pv 7) (pv 14) (fun _ _ => rfl)))))) pa_nil)))
    (pss_cons (ps_if (pt_not (pt_val (callG hG C__law_like (hr.mono (by decide)) (by rfl) (pa_cons (call_ C_amount_sum (hr.mono (by decide)) (by rfl) (pa_cons (pv 1) (pa_cons (pv 2) pa_nil))) (pa_cons (pe_tup (pa_cons (pv 5) (pa_cons (pv 8) (pa_cons (pv 4) pa_nil)))) pa_nil)))))
      (pss_one (ps_ret pe_bl))
      pss_nil)
    (pss_cons (ps_set (i := 9) sc.nd rfl (Or.inr rfl) (call_ C__law_of (hr.mono (by decide)) (by rfl) (pa_cons (pv 0) (pa_cons (pe_lst (pa_cons pe_int (pa_cons pe_int (pa_cons (pe_un un_neg pe_int) (pa_cons (call_ C__law_signed (hr.mono (by decide)) (by rfl) (pa_cons (pv 0) (pa_cons pe_int pa_nil))) pa_nil))))) pa_nil))))
    (pss_cons (ps_set (i := 10) sc.nd rfl (Or.inl rfl) (pe_tup (pa_cons (pe_callTy call_tuple_of (by rfl) m_tuple (by decide +kernel) (pa_cons (pe_lc (own := [("x", 15)]) (g := gName 15) (by rfl) sc.nd (pi_tup (pe_ix ix_tup (pv 1) pe_int (fun _ _ => rfl))) (blkOk_by (own := [("x", 15)]) (N := ["m", "one", "other", "p", "whole", "form", "near", "far", "ts", "n", "due", "a", "c", "count", "i", "x", "t"]) (sc := defScope s_sums) (by decide +kernel)) (fun _ _ _ _ _ => pg_name (i := 15) sc.nd rfl (Or.inl rfl)) (fun _ _ _ _ _ => pts_nil) (fun _ _ _ _ _ => (pe_op op_mulW (pv 9) (pv 15)))) pa_nil)) (pa_cons (pe_callTy call_tuple_of (by rfl) m_tuple (by decide +kernel) (pa_cons (pe_lc (own := [("t", 16)]) (g := gName 16) (by rfl) sc.nd (pi_tup (pe_ix ix_tup (pv 1) pe_int (fun _ _ => rfl))) (blkOk_by (own := [("t", 16)]) (N := ["m", "one", "other", "p", "whole", "form", "near", "far", "ts", "n", "due", "a", "c", "count", "i", "x", "t"]) (sc := defScope s_sums) (by decide +kernel)) (fun _ _ _ _ _ => pg_name (i := 16) sc.nd rfl (Or.inl rfl)) (fun _ _ _ _ _ => pts_nil) (fun _ _ _ _ _ => (pe_op op_mulW (pv 9) (pv 16)))) pa_nil)) (pa_cons (pe_ix ix_tup (pv 1) pe_int (fun _ _ => rfl)) pa_nil)))))
    (pss_one (ps_ret (callG hG C__law_like (hr.mono (by decide)) (by rfl) (pa_cons (call_ C_amount_times (hr.mono (by decide)) (by rfl) (pa_cons (pv 1) (pa_cons (pv 9) pa_nil))) (pa_cons (pv 10) pa_nil)))))))))))))), ?_⟩
    have hA0 := hA
    have hB0 := hB
    obtain ⟨pf1, pt1, h1, h2, h3⟩ := hA
    obtain ⟨pf2, pt2, k1, k2, k3⟩ := hB
    have d10 := z1.d0
    have d11 := z1.d1
    have d20 := z2.d0
    have d21 := z2.d1
    have fl1 := z1.fl
    have fl2 := z2.fl
    have tl1 := z1.tl
    have tl2 := z2.tl
    obtain ⟨g, n1, n2, g0, p1, p2, e1, e2, eL, v1, v2, eg⟩ := lcm_parts (a := D1) (b := D2) (by omega) (by omega)
    have pts : Pts D1 D2 g n1 n2 _ := ⟨g0, p1, p2, e1, e2, eL, eg⟩
    clear v1 v2
    generalize ((Nat.lcm D1.natAbs D2.natAbs : Nat) : Int) = L at eL pts
    obtain ⟨v0, v1, v2⟩ := pts_div pts
    have le := pts_le pts
    have L0 : 0 < L := by
      rw [eL]
      exact Int.mul_pos (Int.mul_pos g0 p1) p2
    have Lb : L ≤ 100000000 := by
      have w1 : D1 * D2 ≤ 10000 * D2 := Int.mul_le_mul_of_nonneg_right d11 (by omega)
      omega
    have gD : (Int.gcd D1 D2 : Int) ≤ D1 := by
      rw [← eg, e1]
      have : g * 1 ≤ g * n2 := Int.mul_le_mul_of_nonneg_left (by omega) (by omega)
      omega
    have sm64 : ∀ x : Int, 1 ≤ x → x ≤ 10000 → x.natAbs < 2 ^ 64 := fun x h0 h1 => Nat.lt_of_le_of_lt (show x.natAbs ≤ 10000 by omega) (by decide)
    have cd : ∀ x y : Int, 1 ≤ y → y ≤ 10000 → CDivX x y := fun x y h0 h1 => ⟨by omega, Nat.lt_trans (PySem.Flt.log2_lt_of (by decide) (sm64 y h0 h1)) (by decide)⟩
    have zn : ∀ x : Int, 0 < x → x ≤ 10000 → SmZ 14 x := fun x h0 h1 => Nat.lt_of_le_of_lt (show x.natAbs ≤ 10000 by omega) (by decide)
    have zn1 := zn n1 p1 (by omega)
    have zn2 := zn n2 p2 (by omega)
    have zL : SmZ 300 L := Nat.lt_of_le_of_lt (show L.natAbs ≤ 100000000 by omega) (by decide)
    refine ⟨.ref a, rfl, a, _, 2, .int D1, rfl, rfl, h1.t, atI_nat (j := 2) rfl, .ref b, rfl, b, _, 2, .int D2, rfl, rfl, k1.t, atI_nat (j := 2) rfl, D1, D2, rfl, rfl, mulW (by decide) (by decide) (zn D1 d10 d11) (zn D2 d20 d21) (by decide), .ref a, rfl, a, _, 2, .int D1, rfl, rfl, h1.t, atI_nat (j := 2) rfl, .ref b, rfl, b, _, 2, .int D2, rfl, rfl, k1.t, atI_nat (j := 2) rfl, D1, D2, rfl, D1 * D2, (Int.gcd D1 D2 : Int), rfl, rfl, cd _ _ (by omega) (by omega), ?_⟩
    dsimp only
    rw [v0]
    obtain ⟨N, hN⟩ : ∃ N, N = max t1.length t2.length := ⟨_, rfl⟩
    have eN : (if (((t2.map V.int).length : Nat) : Int) > (((t1.map V.int).length : Nat) : Int) then (((t2.map V.int).length : Nat) : Int) else (((t1.map V.int).length : Nat) : Int)) = ((N : Nat) : Int) := by
      rw [List.length_map, List.length_map]
      split <;> omega
    refine ⟨.int L, rfl, .ref a, rfl, a, _, 2, .int D1, rfl, rfl, h1.t, atI_nat (j := 2) rfl, L, D1, rfl, rfl, cd _ _ d10 d11, .int L, rfl, .ref b, rfl, b, _, 2, .int D2, rfl, rfl, k1.t, atI_nat (j := 2) rfl, L, D2, rfl, rfl, cd _ _ d20 d21, .ref a, rfl, a, _, 1, .ref pt1, rfl, rfl, h1.t, atI_nat (j := 1) rfl, pt1, _, rfl, .inr h3.1.t, .ref b, rfl, b, _, 1, .ref pt2, rfl, rfl, k1.t, atI_nat (j := 1) rfl, pt2, _, rfl, .inr k3.1.t, _, _, rfl, ?_⟩
    rw [eN]
    unfold tNil
    dsimp only
    rw [v1, v2]
    refine ⟨by show 3 ≤ sizeLine; decide, fun p0 np0 => ⟨p0, [.int n1, .int n2, .int N], rfl, SqT.of upd_same, rfl, .int n1, [.int n2, .int N], rfl, .int n2, [.int N], rfl, .int N, [], rfl, rfl, ?_⟩⟩
    have s0 : Same H (upd H p0 (.tup [.int n1, .int n2, .int N])) := same_new np0
    generalize upd H p0 (.tup [.int n1, .int n2, .int N]) = H0 at s0 ⊢
    have A0 := h1.same s0
    have B0 := k1.same s0
    have rf1 := h2.same s0
    have rf2 := k2.same s0
    have mf1 : ∀ x ∈ f1.map (n1 * ·), SmZ 114 x := map_sm zn1 z1.fz
    have mf2 : ∀ x ∈ f2.map (n2 * ·), SmZ 114 x := map_sm zn2 z2.fz
    have mt1 : ∀ x ∈ t1.map (n1 * ·), SmZ 114 x := map_sm zn1 z1.tz
    have mt2 : ∀ x ∈ t2.map (n2 * ·), SmZ 114 x := map_sm zn2 z2.tz
    refine ⟨.ref a, rfl, a, _, 0, .ref pf1, rfl, rfl, A0.t, atI_nat (j := 0) rfl, pf1, _, rfl, .inr rf1.1.t, ((f1.map V.int).length : Int), rfl, by omega, ?_, fun E1 nE1 => ?_⟩
    · rw [List.length_map]
      omega
    have e0 : ((f1.map V.int).length : Int).toNat = f1.length := by
      rw [List.length_map]
      omega
    rw [e0]
    refine lc_to (walk_range (lo := 0) (n := f1.length)) ((List.zipWith (· + ·) (f1.map (n1 * ·)) (f2.map (n2 * ·))).map V.int) (by rw [List.length_map, List.length_zipWith, List.length_map, List.length_map]; omega) (small (by omega)) nE1 (fun H' s => True.intro) ?_ ?_
    · rintro i x y H0 H1 Qy hy hi s0 ⟨rfl, rfl⟩ hq
      obtain ⟨z, hz, rfl⟩ := map_get hy
      obtain ⟨p, r, hp, hr', rfl⟩ := zipW_get hz
      obtain ⟨p', hp', rfl⟩ := map_get hp
      obtain ⟨r', hr2, rfl⟩ := map_get hr'
      exact ⟨rfl, .int n1, rfl, .ref a, rfl, a, _, 0, .ref pf1, rfl, rfl, (A0.same s0).t, atI_nat (j := 0) rfl, .int (0 + i), rfl, pf1, _, 0 + i, .int p', rfl, rfl, (rf1.1.same s0).t, atI_at (i := i) (by omega) (get_map hp'), n1, p', rfl, rfl, mulW (by decide) (by decide) zn1 (z1.fz p' (List.mem_of_getElem? hp')) (by decide), .int n2, rfl, .ref b, rfl, b, _, 0, .ref pf2, rfl, rfl, (B0.same s0).t, atI_nat (j := 0) rfl, .int (0 + i), rfl, pf2, _, 0 + i, .int r', rfl, rfl, (rf2.1.same s0).t, atI_at (i := i) (by omega) (get_map hr2), n2, r', rfl, rfl, mulW (by decide) (by decide) zn2 (z2.fz r' (List.mem_of_getElem? hr2)) (by decide), n1 * p', n2 * r', rfl, rfl, hq _ (Same.refl _)⟩
    intro H1 s1 g1
    refine ⟨E1, _, rfl, .inl ⟨SqL.of g1, fun T1 nT1 => ?_⟩⟩
    have s2 : Same H1 (upd H1 T1 (.tup ((List.zipWith (· + ·) (f1.map (n1 * ·)) (f2.map (n2 * ·))).map V.int))) := same_new nT1
    have g2 : Tp (upd H1 T1 (.tup ((List.zipWith (· + ·) (f1.map (n1 * ·)) (f2.map (n2 * ·))).map V.int))) T1 ((List.zipWith (· + ·) (f1.map (n1 * ·)) (f2.map (n2 * ·))).map V.int) := upd_same
    generalize upd H1 T1 (.tup ((List.zipWith (· + ·) (f1.map (n1 * ·)) (f2.map (n2 * ·))).map V.int)) = H2 at s2 g2 ⊢
    have s12 := s1.trans s2
    have A2 := A0.same s12
    have B2 := B0.same s12
    have rt1 := (h3.same s0).same s12
    have rt2 := (k3.same s0).same s12
    clear g1
    refine ⟨.ref a, rfl, a, _, 1, .ref pt1, rfl, rfl, A2.t, atI_nat (j := 1) rfl, by show 1 ≤ sizeLine; decide, fun p3 np3 => ?_⟩
    refine ⟨.int N, rfl, .ref a, rfl, a, _, 1, .ref pt1, rfl, rfl, (A2.same (same_new np3)).t, atI_nat (j := 1) rfl, pt1, _, rfl, .inr (rt1.1.same (same_new np3)).t, (N : Int), ((t1.map V.int).length : Nat), rfl, rfl, ?_⟩
    refine pad_tp (L := N) rt1.1 (by rw [List.length_map]; omega) (by omega) (by omega) (fun r3 H3 s3 g3 => ?_) p3 np3
    have B3 := B2.same s3
    have rt3 := rt2.same s3
    refine ⟨.ref b, rfl, b, _, 1, .ref pt2, rfl, rfl, B3.t, atI_nat (j := 1) rfl, by show 1 ≤ sizeLine; decide, fun p4 np4 => ?_⟩
    refine ⟨.int N, rfl, .ref b, rfl, b, _, 1, .ref pt2, rfl, rfl, (B3.same (same_new np4)).t, atI_nat (j := 1) rfl, pt2, _, rfl, .inr (rt3.1.same (same_new np4)).t, (N : Int), ((t2.map V.int).length : Nat), rfl, rfl, ?_⟩
    refine pad_tp (L := N) rt3.1 (by rw [List.length_map]; omega) (by omega) (by omega) (fun r4 H4 s4 g4 => ?_) p4 np4
    have g3 := g3.same s4
    have eT : tsumI (t1.map (n1 * ·)) (t2.map (n2 * ·)) = List.zipWith (· + ·) ((pad t1 N).map (n1 * ·)) ((pad t2 N).map (n2 * ·)) := by
      unfold tsumI
      rw [List.length_map, List.length_map, ← hN, pad_map _ (Int.mul_zero n1), pad_map _ (Int.mul_zero n2)]
    have lp1 : (pad t1 N).length = N := pad_len (by omega)
    have lp2 : (pad t2 N).length = N := pad_len (by omega)
    have zp1 : ∀ x ∈ pad t1 N, SmZ 100 x := fun x hx => by
      rcases pad_mem hx with h | rfl
      · exact z1.tz x h
      · exact (by decide : (0 : Int).natAbs < 2 ^ 100)
    have zp2 : ∀ x ∈ pad t2 N, SmZ 100 x := fun x hx => by
      rcases pad_mem hx with h | rfl
      · exact z2.tz x h
      · exact (by decide : (0 : Int).natAbs < 2 ^ 100)
    refine ⟨.int N, rfl, (N : Int), rfl, by omega, by omega, fun E5 nE5 => ?_⟩
    rw [Int.toNat_natCast]
    refine lc_to (walk_range (lo := 0) (n := N)) ((tsumI (t1.map (n1 * ·)) (t2.map (n2 * ·))).map V.int) (by rw [List.length_map, tsum_len, List.length_map, List.length_map, hN]) (small (by omega)) nE5 (fun H' s => True.intro) ?_ ?_
    · rintro i x y H0 H1 Qy hy hi s0 ⟨rfl, rfl⟩ hq
      rw [eT] at hy
      obtain ⟨z, hz, rfl⟩ := map_get hy
      obtain ⟨p, r, hp, hr', rfl⟩ := zipW_get hz
      obtain ⟨p', hp', rfl⟩ := map_get hp
      obtain ⟨r', hr2, rfl⟩ := map_get hr'
      exact ⟨rfl, .int n1, rfl, .ref r3, rfl, .int (0 + i), rfl, r3, _, 0 + i, .int p', rfl, rfl, (g3.same s0).t, atI_at (i := i) (by omega) (get_map hp'), n1, p', rfl, rfl, mulW (by decide) (by decide) zn1 (zp1 p' (List.mem_of_getElem? hp')) (by decide), .int n2, rfl, .ref r4, rfl, .int (0 + i), rfl, r4, _, 0 + i, .int r', rfl, rfl, (g4.same s0).t, atI_at (i := i) (by omega) (get_map hr2), n2, r', rfl, rfl, mulW (by decide) (by decide) zn2 (zp2 r' (List.mem_of_getElem? hr2)) (by decide), n1 * p', n2 * r', rfl, rfl, hq _ (Same.refl _)⟩
    intro H5 s5 g5
    refine ⟨E5, _, rfl, .inl ⟨SqL.of g5, fun T2 nT2 => ?_⟩⟩
    have s6 : Same H5 (upd H5 T2 (.tup ((tsumI (t1.map (n1 * ·)) (t2.map (n2 * ·))).map V.int))) := same_new nT2
    have g6 : Tp (upd H5 T2 (.tup ((tsumI (t1.map (n1 * ·)) (t2.map (n2 * ·))).map V.int))) T2 ((tsumI (t1.map (n1 * ·)) (t2.map (n2 * ·))).map V.int) := upd_same
    generalize upd H5 T2 (.tup ((tsumI (t1.map (n1 * ·)) (t2.map (n2 * ·))).map V.int)) = H6 at s6 g6 ⊢
    have s26 := (s3.trans s4).trans (s5.trans s6)
    have s06 := (s0.trans s12).trans s26
    have r1 : Row H6 T1 (List.zipWith (· + ·) (f1.map (n1 * ·)) (f2.map (n2 * ·))) := ⟨g2.same s26, by rw [List.length_zipWith, List.length_map, List.length_map]; omega, fun x hx => smz_mono (zip_sm mf1 mf2 x hx) (by decide)⟩
    have r2 : Row H6 T2 (tsumI (t1.map (n1 * ·)) (t2.map (n2 * ·))) := ⟨g6, by rw [tsum_len, List.length_map, List.length_map]; omega, fun x hx => smz_mono (tsum_sm mt1 mt2 x hx) (by decide)⟩
    refine ⟨.ref a, rfl, .ref b, rfl, a, b, f1, t1, f2, t2, D1, D2, rfl, hA0.same s06, hB0.same s06, z1, z2, hl, fun g' n1' n2' L' r7 H7 pts' s7 am7 => ?_⟩
    obtain ⟨rfl, rfl, rfl⟩ := pts_uniq pts' pts
    refine ⟨.ref T1, rfl, .ref T2, rfl, .int L, rfl, by show 3 ≤ sizeLine; decide, fun p8 np8 => ?_⟩
    have s8 : Same H7 (upd H7 p8 (.tup [.ref T1, .ref T2, .int L])) := same_new np8
    have g8 : Tp (upd H7 p8 (.tup [.ref T1, .ref T2, .int L])) p8 [.ref T1, .ref T2, .int L] := upd_same
    generalize upd H7 p8 (.tup [.ref T1, .ref T2, .int L]) = H8 at s8 g8 ⊢
    have due8 : Am H8 p8 _ _ L := ⟨T1, T2, g8, (r1.same s7).same s8, (r2.same s7).same s8⟩
    refine ⟨.ref r7, .ref p8, dAm _ _ L, rfl, (am7.same s8).dp, due8.dp, due8.fit zL, _, rfl, iteF ?_⟩
    have s08 := s06.trans (s7.trans s8)
    have M8 := hM.same s08
    refine ⟨.ref m, rfl, 1, rfl, .ref m, rfl, m, c, q, 20, rfl, M8, by omega, by decide, by decide, fun H9 x b9 M9 x0 x1 => ⟨by show 4 ≤ sizeLine; decide, fun S nS => ?_⟩⟩
    have s10 : Same H9 (upd H9 S (.lst [.int 0, .int 1, .int (-1), .int x])) := same_new nS
    have g10 : upd H9 S (.lst [.int 0, .int 1, .int (-1), .int x]) S = some (.lst [.int 0, .int 1, .int (-1), .int x]) := upd_same
    generalize upd H9 S (.lst [.int 0, .int 1, .int (-1), .int x]) = H10 at s10 g10 ⊢
    refine ⟨m, c, S, _, _, rfl, M9.same s10, by omega, g10, by show 0 < 4; decide, by show 4 ≤ 100; decide, fun H11 y b11 M11 hy => ?_⟩
    have hb : ∃ z : Int, y = .int z ∧ -20 ≤ z ∧ z ≤ 20 := by
      simp only [List.mem_cons, List.not_mem_nil, or_false] at hy
      rcases hy with rfl | rfl | rfl | rfl
      · exact ⟨_, rfl, by decide, by decide⟩
      · exact ⟨_, rfl, by decide, by decide⟩
      · exact ⟨_, rfl, by decide, by decide⟩
      · exact ⟨_, rfl, x0, x1⟩
    obtain ⟨n, rfl, n0, n9⟩ := hb
    have znn : SmZ 6 n := Nat.lt_of_le_of_lt (show n.natAbs ≤ 20 by omega) (by decide)
    have bb : SameBut m H H11 := ((SameBut.of s08).trans b9).trans ((SameBut.of s10).trans b11)
    obtain ⟨kv, hm⟩ := hM.m_some
    have hA11 := hA0.but hm bb
    obtain ⟨qf1, qt1, h1, h2, h3⟩ := hA11
    have hA11 : Am H11 a f1 t1 D1 := ⟨qf1, qt1, h1, h2, h3⟩
    clear r1 r2 due8 am7 g8 hy rt1 rt2 rt3 A0 B0 A2 B2 B3 rf1 rf2
    refine ⟨.ref a, rfl, a, _, 0, .ref qf1, rfl, rfl, h1.t, atI_nat (j := 0) rfl, qf1, rfl, ⟨_, h2.1.t⟩, fun G1 nG1 => ?_⟩
    refine lc_to (walk_tup (K := K) (a := qf1) (xs := f1.map V.int)) ((f1.map (n * ·)).map V.int) (by rw [List.length_map, List.length_map, List.length_map]) (by rw [List.length_map]; exact small (by omega)) nG1 (fun H' s => (h2.1.same s).t) ?_ ?_
    · rintro i x y H0 H0' Qy hy hi s0 ⟨rfl, hx⟩ hq
      obtain ⟨z0, hz, rfl⟩ := map_get hy
      obtain ⟨p, hp, rfl⟩ := map_get hz
      obtain ⟨p', hp', rfl⟩ := map_get hx
      obtain rfl := Option.some.inj (hp.symm.trans hp')
      exact ⟨rfl, .int n, rfl, .int p, rfl, n, p, rfl, rfl, mulW (by decide) (by decide) znn (z1.fz p (List.mem_of_getElem? hp)) (by decide), hq _ (Same.refl _)⟩
    intro J1 u1 w1
    refine ⟨G1, _, rfl, .inl ⟨SqL.of w1, fun U1 nU1 => ?_⟩⟩
    have u2 : Same J1 (upd J1 U1 (.tup ((f1.map (n * ·)).map V.int))) := same_new nU1
    have w2 : Tp (upd J1 U1 (.tup ((f1.map (n * ·)).map V.int))) U1 ((f1.map (n * ·)).map V.int) := upd_same
    generalize upd J1 U1 (.tup ((f1.map (n * ·)).map V.int)) = J2 at u2 w2 ⊢
    have h1 := (h1.same u1).same u2
    have h3 := (h3.same u1).same u2
    refine ⟨.ref a, rfl, a, _, 1, .ref qt1, rfl, rfl, h1.t, atI_nat (j := 1) rfl, qt1, rfl, ⟨_, h3.1.t⟩, fun G2 nG2 => ?_⟩
    refine lc_to (walk_tup (K := K) (a := qt1) (xs := t1.map V.int)) ((t1.map (n * ·)).map V.int) (by rw [List.length_map, List.length_map, List.length_map]) (by rw [List.length_map]; exact small (by omega)) nG2 (fun H' s => (h3.1.same s).t) ?_ ?_
    · rintro i x y H0 H0' Qy hy hi s0 ⟨rfl, hx⟩ hq
      obtain ⟨z0, hz, rfl⟩ := map_get hy
      obtain ⟨p, hp, rfl⟩ := map_get hz
      obtain ⟨p', hp', rfl⟩ := map_get hx
      obtain rfl := Option.some.inj (hp.symm.trans hp')
      exact ⟨rfl, .int n, rfl, .int p, rfl, n, p, rfl, rfl, mulW (by decide) (by decide) znn (z1.tz p (List.mem_of_getElem? hp)) (by decide), hq _ (Same.refl _)⟩
    intro J3 u3 w3
    refine ⟨G2, _, rfl, .inl ⟨SqL.of w3, fun U2 nU2 => ?_⟩⟩
    have u4 : Same J3 (upd J3 U2 (.tup ((t1.map (n * ·)).map V.int))) := same_new nU2
    have w4 : Tp (upd J3 U2 (.tup ((t1.map (n * ·)).map V.int))) U2 ((t1.map (n * ·)).map V.int) := upd_same
    generalize upd J3 U2 (.tup ((t1.map (n * ·)).map V.int)) = J4 at u4 w4 ⊢
    have u24 := u3.trans u4
    refine ⟨.ref a, rfl, a, _, 2, .int D1, rfl, rfl, (h1.same u24).t, atI_nat (j := 2) rfl, by show 3 ≤ sizeLine; decide, fun p5 np5 => ?_⟩
    have u5 : Same J4 (upd J4 p5 (.tup [.ref U1, .ref U2, .int D1])) := same_new np5
    have w5 : Tp (upd J4 p5 (.tup [.ref U1, .ref U2, .int D1])) p5 [.ref U1, .ref U2, .int D1] := upd_same
    generalize upd J4 p5 (.tup [.ref U1, .ref U2, .int D1]) = J5 at u5 w5 ⊢
    have u05 := (u1.trans u2).trans (u24.trans u5)
    have q1 : Row J5 U1 (f1.map (n * ·)) := ⟨w2.same (u24.trans u5), by rw [List.length_map]; omega, fun x hx => smz_mono (map_sm znn z1.fz x hx) (by decide)⟩
    have q2 : Row J5 U2 (t1.map (n * ·)) := ⟨w4.same u5, by rw [List.length_map]; omega, fun x hx => smz_mono (map_sm znn z1.tz x hx) (by decide)⟩
    have due : Am J5 p5 _ _ D1 := ⟨U1, U2, w5, q1, q2⟩
    refine ⟨.ref a, rfl, .int n, rfl, a, n, f1, t1, D1, rfl, hA11.same u05, z1, smz_mono znn (by decide), fun r9 J6 u6 am => ?_⟩
    exact ⟨.ref p5, rfl, .ref r9, .ref p5, dAm _ _ D1, rfl, am.dp, (due.same u6).dp, (due.same u6).fit (Nat.lt_of_le_of_lt (show D1.natAbs ≤ 10000 by omega) (by decide)), k _ (bb.trans (SameBut.of (u05.trans u6))) (((M11.same u05).same u6).mono (by omega))⟩
end
end K17
namespace K17
open PySem PySem.Spec PyProof.Rows L2 Vk
abbrev s_heard : Stmt := topS 30
theorem sc_heard : FnScope ["call", "found", "error", "e"] ["call"] (defScope s_heard) := ⟨rfl, rfl, rfl, by decide +kernel, rfl, by decide +kernel, by decide +kernel⟩
/-- what is known of the classes -/
structure Exs (K : PySem.W.Frag) (mg : Str → Option Value) (CT CF CS : Addr) : Prop where
  gT : mg "TallyError" = some (.ref CT)
  gN : mg "Singular" = some (.ref CS)
  B : ExcT K mg "NotFit" CF
  C : ExcC K CF
  e : PySem.W.exmOne K (.ref CF) (.ref CT) = some true
  kV : PySem.W.kitOne K (.ref CF) (.type "ValueError") = some true
  kB : PySem.W.kitOne K (.ref CF) (.ref CF) = some true
  kN : PySem.W.kitOne K (.ref CF) (.ref CS) = some false
/-- heard: the value alone in a new list, or the text of the refusal -/
def THeard (CF : Addr) : (XK → Hp → VK → Prop) → Hp → VK → Prop := fun tl H Q => ∀ (H1 : Hp) (Q' : VK), Same H H1 → (∀ v H', (∀ p, H' p = none → Q (.ref p) (upd H' p (.lst [v]))) → Q' v H') →
  tl (fun cls d H' => cls = .ref CF ∧ d = none ∧ ∀ a, H' a = none → Q (.str "fit") (upd H' a (ExK (.ref CF) none a))) H1 Q'
theorem heard_gives {X : Cx} {g CT CF CS : Addr} {cdg : Value} {q : Str} (T : Exs X.K X.mg CT CF CS) (m_isinstance : X.mg "isinstance" = none) (m_ValueError : X.mg "ValueError" = none) :
    LamX.GivesTo X ["call", "found", "error", "e"] "_law_heard" (defScope s_heard) g cdg (defBody s_heard) "call" q (THeard CF) := by
  have sc := sc_heard
  intro f c' s H Q tl act hc h
  refine ⟨_, (pss_cons (ps_asg (pe_tup (pa_cons pe_non (pa_cons pe_non pa_nil))) (pg_tup (by rfl) (pgs_cons (pg_name (i := 1) sc.nd rfl (Or.inl rfl)) (pgs_cons (pg_name (i := 2) sc.nd rfl (Or.inl rfl)) pgs_nil))))
    (pss_cons (ps_try_keep (i := 3) (c := .ref CT)
      (tb := fun W D σ H => ∃ Ech : XK, (∀ cls d σ' H', Ech cls d H' → W cls d σ' H') ∧ σ[0]? = some (some (.ref f)) ∧ H c' = some (LamX.CodeO c' q) ∧ tl Ech H (fun v H' => D.nx (σ.set 1 (some v)) H'))
      (ts := fun _ _ _ => tAsg (tVar 3) (gName 2))
      rfl rfl rfl sc.nd rfl rfl ⟨rfl, by decide, .inl T.gT⟩
      (fun W pn xe tk _ => ⟨fun pins s' σ H' D I h' => by
        obtain ⟨Ech, hW, h1, h2, h3⟩ := h'
        exact (pss_one (ps_set (i := 1) sc.nd rfl (Or.inl rfl) (act W pn xe Ech _ _ tk hW))).run pins s' σ H' D I ⟨h1, h2, h3⟩⟩)
      (fun a oe cls d pn _ _ => pss_one (ps_set (i := 2) sc.nd rfl (Or.inl rfl) (pv 3))))
    (pss_cons (ps_if (pt_cmpR op_isN (pv 2) pe_non (nomark _))
      (pss_one (ps_ret (pe_lst (pa_cons (pv 1) pa_nil))))
      pss_nil)
    (pss_cons (ps_if (pt_not (pt_val (pe_callB (call_isK T.C) (by rfl) m_isinstance (by decide +kernel) (pa_cons (pv 2) (pa_cons (pe_bltn (v := .ty "ValueError") (by rfl) m_ValueError (by decide +kernel) rfl) pa_nil)))))
      (pss_one (ps_ret pe_str))
      pss_nil)
    (pss_cons (ps_if (PW.pt (pw_and (pt_val (pe_callB (call_isK T.C) (by rfl) m_isinstance (by decide +kernel) (pa_cons (pv 2) (pa_cons (pe_glob (v := .ref CF) rfl T.B.g rfl) pa_nil)))) (pw_and1 (pt_not (pt_val (pe_callB (call_isK T.C) (by rfl) m_isinstance (by decide +kernel) (pa_cons (pv 2) (pa_cons (pe_glob (v := .ref CS) rfl T.gN rfl) pa_nil))))))))
      (pss_one (ps_ret pe_str))
      pss_nil)
    (pss_one (ps_ret pe_str))))))), ?_⟩
  refine ⟨by show 2 ≤ sizeLine; decide, fun p0 np0 => ⟨p0, [.non, .non], rfl, SqT.of upd_same, rfl, .non, [.non], rfl, .non, [], rfl, rfl, ?_⟩⟩
  have s0 : Same H (upd H p0 (.tup [.non, .non])) := same_new np0
  refine ⟨fun cls d H' => cls = .ref CF ∧ d = none ∧ ∀ a, H' a = none → Q (.str "fit") (upd H' a (ExK (.ref CF) none a)), ?_, rfl, s0 _ _ hc, ?_⟩
  · -- refused
    rintro _ _ σ' H' ⟨rfl, rfl, q1⟩
    refine ⟨T.e, fun hl a na => ⟨.ref a, ?_, ?_⟩⟩
    · rw [List.getElem?_set_self (by rw [hl]; exact (by decide : 3 < 4))]
    have q2 := q1 a na
    have hσ : ((((σ'.set 3 (some (V.ref a))).set 2 (some (V.ref a))).set 3 none)[2]? : Option (Option V)) = some (some (.ref a)) := by
      rw [List.getElem?_set_ne (by decide), List.getElem?_set_self (by rw [List.length_set, hl]; exact (by decide : 2 < 4))]
    have gE : upd H' a (ExK (.ref CF) none a) a = some (ExK (.ref CF) none a) := upd_same
    refine ⟨.ref a, hσ, rfl, _, rfl, ?_⟩
    rw [decide_eq_false (show ¬ V.ref a = V.non from fun z => by cases z)]
    refine iteF ⟨.ref a, hσ, a, .ty "ValueError", _, true, rfl, gE, .ty _, T.kV, _, rfl, iteF ?_⟩
    refine ⟨.ref a, hσ, a, .ref CF, _, true, rfl, gE, .own _, T.kB, _, rfl, iteT ?_⟩
    exact ⟨.ref a, hσ, a, .ref CS, _, false, rfl, gE, .own _, T.kN, _, rfl, iteT q2⟩
  · -- told
    refine h _ _ s0 fun v H' q1 => ?_
    refine ⟨.non, rfl, rfl, _, rfl, iteT ⟨v, rfl, by show 1 ≤ sizeLine; decide, fun p np => q1 p np⟩⟩
/-- the def that hears -/
def HeardF (K : PySem.W.Frag) (mg : Str → Option Value) (g : Addr) : Prop := mg "_law_heard" = some (.ref g) ∧ PySem.W.keepIn K (.ref g) = true ∧
  ∃ (oc kV doc pm cdv ct : Value) (od an : Option Addr) (osl : Array (Option Value)), K.lookup g = some ⟨oc, od, .func (PySem.W.fnOf "_law_heard" "_law_heard" (defArgs s_heard) (defBody s_heard) (defScope s_heard) .none kV doc pm an cdv ct), osl⟩ ∧
    PySem.W.codeIn K cdv "_law_heard" = true ∧ Binds K (PySem.W.fnOf "_law_heard" "_law_heard" (defArgs s_heard) (defBody s_heard) (defScope s_heard) .none kV doc pm an cdv ct) ["call"] []
/-- the reading of a call of the def that hears: refused, or told -/
theorem heard_read {T : List (Addr × Str)} {CF : Addr} {t : XK → TE} {σ : L2.St} {H : Hp} {Q : VK} (hT : LamX.Tabs T H) (Good : V → Hp → Prop) (hQ : ∀ x H', Good x H' → Q x H')
    (hb : ∀ (H1 : Hp) (E' : XK) (Q' : VK), LamX.ExtN H H1 → LamX.Tabs T H1 → (∀ H', Same H1 H' → (∀ e, H' e = none → Good (.str "fit") (upd H' e (ExK (.ref CF) none e))) → E' (.ref CF) none H') →
      (∀ v H', (∀ r, H' r = none → Good (.ref r) (upd H' r (.lst [v]))) → Q' v H') → t E' σ H1 Q') : LamX.tLam T (THeard CF) t σ H Q :=
  ⟨hT, fun H1 e1 T1 H2 Q' s2 hq => hb H2 _ Q' (ext_same e1 s2) (T1.ext s2) (fun H' s' g => ⟨rfl, rfl, fun a na => hQ _ _ (g a na)⟩) (fun v H' g => hq v H' fun p np => hQ _ _ (g p np))⟩
end K17
namespace K17
open PySem PySem.Spec PyProof.Rows L2 Vk
abbrev s_law : Stmt := topS 39
theorem sc_law : FnScope ["script", "turn", "told", "m", "many", "one", "other", "step", "lone", "p", "side", "k_so"] ["script"] (defScope s_law) := ⟨rfl, rfl, rfl, by decide +kernel, rfl, by decide +kernel, by decide +kernel⟩
def spLaw (T : List (Addr × Str)) (K : PySem.W.Frag) : Sp := fun vs H Q _ => ∃ (a : Addr) (ns : List Int), vs = [.ref a] ∧ SqL K H a (ns.map V.int) ∧ ns.length ≤ 63 ∧ LamX.Tabs T H ∧ ∀ H', Q (.bl true) H'
theorem lex_abs : ∀ xs : List Int, (lexS xs).natAbs ≤ 1
  | [] => by decide
  | x :: r => by
    show (if x ≠ 0 then sg x else lexS r).natAbs ≤ 1
    split
    · rcases Int.lt_trichotomy x 0 with h | h | h
      · rw [sg_neg h]; decide
      · subst h; decide
      · rw [sg_pos h]; decide
    · exact lex_abs r
/-- a written amount -/
theorem am_new {H : Hp} {p1 p2 p3 : Addr} {f t : List Int} {D : Int} (n1 : H p1 = none) (n2 : upd H p1 (.tup (f.map V.int)) p2 = none) (n3 : upd (upd H p1 (.tup (f.map V.int))) p2 (.tup (t.map V.int)) p3 = none)
    (hf : f.length ≤ 100 ∧ ∀ x ∈ f, SmZ 300 x) (ht : t.length ≤ 100 ∧ ∀ x ∈ t, SmZ 300 x) :
    Same H (upd (upd (upd H p1 (.tup (f.map V.int))) p2 (.tup (t.map V.int))) p3 (.tup [.ref p1, .ref p2, .int D])) ∧ Am (upd (upd (upd H p1 (.tup (f.map V.int))) p2 (.tup (t.map V.int))) p3 (.tup [.ref p1, .ref p2, .int D])) p3 f t D := by
  have s1 : Same H (upd H p1 (.tup (f.map V.int))) := same_new n1
  have g1 : Tp (upd H p1 (.tup (f.map V.int))) p1 (f.map V.int) := upd_same
  have s2 : Same (upd H p1 (.tup (f.map V.int))) (upd (upd H p1 (.tup (f.map V.int))) p2 (.tup (t.map V.int))) := same_new n2
  have g2 : Tp (upd (upd H p1 (.tup (f.map V.int))) p2 (.tup (t.map V.int))) p2 (t.map V.int) := upd_same
  have s3 := same_new (o := .tup [.ref p1, .ref p2, .int D]) n3
  exact ⟨(s1.trans s2).trans s3, p1, p2, upd_same, ⟨(g1.same s2).same s3, hf.1, hf.2⟩, ⟨g2.same s3, ht.1, ht.2⟩⟩
/-- ((D, form), j) -/
def Ud (H : Hp) (p : Addr) (f : List Int) (D j : Int) : Prop := ∃ q r, Tp H p [.ref q, .int j] ∧ Tp H q [.int D, .ref r] ∧ Row H r f
theorem Ud.same {H H' : Hp} {p : Addr} {f : List Int} {D j : Int} (h : Ud H p f D j) (s : Same H H') : Ud H' p f D j := by
  obtain ⟨q, r, h1, h2, h3⟩ := h
  exact ⟨q, r, h1.same s, h2.same s, h3.same s⟩
def dUd (f : List Int) (D j : Int) : PyData := .tuple [.tuple [.int D, dRow f], .int j]
theorem Ud.dp {K : PySem.W.Frag} {H : Hp} {p : Addr} {f : List Int} {D j : Int} (h : Ud H p f D j) : Dp K H (.ref p) (dUd f D j) := by
  obtain ⟨q, r, h1, h2, h3⟩ := h
  exact .tup h1.t (.cons (.tup h2.t (.cons (.int _) (.cons (dp_row h3.1) .nil))) (.cons (.int _) .nil))
theorem ud_new {H : Hp} {p1 p2 p3 : Addr} {f : List Int} {D j : Int} (n1 : H p1 = none) (n2 : upd H p1 (.tup (f.map V.int)) p2 = none) (n3 : upd (upd H p1 (.tup (f.map V.int))) p2 (.tup [.int D, .ref p1]) p3 = none)
    (hf : f.length ≤ 100 ∧ ∀ x ∈ f, SmZ 300 x) :
    Same H (upd (upd (upd H p1 (.tup (f.map V.int))) p2 (.tup [.int D, .ref p1])) p3 (.tup [.ref p2, .int j])) ∧ Ud (upd (upd (upd H p1 (.tup (f.map V.int))) p2 (.tup [.int D, .ref p1])) p3 (.tup [.ref p2, .int j])) p3 f D j := by
  have s1 : Same H (upd H p1 (.tup (f.map V.int))) := same_new n1
  have g1 : Tp (upd H p1 (.tup (f.map V.int))) p1 (f.map V.int) := upd_same
  have s2 : Same (upd H p1 (.tup (f.map V.int))) (upd (upd H p1 (.tup (f.map V.int))) p2 (.tup [.int D, .ref p1])) := same_new n2
  have g2 : Tp (upd (upd H p1 (.tup (f.map V.int))) p2 (.tup [.int D, .ref p1])) p2 [.int D, .ref p1] := upd_same
  have s3 := same_new (o := .tup [.ref p2, .int j]) n3
  exact ⟨(s1.trans s2).trans s3, p2, p1, upd_same, g2.same s3, ⟨(g1.same s2).same s3, hf.1, hf.2⟩⟩
section
variable {P : Program} {w : World} {K : PySem.W.Frag} {mg : Str → Option Value} {base : Heap}
theorem ok_law {f c1 P1 gH CT CF CS : Addr} {T : List (Addr × Str)} {oc kV doc pm ct : Value} {od an : Option Addr} {osl : Array (Option Value)}
    (lk : K.lookup f = some ⟨oc, od, .func (PySem.W.fnOf "law" "law" (defArgs s_law) (defBody s_law) (defScope s_law) .none kV doc pm an (.ref c1) ct), osl⟩) (hcd : PySem.W.codeIn K (.ref c1) "law" = true)
    (TB : LamX.TabB base mg c1 P1) (hT : (P1, ("law.<locals>.<lambda>" : Str)) ∈ T) (hu : ∀ p ∈ T, p.1 = P1 → p.2 = "law.<locals>.<lambda>") (HF : HeardF K mg gH) (X : Exs K mg CT CF CS)
    (C__law_begun : Cal P w K mg base 1 "_law_begun" ["script", "k_so"] (spBegun K)) (C__law_draw : Cal P w K mg base 1 "_law_draw" ["m", "bound"] spDraw) (C__law_of : Cal P w K mg base 2 "_law_of" ["m", "some"] spOf) (C__law_signed : Cal P w K mg base 2 "_law_signed" ["m", "most"] spSignedW)
    (C__law_amount : Cal P w K mg base 3 "_law_amount" ["m", "many"] spAmount) (C__law_beside : Cal P w K mg base 3 "_law_beside" ["m", "amount"] spBeside) (C__law_told_right : CalG P w K mg base 4 "_law_told_right" ["amount", "many"] spTold)
    (C__law_compared : Cal P w K mg base 3 "_law_compared" ["one", "other", "p"] spLcmp) (C_compare_at : Cal P w K mg base 4 "compare_at" ["one", "other", "p"] spCmp) (C__law_rounds_right : Cal P w K mg base 4 "_law_rounds_right" ["amount", "p"] spRounds) (C__law_sums_right : CalG P w K mg base 4 "_law_sums_right" ["m", "one", "other", "p"] spSums)
    (C_above_row : Cal P w K mg base 3 "above_row" ["amount"] spAbove) (C_round_up : Cal P w K mg base 3 "round_up" ["amount"] spUp) (C_round_down : Cal P w K mg base 3 "round_down" ["amount"] spDown) (C__law_like : CalG P w K mg base 1 "_law_like" ["got", "due"] (spLike K))
    (CX_sum : CalX P w K mg base 2 "amount_sum" ["one", "other"] (spSumX CF)) (CX_cmp : CalX P w K mg base 2 "compare_at" ["one", "other", "p"] (spCmpX CF))
    (m_isinstance : mg "isinstance" = none) (m_ValueError : mg "ValueError" = none) (m_range : mg "range" = none) (m_tuple : mg "tuple" = none) :
    FnG P w K mg base 7 f (PySem.W.fnOf "law" "law" (defArgs s_law) (defBody s_law) (defScope s_law) .none kV doc pm an (.ref c1) ct) ["script"] (spLaw T K) := by
  have sc := sc_law
  refine fnG_of lk hcd sc (fun vs H Q E h => ?_) (fun A outer s H vs Q E hG0 hr h => ?_)
  · obtain ⟨a, ns, rfl, _⟩ := h
    rfl
  · obtain ⟨a0, ns, rfl, hS, hl, hTab, k⟩ := h
    have hG : Quiet (cxOf CX0 P w K mg base ["script", "turn", "told", "m", "many", "one", "other", "step", "lone", "p", "side", "k_so"] "law" (defScope s_law) f (.ref c1) A outer s H E).nox.A := hG0.deeper _
    obtain ⟨gH1, gH2, ocH, kVH, docH, pmH, cdvH, ctH, odH, anH, oslH, lkH, hcH, bH⟩ := HF
    obtain ⟨fX, fdX, FX, gX, kX, bX⟩ := CX_sum
    obtain ⟨fY, fdY, FY, gY, kY, bY⟩ := CX_cmp
    refine ⟨_, (pss_cons (ps_for PassesOwn.never rfl (pi_range1 rfl m_range (pa_cons pe_int pa_nil)) (pg_name (i := 1) sc.nd rfl (Or.inl rfl))
      (pss_cons (ps_set (i := 3) sc.nd rfl (Or.inr rfl) (call_ C__law_begun (hr.mono (by decide)) (by rfl) (pa_cons (pv 0) (pa_cons (pv 1) pa_nil))))
    (pss_cons (ps_set (i := 4) sc.nd rfl (Or.inl rfl) (call_ C__law_draw (hr.mono (by decide)) (by rfl) (pa_cons (pv 3) (pa_cons pe_int pa_nil))))
    (pss_cons (ps_set (i := 5) sc.nd rfl (Or.inr rfl) (call_ C__law_amount (hr.mono (by decide)) (by rfl) (pa_cons (pv 3) (pa_cons (pv 4) pa_nil))))
    (pss_cons (ps_set (i := 6) sc.nd rfl (Or.inl rfl) (pe_ifExp (pt_cmpR op_eq (call_ C__law_draw (hr.mono (by decide)) (by rfl) (pa_cons (pv 3) (pa_cons pe_int pa_nil))) pe_int (nomark _)) (call_ C__law_amount (hr.mono (by decide)) (by rfl) (pa_cons (pv 3) (pa_cons (pv 4) pa_nil))) (call_ C__law_beside (hr.mono (by decide)) (by rfl) (pa_cons (pv 3) (pa_cons (pv 5) pa_nil)))))
    (pss_cons (ps_if (pt_not (pt_val (callG hG C__law_told_right (hr.mono (by decide)) (by rfl) (pa_cons (pv 5) (pa_cons (pv 4) pa_nil)))))
      (pss_one (ps_ret pe_bl))
      pss_nil)
    (pss_cons (ps_for PassesOwn.never rfl (pi_range1 rfl m_range (pa_cons pe_int pa_nil)) (pg_name (i := 7) sc.nd rfl (Or.inl rfl))
      (pss_cons (ps_set (i := 9) sc.nd rfl (Or.inr rfl) (pe_callTy call_tuple_of (by rfl) m_tuple (by decide +kernel) (pa_cons (pe_lc (own := [("k_so", 11)]) (g := gName 11) (by rfl) sc.nd (pi_range1 rfl m_range (pa_cons (pv 4) pa_nil)) (blkOk_by (own := [("k_so", 11)]) (N := ["script", "turn", "told", "m", "many", "one", "other", "step", "lone", "p", "side", "k_so"]) (sc := defScope s_law) (by decide +kernel)) (fun _ _ _ _ _ => pg_name (i := 11) sc.nd rfl (Or.inl rfl)) (fun _ _ _ _ _ => pts_nil) (fun _ _ _ _ _ => (call_ C__law_signed (hr.mono (by decide)) (by rfl) (pa_cons (pv 3) (pa_cons (call_ C__law_of (hr.mono (by decide)) (by rfl) (pa_cons (pv 3) (pa_cons (pe_lst (pa_cons pe_int (pa_cons pe_int (pa_cons (pe_op op_pow pe_int pe_int) pa_nil)))) pa_nil))) pa_nil))))) pa_nil)))
    (pss_cons (ps_set (i := 10) sc.nd rfl (Or.inl rfl) (call_ C__law_compared (hr.mono (by decide)) (by rfl) (pa_cons (pv 5) (pa_cons (pv 6) (pa_cons (pv 9) pa_nil)))))
    (pss_cons (ps_set (i := 2) sc.nd rfl (Or.inl rfl) (pe_lst (pa_cons (call_ C_compare_at (hr.mono (by decide)) (by rfl) (pa_cons (pv 5) (pa_cons (pv 6) (pa_cons (pv 9) pa_nil)))) (pa_cons (call_ C_compare_at (hr.mono (by decide)) (by rfl) (pa_cons (pv 6) (pa_cons (pv 5) (pa_cons (pv 9) pa_nil)))) (pa_cons (call_ C_compare_at (hr.mono (by decide)) (by rfl) (pa_cons (pv 5) (pa_cons (pv 5) (pa_cons (pv 9) pa_nil)))) pa_nil)))))
    (pss_cons (ps_if (pt_not (pt_val (callG hG C__law_like (hr.mono (by decide)) (by rfl) (pa_cons (pv 2) (pa_cons (pe_lst (pa_cons (pv 10) (pa_cons (pe_un un_neg (pv 10)) (pa_cons pe_int pa_nil)))) pa_nil)))))
      (pss_one (ps_ret pe_bl))
      pss_nil)
    (pss_one (ps_if (PW.pt (pw_or (pt_not (pt_val (call_ C__law_rounds_right (hr.mono (by decide)) (by rfl) (pa_cons (pv 5) (pa_cons (pv 9) pa_nil))))) (pw_or1 (pt_not (pt_val (call_ C__law_rounds_right (hr.mono (by decide)) (by rfl) (pa_cons (pv 6) (pa_cons (pv 9) pa_nil))))))))
      (pss_one (ps_ret pe_bl))
      pss_nil)))))))
    (pss_cons (ps_if (pt_not (pt_val (callG hG C__law_sums_right (hr.mono (by decide)) (by rfl) (pa_cons (pv 3) (pa_cons (pv 5) (pa_cons (pv 6) (pa_cons (pv 9) pa_nil)))))))
      (pss_one (ps_ret pe_bl))
      pss_nil)
    (pss_cons (ps_set (i := 8) sc.nd rfl (Or.inr rfl) (call_ C__law_amount (hr.mono (by decide)) (by rfl) (pa_cons (pv 3) (pa_cons (pe_ifExp (pt_cmpR op_lt (pv 4) pe_int (nomark _)) (pe_op op_add (pv 4) pe_int) pe_int) pa_nil))))
    (pss_cons (ps_if (pt_cmpR op_ne (LamX.pe_lamcall (T := T) (k := 3) (TT := THeard CF) (t := fun E => tCall (spSumX CF) [] E (tCons (tVar 5) (tCons (tVar 8) tNil))) rfl gH1 gH2 lkH hcH bH sc_heard rfl (Or.inl rfl) (heard_gives X m_isinstance m_ValueError) TB rfl hT hu (hr.mono (by decide)) (LamX.lamS_by (sc := defScope s_law) (by decide +kernel)) rfl (fun _ _ _ _ _ => rfl)
      (fun A' outer' s' H' E' f' c' hr' => pe_call FX (hr'.mono (by decide)) (by rfl) gX kX bX .nil (passes_call (takes_of rfl rfl rfl rfl) (fun _ _ _ _ z => z)) (pa_cons (pv 5) (pa_cons (pv 8) pa_nil)))) pe_str (nomark _))
      (pss_one (ps_ret pe_bl))
      pss_nil)
    (pss_one (ps_if (pt_cmpR op_ne (LamX.pe_lamcall (T := T) (k := 3) (TT := THeard CF) (t := fun E => tCall (spCmpX CF) [] E (tCons (tVar 5) (tCons (tVar 8) (tCons (tVar 9) tNil)))) rfl gH1 gH2 lkH hcH bH sc_heard rfl (Or.inl rfl) (heard_gives X m_isinstance m_ValueError) TB rfl hT hu (hr.mono (by decide)) (LamX.lamS_by (sc := defScope s_law) (by decide +kernel)) rfl (fun _ _ _ _ _ => rfl)
      (fun A' outer' s' H' E' f' c' hr' => pe_call FY (hr'.mono (by decide)) (by rfl) gY kY bY .nil (passes_call (takes_of rfl rfl rfl rfl) (fun _ _ _ _ z => z)) (pa_cons (pv 5) (pa_cons (pv 8) (pa_cons (pv 9) pa_nil))))) pe_str (nomark _))
      (pss_one (ps_ret pe_bl))
      pss_nil))))))))))))
    (pss_cons (ps_set (i := 2) sc.nd rfl (Or.inl rfl) (pe_lst (pa_cons (call_ C_above_row (hr.mono (by decide)) (by rfl) (pa_cons (pe_tup (pa_cons (pe_tup (pa_cons pe_int pa_nil)) (pa_cons (pe_tup pa_nil) (pa_cons pe_int pa_nil)))) pa_nil)) (pa_cons (call_ C_round_up (hr.mono (by decide)) (by rfl) (pa_cons (pe_tup (pa_cons (pe_tup (pa_cons pe_int pa_nil)) (pa_cons (pe_tup pa_nil) (pa_cons pe_int pa_nil)))) pa_nil)) (pa_cons (call_ C_round_down (hr.mono (by decide)) (by rfl) (pa_cons (pe_tup (pa_cons (pe_tup (pa_cons pe_int pa_nil)) (pa_cons (pe_tup (pa_cons pe_int (pa_cons (pe_un un_neg pe_int) pa_nil))) (pa_cons pe_int pa_nil)))) pa_nil)) pa_nil)))))
    (pss_one (ps_ret (callG hG C__law_like (hr.mono (by decide)) (by rfl) (pa_cons (pe_op op_cat (pv 2) (pe_lst (pa_cons (call_ C_round_up (hr.mono (by decide)) (by rfl) (pa_cons (pe_tup (pa_cons (pe_tup (pa_cons pe_int pa_nil)) (pa_cons (pe_tup (pa_cons pe_int pa_nil)) (pa_cons pe_int pa_nil)))) pa_nil)) pa_nil))) (pa_cons (pe_lst (pa_cons (pe_tup (pa_cons (pe_un un_neg pe_int) pa_nil)) (pa_cons (pe_tup (pa_cons (pe_tup (pa_cons pe_int (pa_cons (pe_tup (pa_cons pe_int pa_nil)) pa_nil))) (pa_cons pe_int pa_nil))) (pa_cons (pe_tup (pa_cons (pe_tup (pa_cons pe_int (pa_cons (pe_tup (pa_cons pe_int pa_nil)) pa_nil))) (pa_cons pe_int pa_nil))) (pa_cons (pe_tup (pa_cons (pe_tup (pa_cons pe_int (pa_cons (pe_tup (pa_cons pe_int pa_nil)) pa_nil))) (pa_cons pe_int pa_nil))) pa_nil))))) pa_nil))))))), ?_⟩
    refine ⟨4, rfl, by decide, by decide, for_range (lo := 0) (n := 4) (fun i σ H' => (∃ y1 y2 y3 y4 y5 y6 y7 y8 y9 y10 y11, σ = [some (.ref a0), y1, y2, y3, y4, y5, y6, y7, y8, y9, y10, y11]) ∧ LamX.ExtN H H' ∧ LamX.Tabs T H') ⟨⟨none, none, none, none, none, none, none, none, none, none, none, rfl⟩, LamX.ExtN.refl _, hTab⟩ ?_ ?_⟩
    · rintro i σ H0 hi ⟨⟨y1, y2, y3, y4, y5, y6, y7, y8, y9, y10, y11, rfl⟩, e0, T0⟩
      refine ⟨.ref a0, rfl, .int (0 + i), rfl, a0, 0 + i, ns, rfl, sql_ext hS e0, hl, by omega, by omega, fun H1 m r s1 nm M1 => ?_⟩
      have e1 : LamX.ExtN H0 H1 := LamX.ExtN.of s1
      have T1 := T0.ext s1
      obtain ⟨kv1, hm1⟩ := M1.m_some
      refine ⟨.ref m, rfl, m, r, 0, 4, rfl, M1, by omega, by decide, by decide, fun H2 v b2 M2 v0 v1 => ?_⟩
      obtain ⟨n, rfl⟩ : ∃ n : Nat, v = n := ⟨v.toNat, by omega⟩
      refine ⟨.ref m, rfl, .int n, rfl, m, r, 0 + 1, n, rfl, M2, by omega, by omega, fun H3 a f1 t1 D1 b3 M3 hA l1 z1 => ?_⟩
      refine ⟨.ref m, rfl, m, r, 0 + 1 + 60, 3, rfl, M3, by omega, by decide, by decide, fun H4 u b4 M4 u0 u1 => ⟨rfl, _, rfl, ?_⟩⟩
      obtain ⟨kv3, hm3⟩ := M3.m_some
      have hA := hA.but hm3 b4
      refine tif_bothH (fun x H' => ∃ b f2 t2 D2, x = .ref b ∧ SameBut m H4 H' ∧ MOk H' m r 200 ∧ Am H' b f2 t2 D2 ∧ f2.length = f1.length ∧ Sml 100 f2 t2 D2) ?_ ?_ ?_
      rotate_left
      · intro _ hQ
        exact ⟨.ref m, rfl, .int n, rfl, m, r, _, n, rfl, M4, by omega, by omega, fun H5 b f2 t2 D2 b5 M5 hB l2 z2 => hQ _ _ ⟨b, f2, t2, D2, rfl, b5, M5.mono (by omega), hB, by omega, z2.sml⟩⟩
      · intro _ hQ
        exact ⟨.ref m, rfl, .ref a, rfl, m, r, a, _, f1, t1, D1, rfl, M4, by omega, hA, z1, fun H5 b f2 t2 D2 b5 M5 hB l2 z2 => hQ _ _ ⟨b, f2, t2, D2, rfl, b5, M5.mono (by omega), hB, l2, z2⟩⟩
      rintro _ H5 ⟨b, f2, t2, D2, rfl, b5, M5, hB, l2, z2⟩
      obtain ⟨kv4, hm4⟩ := M4.m_some
      have hA := hA.but hm4 b5
      have z1 := z1.sml
      refine ⟨.ref a, rfl, .int n, rfl, a, .int n, f1, t1, D1, rfl, hA, z1, fun H6 s6 => ⟨_, rfl, iteF ?_⟩⟩
      have hA := hA.same s6
      have hB := hB.same s6
      have M6 := M5.same s6
      have b16 : SameBut m H1 H6 := (b2.trans b3).trans (b4.trans (b5.trans (SameBut.of s6)))
      obtain ⟨kv6, hm6⟩ := M6.m_some
      clear b2 b3 b4 b5 M2 M3 M4 M5 hm3 hm4 s6
      refine ⟨8, rfl, by decide, by decide, for_range (lo := 0) (n := 8) (fun j σ H' => (∃ y2 y7 y9 y10 y11, σ = [some (.ref a0), some (.int (0 + i)), y2, some (.ref m), some (.int n), some (.ref a), some (.ref b), y7, y8, y9, y10, y11] ∧ (0 < j → ∃ c, y9 = some (.ref c))) ∧ SameBut m H6 H' ∧ MOk H' m r (200 + 9 * j)) ⟨⟨_, _, _, _, _, rfl, fun z => absurd z (Nat.lt_irrefl 0)⟩, SameBut.refl _ _, M6⟩ ?_ ?_⟩
      · rintro j σ H7 hj ⟨⟨y2, y7, y9, y10, y11, rfl, _⟩, b7, M7⟩
        refine ⟨.int n, rfl, (n : Int), rfl, by omega, by omega, fun D nD => ?_⟩
        rw [Int.toNat_natCast]
        refine lc_dr (w := 3) (q := 200 + 9 * j) (m := m) (c := r) (fun _ x => -1000000000000 ≤ x ∧ x ≤ 1000000000000) (small (by omega)) M7 nD ?_ ?_
        · intro e H8 Qy he _ M8 hQ
          refine ⟨rfl, .ref m, rfl, .ref m, rfl, 10, 12, rfl, rfl, ⟨by decide, by decide, by decide⟩, by show 3 ≤ sizeLine; decide, fun S nS => ?_⟩
          have p12 : (10 : Int) ^ (12 : Int).toNat = 1000000000000 := by decide
          dsimp only at nS ⊢
          rw [p12]
          have s9 : Same H8 (upd H8 S (.lst [.int 2, .int 30, .int 1000000000000])) := same_new nS
          have g9 : upd H8 S (.lst [.int 2, .int 30, .int 1000000000000]) S = some (.lst [.int 2, .int 30, .int 1000000000000]) := upd_same
          generalize upd H8 S (.lst [.int 2, .int 30, .int 1000000000000]) = H9 at s9 g9 ⊢
          refine ⟨m, r, S, _, _, rfl, M8.same s9, by omega, g9, by show 0 < 3; decide, by show 3 ≤ 100; decide, fun H10 y b10 M10 hy => ?_⟩
          have hb : ∃ z : Int, y = .int z ∧ 0 ≤ z ∧ z ≤ 1000000000000 := by
            simp only [List.mem_cons, List.not_mem_nil, or_false] at hy
            rcases hy with rfl | rfl | rfl
            · exact ⟨_, rfl, by decide, by decide⟩
            · exact ⟨_, rfl, by decide, by decide⟩
            · exact ⟨_, rfl, by decide, by decide⟩
          obtain ⟨z, rfl, z0, z9⟩ := hb
          exact ⟨m, r, _, z, rfl, M10, by omega, z0, by omega, fun H11 x b11 M11 x0 x1 => hQ H11 x ((SameBut.of s9).trans (b10.trans b11)) (M11.mono (by omega)) ⟨by omega, by omega⟩⟩
        intro H8 ps b8 M8 d8 l8 bx
        have bx := all_of_get bx
        refine ⟨D, _, rfl, .inl ⟨SqL.of d8, fun c nc => ?_⟩⟩
        have s9 : Same H8 (upd H8 c (.tup (ps.map V.int))) := same_new nc
        have g9 : Tp (upd H8 c (.tup (ps.map V.int))) c (ps.map V.int) := upd_same
        generalize upd H8 c (.tup (ps.map V.int)) = H9 at s9 g9 ⊢
        have zp : ∀ x ∈ ps, SmZ 60 x := fun x hx => by
          have := bx x hx
          exact Nat.lt_of_le_of_lt (show x.natAbs ≤ 1000000000000 by omega) (by decide)
        have rp : Row H9 c ps := ⟨g9, by omega, fun x hx => smz_mono (zp x hx) (by decide)⟩
        have b69 : SameBut m H6 H9 := b7.trans (b8.trans (SameBut.of s9))
        have hA9 := hA.but hm6 b69
        have hB9 := hB.but hm6 b69
        have M9 := M8.same s9
        have la : f1.length = ps.length + 1 := by omega
        have lb : f2.length = ps.length + 1 := by omega
        refine ⟨.ref a, rfl, .ref b, rfl, .ref c, rfl, a, b, c, f1, t1, f2, t2, D1, D2, ps, rfl, hA9, hB9, z1, z2, rp, la, lb, zp, fun H10 s10 => ?_⟩
        have cs := cmp_swap (fv f1 ps) t1 D1 (fv f2 ps) t2 D2
        have c0 := cmp_self (fv f1 ps) t1 D1
        have A10 := hA9.same s10
        have B10 := hB9.same s10
        have p10 := rp.same s10
        refine ⟨.ref a, rfl, .ref b, rfl, .ref c, rfl, a, b, c, f1, t1, f2, t2, D1, D2, ps, rfl, A10, B10, z1, z2, l2.symm, p10, la, fun H11 s11 => ?_⟩
        refine ⟨.ref b, rfl, .ref a, rfl, .ref c, rfl, b, a, c, f2, t2, f1, t1, D2, D1, ps, rfl, B10.same s11, A10.same s11, z2, z1, l2, p10.same s11, lb, fun H12 s12 => ?_⟩
        have s1012 := s11.trans s12
        refine ⟨.ref a, rfl, .ref a, rfl, .ref c, rfl, a, a, c, f1, t1, f1, t1, D1, D1, ps, rfl, A10.same s1012, A10.same s1012, z1, z1, rfl, p10.same s1012, la, fun H13 s13 => ?_⟩
        refine ⟨by show 3 ≤ sizeLine; decide, fun L nL => ?_⟩
        rw [cs, c0]
        have hcb : (cmpI (fv f1 ps) t1 D1 (fv f2 ps) t2 D2).natAbs ≤ 1 := by
          unfold cmpI
          exact lex_abs _
        generalize cmpI (fv f1 ps) t1 D1 (fv f2 ps) t2 D2 = sd at hcb nL ⊢
        have s14 : Same H13 (upd H13 L (.lst [.int sd, .int (-sd), .int 0])) := same_new nL
        have g14 : upd H13 L (.lst [.int sd, .int (-sd), .int 0]) L = some (.lst [.int sd, .int (-sd), .int 0]) := upd_same
        generalize upd H13 L (.lst [.int sd, .int (-sd), .int 0]) = H14 at s14 g14 ⊢
        refine ⟨.ref L, rfl, .int sd, rfl, .int sd, rfl, sd, rfl, by show 3 ≤ sizeLine; decide, fun M nM => ?_⟩
        have s15 : Same H14 (upd H14 M (.lst [.int sd, .int (-sd), .int 0])) := same_new nM
        have g15 : upd H14 M (.lst [.int sd, .int (-sd), .int 0]) M = some (.lst [.int sd, .int (-sd), .int 0]) := upd_same
        generalize upd H14 M (.lst [.int sd, .int (-sd), .int 0]) = H15 at s15 g15 ⊢
        have s915 := (s10.trans s1012).trans ((s13.trans s14).trans s15)
        have fi : ∀ k (x : Int), x.natAbs ≤ 1 → FitN k 0 (.int x) := fun k x hx => FitN.int (Nat.lt_of_le_of_lt hx (by decide))
        refine ⟨.ref L, .ref M, .list [.int sd, .int (-sd), .int 0], rfl, .lst (SqL.of (s15 _ _ g14)) (.cons (.int _) (.cons (.int _) (.cons (.int _) .nil))), .lst (SqL.of g15) (.cons (.int _) (.cons (.int _) (.cons (.int _) .nil))), ?_, _, rfl, iteF ?_⟩
        · exact FitN.mono (.list (k := 0) (.cons (n := 10) (fi 0 sd hcb) (.cons (n := 8) (fi 0 (-sd) (by omega)) (.cons (n := 6) (b := 0) (fi 0 0 (by decide)) .nil (by decide)) (by decide)) (by decide))) (by decide) (by decide)
        refine ⟨.ref a, rfl, .ref c, rfl, a, c, f1, t1, D1, ps, rfl, hA9.same s915, z1, rp.same s915, la, zp, fun H16 s16 => ⟨_, rfl, iteF ?_⟩⟩
        have s916 := s915.trans s16
        refine ⟨.ref b, rfl, .ref c, rfl, b, c, f2, t2, D2, ps, rfl, hB9.same s916, z2, rp.same s916, lb, zp, fun H17 s17 => ⟨_, rfl, iteF ?_⟩⟩
        exact ⟨⟨_, _, _, _, _, rfl, fun _ => ⟨c, rfl⟩⟩, b69.trans (SameBut.of (s916.trans s17)), (M9.same (s916.trans s17)).mono (by omega)⟩
      rintro σ H7 ⟨⟨y2, y7, y9, y10, y11, rfl, hc⟩, b7, M7⟩
      obtain ⟨c, rfl⟩ := hc (by decide)
      have hA7 := hA.but hm6 b7
      have hB7 := hB.but hm6 b7
      refine ⟨.ref m, rfl, .ref a, rfl, .ref b, rfl, .ref c, rfl, m, r, a, b, _, f1, t1, f2, t2, D1, D2, .ref c, rfl, M7, by omega, hA7, hB7, z1, z2, l2.symm, fun H8 b8 M8 => ⟨_, rfl, iteF ?_⟩⟩
      obtain ⟨kv7, hm7⟩ := M7.m_some
      have hA8 := hA7.but hm7 b8
      refine ⟨.ref m, rfl, .int n, rfl, n, 3, rfl, rfl, _, rfl, ?_⟩
      refine tif_both (fun v => ∃ k : Nat, v = .int k ∧ k ≤ 4 ∧ k ≠ n) ?_ (fun hc hQ => ?_) (fun hc hQ => ?_)
      rotate_left
      · have hc := of_decide_eq_true hc
        exact ⟨.int n, rfl, n, 1, rfl, rfl, hQ _ ⟨n + 1, by rw [Int.natCast_succ], by omega, by omega⟩⟩
      · have hc := of_decide_eq_false hc
        exact hQ _ ⟨0, rfl, by omega, by omega⟩
      rintro _ ⟨k3, rfl, hk3, hkn⟩
      refine ⟨m, r, _, k3, rfl, M8, by omega, hk3, fun H9 lo f3 t3 D3 b9 M9 hL l3 z3 => ?_⟩
      obtain ⟨kv8, hm8⟩ := M8.m_some
      have hA9 := hA8.but hm8 b9
      have b19 : SameBut m H1 H9 := (b16.trans b7).trans (b8.trans b9)
      have e9 : LamX.ExtN H0 H9 := ext_but nm e1 b19
      have T9 : LamX.Tabs T H9 := tabs_but T1 hm1 b19
      have hne : f1.length ≠ f3.length := by omega
      refine heard_read T9 (fun x H' => x = .str "fit" ∧ LamX.ExtN H9 H' ∧ LamX.Tabs T H') ?_ ?_
      rotate_left
      · intro H10 E' Q' e10 T10 hE hQ'
        exact ⟨.ref a, rfl, .ref lo, rfl, a, lo, f1, t1, f3, t3, D1, D3, rfl, hA9.ext e10, hL.ext e10, hne, hE H10 (Same.refl _) fun e ne => ⟨rfl, ext_same e10 (same_new ne), T10.ext (same_new ne)⟩⟩
      rintro _ H10 ⟨rfl, e10, T10⟩
      refine ⟨rfl, _, rfl, iteF' (by rw [decide_eq_true rfl]; rfl) ?_⟩
      refine heard_read T10 (fun x H' => x = .str "fit" ∧ LamX.ExtN H9 H' ∧ LamX.Tabs T H') ?_ ?_
      rotate_left
      · intro H11 E' Q' e11 T11 hE hQ'
        have e := e10.trans e11
        exact ⟨.ref a, rfl, .ref lo, rfl, .ref c, rfl, a, lo, c, f1, t1, f3, t3, D1, D3, rfl, hA9.ext e, hL.ext e, hne, hE H11 (Same.refl _) fun e' ne => ⟨rfl, ext_same e (same_new ne), T11.ext (same_new ne)⟩⟩
      rintro _ H11 ⟨rfl, e11, T11⟩
      exact ⟨rfl, _, rfl, iteF' (by rw [decide_eq_true rfl]; rfl) ⟨⟨_, _, _, _, _, _, _, _, _, _, _, rfl⟩, e0.trans (e9.trans e11), T11⟩⟩
    · rintro σ H0 ⟨⟨y1, y2, y3, y4, y5, y6, y7, y8, y9, y10, y11, rfl⟩, e0, T0⟩
      clear hS hTab TB hT hu e0 T0
      have sm : ∀ x : Int, x.natAbs ≤ 9 → SmZ 300 x := fun x hx => Nat.lt_of_le_of_lt hx (by decide)
      refine ⟨by show 1 ≤ sizeLine; decide, fun p1 n1 => ⟨by show 0 ≤ sizeLine; decide, fun p2 n2 => ⟨by show 3 ≤ sizeLine; decide, fun p3 n3 => ?_⟩⟩⟩
      obtain ⟨s1, A1⟩ := am_new (f := [0]) (t := []) (D := 1) n1 n2 n3 (by decide) (by decide)
      replace s1 : Same H0 (upd (upd (upd H0 p1 (.tup [.int 0])) p2 (.tup [])) p3 (.tup [.ref p1, .ref p2, .int 1])) := s1
      replace A1 : Am (upd (upd (upd H0 p1 (.tup [.int 0])) p2 (.tup [])) p3 (.tup [.ref p1, .ref p2, .int 1])) p3 [0] [] 1 := A1
      generalize upd (upd (upd H0 p1 (.tup [.int 0])) p2 (.tup [])) p3 (.tup [.ref p1, .ref p2, .int 1]) = H1 at s1 A1 ⊢
      refine ⟨p3, [0], [], 1, rfl, A1, ⟨by decide, by decide, by decide, by decide, by decide, by decide, by decide⟩, fun ra H2 s2 ga => ?_⟩
      refine ⟨by show 1 ≤ sizeLine; decide, fun p1 n1 => ⟨by show 0 ≤ sizeLine; decide, fun p2 n2 => ⟨by show 3 ≤ sizeLine; decide, fun p3 n3 => ?_⟩⟩⟩
      obtain ⟨s3, A3⟩ := am_new (f := [6]) (t := []) (D := 4) n1 n2 n3 (by decide) (by decide)
      replace s3 : Same H2 (upd (upd (upd H2 p1 (.tup [.int 6])) p2 (.tup [])) p3 (.tup [.ref p1, .ref p2, .int 4])) := s3
      replace A3 : Am (upd (upd (upd H2 p1 (.tup [.int 6])) p2 (.tup [])) p3 (.tup [.ref p1, .ref p2, .int 4])) p3 [6] [] 4 := A3
      generalize upd (upd (upd H2 p1 (.tup [.int 6])) p2 (.tup [])) p3 (.tup [.ref p1, .ref p2, .int 4]) = H3 at s3 A3 ⊢
      refine ⟨p3, [6], [], 4, rfl, A3, ⟨by decide, by decide, by decide, by decide, by decide, by decide, by decide⟩, fun rb qb pb H4 s4 gb1 gb2 gb3 => ?_⟩
      have gb : Ud H4 rb [9] 4 0 := ⟨qb, pb, gb1, gb2, gb3⟩
      refine ⟨by show 1 ≤ sizeLine; decide, fun p1 n1 => ⟨1, rfl, by show 2 ≤ sizeLine; decide, fun p2 n2 => ⟨by show 3 ≤ sizeLine; decide, fun p3 n3 => ?_⟩⟩⟩
      obtain ⟨s5, A5⟩ := am_new (f := [6]) (t := [0, -1]) (D := 3) n1 n2 n3 (by decide) (by decide)
      replace s5 : Same H4 (upd (upd (upd H4 p1 (.tup [.int 6])) p2 (.tup [.int 0, .int (-1)])) p3 (.tup [.ref p1, .ref p2, .int 3])) := s5
      replace A5 : Am (upd (upd (upd H4 p1 (.tup [.int 6])) p2 (.tup [.int 0, .int (-1)])) p3 (.tup [.ref p1, .ref p2, .int 3])) p3 [6] [0, -1] 3 := A5
      generalize upd (upd (upd H4 p1 (.tup [.int 6])) p2 (.tup [.int 0, .int (-1)])) p3 (.tup [.ref p1, .ref p2, .int 3]) = H5 at s5 A5 ⊢
      refine ⟨p3, [6], [0, -1], 3, rfl, A5, ⟨by decide, by decide, by decide, by decide, by decide, by decide, by decide⟩, fun rc qc pc H6 s6 gc1 gc2 gc3 => ?_⟩
      have gc : Ud H6 rc [5] 3 0 := ⟨qc, pc, gc1, gc2, gc3⟩
      refine ⟨by show 3 ≤ sizeLine; decide, fun L nL => ?_⟩
      have s7 : Same H6 (upd H6 L (.lst [.ref ra, .ref rb, .ref rc])) := same_new nL
      have g7 : upd H6 L (.lst [.ref ra, .ref rb, .ref rc]) L = some (.lst [.ref ra, .ref rb, .ref rc]) := upd_same
      generalize upd H6 L (.lst [.ref ra, .ref rb, .ref rc]) = H7 at s7 g7 ⊢
      refine ⟨.ref L, rfl, ?_⟩
      refine ⟨by show 1 ≤ sizeLine; decide, fun p1 n1 => ⟨by show 1 ≤ sizeLine; decide, fun p2 n2 => ⟨by show 3 ≤ sizeLine; decide, fun p3 n3 => ?_⟩⟩⟩
      obtain ⟨s8, A8⟩ := am_new (f := [6]) (t := [1]) (D := 3) n1 n2 n3 (by decide) (by decide)
      replace s8 : Same H7 (upd (upd (upd H7 p1 (.tup [.int 6])) p2 (.tup [.int 1])) p3 (.tup [.ref p1, .ref p2, .int 3])) := s8
      replace A8 : Am (upd (upd (upd H7 p1 (.tup [.int 6])) p2 (.tup [.int 1])) p3 (.tup [.ref p1, .ref p2, .int 3])) p3 [6] [1] 3 := A8
      generalize upd (upd (upd H7 p1 (.tup [.int 6])) p2 (.tup [.int 1])) p3 (.tup [.ref p1, .ref p2, .int 3]) = H8 at s8 A8 ⊢
      refine ⟨p3, [6], [1], 3, rfl, A8, ⟨by decide, by decide, by decide, by decide, by decide, by decide, by decide⟩, fun re qe pe H9 s9 ge1 ge2 ge3 => ?_⟩
      have ge : Ud H9 re [6] 3 1 := ⟨qe, pe, ge1, ge2, ge3⟩
      refine ⟨by show 1 ≤ sizeLine; decide, fun L2 nL2 => ?_⟩
      have s10 : Same H9 (upd H9 L2 (.lst [.ref re])) := same_new nL2
      have g10 : upd H9 L2 (.lst [.ref re]) L2 = some (.lst [.ref re]) := upd_same
      generalize upd H9 L2 (.lst [.ref re]) = H10 at s10 g10 ⊢
      have s710 := (s8.trans s9).trans s10
      refine ⟨L, L2, [.ref ra, .ref rb, .ref rc], [.ref re], rfl, rfl, s710 _ _ g7, g10, Nat.le_of_lt (small (by show 3 + 1 ≤ 100; decide)), fun L3 nL3 => ?_⟩
      have s11 : Same H10 (upd H10 L3 (.lst ([.ref ra, .ref rb, .ref rc] ++ [.ref re]))) := same_new nL3
      have g11 : upd H10 L3 (.lst ([.ref ra, .ref rb, .ref rc] ++ [.ref re])) L3 = some (.lst [.ref ra, .ref rb, .ref rc, .ref re]) := upd_same
      generalize upd H10 L3 (.lst ([.ref ra, .ref rb, .ref rc] ++ [.ref re])) = H11 at s11 g11 ⊢
      refine ⟨1, rfl, by show 1 ≤ sizeLine; decide, fun d1 m1 => ?_⟩
      have s12 : Same H11 (upd H11 d1 (.tup [.int (-1)])) := same_new m1
      have g12 : Tp (upd H11 d1 (.tup [.int (-1)])) d1 ([-1].map V.int) := upd_same
      generalize upd H11 d1 (.tup [.int (-1)]) = H12 at s12 g12 ⊢
      refine ⟨by show 1 ≤ sizeLine; decide, fun p1 n1 => ⟨by show 2 ≤ sizeLine; decide, fun p2 n2 => ⟨by show 2 ≤ sizeLine; decide, fun d2 n3 => ?_⟩⟩⟩
      obtain ⟨s13, g13⟩ := ud_new (f := [9]) (D := 4) (j := 0) n1 n2 n3 (by decide)
      replace s13 : Same H12 (upd (upd (upd H12 p1 (.tup [.int 9])) p2 (.tup [.int 4, .ref p1])) d2 (.tup [.ref p2, .int 0])) := s13
      replace g13 : Ud (upd (upd (upd H12 p1 (.tup [.int 9])) p2 (.tup [.int 4, .ref p1])) d2 (.tup [.ref p2, .int 0])) d2 [9] 4 0 := g13
      generalize upd (upd (upd H12 p1 (.tup [.int 9])) p2 (.tup [.int 4, .ref p1])) d2 (.tup [.ref p2, .int 0]) = H13 at s13 g13 ⊢
      refine ⟨by show 1 ≤ sizeLine; decide, fun p1 n1 => ⟨by show 2 ≤ sizeLine; decide, fun p2 n2 => ⟨by show 2 ≤ sizeLine; decide, fun d3 n3 => ?_⟩⟩⟩
      obtain ⟨s14, g14⟩ := ud_new (f := [5]) (D := 3) (j := 0) n1 n2 n3 (by decide)
      replace s14 : Same H13 (upd (upd (upd H13 p1 (.tup [.int 5])) p2 (.tup [.int 3, .ref p1])) d3 (.tup [.ref p2, .int 0])) := s14
      replace g14 : Ud (upd (upd (upd H13 p1 (.tup [.int 5])) p2 (.tup [.int 3, .ref p1])) d3 (.tup [.ref p2, .int 0])) d3 [5] 3 0 := g14
      generalize upd (upd (upd H13 p1 (.tup [.int 5])) p2 (.tup [.int 3, .ref p1])) d3 (.tup [.ref p2, .int 0]) = H14 at s14 g14 ⊢
      refine ⟨by show 1 ≤ sizeLine; decide, fun p1 n1 => ⟨by show 2 ≤ sizeLine; decide, fun p2 n2 => ⟨by show 2 ≤ sizeLine; decide, fun d4 n3 => ?_⟩⟩⟩
      obtain ⟨s15, g15⟩ := ud_new (f := [6]) (D := 3) (j := 1) n1 n2 n3 (by decide)
      replace s15 : Same H14 (upd (upd (upd H14 p1 (.tup [.int 6])) p2 (.tup [.int 3, .ref p1])) d4 (.tup [.ref p2, .int 1])) := s15
      replace g15 : Ud (upd (upd (upd H14 p1 (.tup [.int 6])) p2 (.tup [.int 3, .ref p1])) d4 (.tup [.ref p2, .int 1])) d4 [6] 3 1 := g15
      generalize upd (upd (upd H14 p1 (.tup [.int 6])) p2 (.tup [.int 3, .ref p1])) d4 (.tup [.ref p2, .int 1]) = H15 at s15 g15 ⊢
      refine ⟨by show 4 ≤ sizeLine; decide, fun L4 nL4 => ?_⟩
      have s16 : Same H15 (upd H15 L4 (.lst [.ref d1, .ref d2, .ref d3, .ref d4])) := same_new nL4
      have g16 : upd H15 L4 (.lst [.ref d1, .ref d2, .ref d3, .ref d4]) L4 = some (.lst [.ref d1, .ref d2, .ref d3, .ref d4]) := upd_same
      generalize upd H15 L4 (.lst [.ref d1, .ref d2, .ref d3, .ref d4]) = H16 at s16 g16 ⊢
      have t15 := s15.trans s16
      have t14 := s14.trans t15
      have t13 := s13.trans t14
      have t12 := s12.trans t13
      have t10 := (s10.trans s11).trans t12
      have t7 := (s7.trans (s8.trans s9)).trans t10
      have t5 := (s5.trans s6).trans t7
      have t3 := (s3.trans s4).trans t5
      have ga : Row H16 ra [-1] := (show Row H2 ra [-1] from ga).same t3
      refine ⟨.ref L3, .ref L4, .list [dRow [-1], dUd [9] 4 0, dUd [5] 3 0, dUd [6] 3 1], rfl, .lst (SqL.of (t12 _ _ g11)) (.cons (dp_row ga.1) (.cons (gb.same t5).dp (.cons (gc.same t7).dp (.cons (ge.same t10).dp .nil)))), .lst (SqL.of g16) (.cons (dp_row (g12.same t13)) (.cons (g13.same t14).dp (.cons (g14.same t15).dp (.cons (g15.same s16).dp .nil)))), ?_, k _⟩
      have fr : ∀ x : Int, x.natAbs ≤ 9 → ∀ k, FitN (k + 1) 1 (dRow [x]) := fun x hx k => fit_ints 1 [x] (fun y hy => by
        rw [List.mem_singleton] at hy
        rw [hy]
        exact sm x hx) (Nat.le_refl _)
      have fi : ∀ k (x : Int), x.natAbs ≤ 9 → FitN k 0 (.int x) := fun k x hx => FitN.int (Nat.lt_of_le_of_lt hx (by decide))
      have fu : ∀ x D j : Int, x.natAbs ≤ 9 → D.natAbs ≤ 9 → j.natAbs ≤ 9 → FitN 3 5 (dUd [x] D j) := fun x D j hx hD hj => fit_two (k := 2) (n := 3) (m := 0) (fit_two (k := 1) (n := 0) (m := 1) (fi 1 D hD) (fr x hx 0)) (fi 2 j hj)
      exact FitN.mono (.list (k := 3) (.cons (n := 60) ((fr (-1) (by decide) 2)) (.cons (n := 50) (fu 9 4 0 (by decide) (by decide) (by decide)) (.cons (n := 30) (fu 5 3 0 (by decide) (by decide) (by decide)) (.cons (n := 10) (b := 0) (fu 6 3 1 (by decide) (by decide) (by decide)) .nil (by decide)) (by decide)) (by decide)) (by decide))) (by decide) (by decide)
end
end K17
namespace K17
open PySem PySem.Spec PyProof.Rows L2 Vk
section
variable {P : Program} {w : World} {K : PySem.W.Frag} {mg : Str → Option Value} {base : Heap}
/-- a def of the text by its name -/
theorem cal_of {x : Str} {st : Stmt} {f : Addr} {fd : FuncData} {k : Nat} {ps : List Str} {sp : Sp} (F : Fun K x x st f fd) (g : mg x = some (.ref f)) (G : FnOk P w K mg base CX0 k f fd ps sp) (b : Binds K fd ps []) : Cal P w K mg base k x ps sp := ⟨f, fd, G, g, F.kp, b⟩
theorem calG_of {x : Str} {st : Stmt} {f : Addr} {fd : FuncData} {k : Nat} {ps : List Str} {sp : Sp} (F : Fun K x x st f fd) (g : mg x = some (.ref f)) (G : FnG P w K mg base k f fd ps sp) (b : Binds K fd ps []) : CalG P w K mg base k x ps sp := ⟨f, fd, G, g, F.kp, b⟩
theorem tab_in {x : Str} {f c P : Addr} {oc oc2 : Value} {od od2 : Option Addr} {fd : FuncData} {sl sl2 : Array (Option Value)} {vs : Array Value} (a : PySem.W.nsIn K mainGlobals x = some (some (.ref f))) (l : K.lookup f = some ⟨oc, od, .func fd, sl⟩) (hc : fd.code = .ref c) (q : K.lookup c = some ⟨oc2, od2, .fields vs, sl2⟩) (v : vs[11]? = some (.ref P)) :
    PySem.W.tabIn K x = some (c, P) := by
  unfold PySem.W.tabIn
  simp only [a, l, hc, q, v]
theorem tabs_one {P1 : Addr} {x1 : Str} {H : Hp} (h1 : H P1 = some (.tbl #[])) : LamX.Tabs [(P1, x1)] H := by
  intro p hp
  rw [List.mem_singleton] at hp
  subst hp
  exact .nil h1
theorem one_tab {P1 : Addr} {x1 : Str} : ∀ p ∈ [(P1, x1)], p.1 = P1 → p.2 = x1 := by
  intro p hp e
  rw [List.mem_singleton] at hp
  subst hp
  rfl
theorem all_mk {l : PySem.W.OpenLaw} {q : Program} {dL_law : DefRec} {h : Heap} {fa f_psum f_fval f_fsum f_ftimes f_fplus f_sign f_sts f_nfit f_tsum f_cmp f_above f_up f_down f_asum f_atimes f_begun f_draw f_of f_like f_gcd f_signed f_heard f_lfval f_worth f_amount f_beside f_lcmp f_rounds f_told f_sums f_law CT CF CS cd_law P_law : Addr} (X : K.In h) (G : h.Ns mainGlobals mg) (hfa : mg "law" = some (.ref fa)) (TO : TabsOf q K h)
     {od_psum an_psum od_fval an_fval od_fsum an_fsum od_ftimes an_ftimes od_fplus an_fplus od_sign an_sign od_sts an_sts od_nfit an_nfit od_tsum an_tsum od_cmp an_cmp od_above an_above od_up an_up od_down an_down od_asum an_asum od_atimes an_atimes od_begun an_begun od_draw an_draw od_of an_of od_like an_like od_gcd an_gcd od_signed an_signed od_heard an_heard od_lfval an_lfval od_worth an_worth od_amount an_amount od_beside an_beside od_lcmp an_lcmp od_rounds an_rounds od_told an_told od_sums an_sums od_law an_law : Option Addr} {sl_psum sl_fval sl_fsum sl_ftimes sl_fplus sl_sign sl_sts sl_nfit sl_tsum sl_cmp sl_above sl_up sl_down sl_asum sl_atimes sl_begun sl_draw sl_of sl_like sl_gcd sl_signed sl_heard sl_lfval sl_worth sl_amount sl_beside sl_lcmp sl_rounds sl_told sl_sums sl_law : Array (Option Value)}
    {odq_law : Option Addr} {slq_law : Array (Option Value)} {ocq_law : Value} {vsq_law : Array Value}
    {oc_psum kV_psum dc_psum pm_psum cd_psum ct_psum oc_fval kV_fval dc_fval pm_fval cd_fval ct_fval oc_fsum kV_fsum dc_fsum pm_fsum cd_fsum ct_fsum oc_ftimes kV_ftimes dc_ftimes pm_ftimes cd_ftimes ct_ftimes oc_fplus kV_fplus dc_fplus pm_fplus cd_fplus ct_fplus oc_sign kV_sign dc_sign pm_sign cd_sign ct_sign oc_sts kV_sts dc_sts pm_sts cd_sts ct_sts oc_nfit kV_nfit dc_nfit pm_nfit cd_nfit ct_nfit oc_tsum kV_tsum dc_tsum pm_tsum cd_tsum ct_tsum oc_cmp kV_cmp dc_cmp pm_cmp cd_cmp ct_cmp oc_above kV_above dc_above pm_above cd_above ct_above oc_up kV_up dc_up pm_up cd_up ct_up oc_down kV_down dc_down pm_down cd_down ct_down oc_asum kV_asum dc_asum pm_asum cd_asum ct_asum oc_atimes kV_atimes dc_atimes pm_atimes cd_atimes ct_atimes oc_begun kV_begun dc_begun pm_begun cd_begun ct_begun oc_draw kV_draw dc_draw pm_draw cd_draw ct_draw oc_of kV_of dc_of pm_of cd_of ct_of oc_like kV_like dc_like pm_like cd_like ct_like oc_gcd kV_gcd dc_gcd pm_gcd cd_gcd ct_gcd oc_signed kV_signed dc_signed pm_signed cd_signed ct_signed oc_heard kV_heard dc_heard pm_heard cd_heard ct_heard oc_lfval kV_lfval dc_lfval pm_lfval cd_lfval ct_lfval oc_worth kV_worth dc_worth pm_worth cd_worth ct_worth oc_amount kV_amount dc_amount pm_amount cd_amount ct_amount oc_beside kV_beside dc_beside pm_beside cd_beside ct_beside oc_lcmp kV_lcmp dc_lcmp pm_lcmp cd_lcmp ct_lcmp oc_rounds kV_rounds dc_rounds pm_rounds cd_rounds ct_rounds oc_told kV_told dc_told pm_told cd_told ct_told oc_sums kV_sums dc_sums pm_sums cd_sums ct_sums oc_law kV_law dc_law pm_law ct_law : Value}
    (a_CT : PySem.W.nsIn K mainGlobals "TallyError" = some (some (.ref CT)))
    (a_CF : PySem.W.nsIn K mainGlobals "NotFit" = some (some (.ref CF)))
    (a_CS : PySem.W.nsIn K mainGlobals "Singular" = some (some (.ref CS)))
    (e_ex : PySem.W.excIn K CF [.type "ValueError", .type "Exception", .type "BaseException", .type "object"] "ValueError.__new__" = true)
    (e_k : PySem.W.keepIn K (.ref CF) = true)
    (e_b : PySem.W.subIn K (.ref CF) (.type "BaseException") = some true)
    (e_t : PySem.W.typeIn K (.ref CF) = some (.type "type"))
    (x_g : PySem.W.findIn K (.ref CF) "__getattribute__" = some (some (.builtin "BaseException.__getattribute__")))
    (x_k : PySem.W.findIn K (.ref CF) "__getattr__" = some none)
    (x_d : PySem.W.hasDictIn K CF = true)
    (x_a : PySem.W.findIn K (.ref CF) "__class__" = some (some (.builtin "object.__class__")))
    (x_n : PySem.W.specialIn K (.builtin "object.__class__") "__get__" = some (some (.builtin "getset_descriptor.__get__")))
    (x_t : PySem.W.takesIn K (.builtin "object.__class__") = some true)
    (x_m : PySem.W.mroIn K CF (.type "object") = some true)
    (y_e : PySem.W.exmOne K (.ref CF) (.ref CT) = some true)
    (y_V : PySem.W.kitOne K (.ref CF) (.type "ValueError") = some true)
    (y_F : PySem.W.kitOne K (.ref CF) (.ref CF) = some true)
    (y_S : PySem.W.kitOne K (.ref CF) (.ref CS) = some false)
    (a_lcm : PySem.W.nsIn K mainGlobals "lcm" = some (some (.builtin "math.lcm")))
    (a_psum : PySem.W.nsIn K mainGlobals "product_sum" = some (some (.ref f_psum)))
    (l_psum : K.lookup f_psum = some ⟨oc_psum, od_psum, .func (PySem.W.fnOf "product_sum" "product_sum" (defArgs s_psum) (defBody s_psum) (defScope s_psum) .none kV_psum dc_psum pm_psum an_psum (cd_psum) ct_psum), sl_psum⟩)
    (c_psum : PySem.W.codeIn K (cd_psum) "product_sum" = true)
    (k_psum : PySem.W.keepIn K (.ref f_psum) = true)
    (a_fval : PySem.W.nsIn K mainGlobals "form_value" = some (some (.ref f_fval)))
    (l_fval : K.lookup f_fval = some ⟨oc_fval, od_fval, .func (PySem.W.fnOf "form_value" "form_value" (defArgs s_fval) (defBody s_fval) (defScope s_fval) .none kV_fval dc_fval pm_fval an_fval (cd_fval) ct_fval), sl_fval⟩)
    (c_fval : PySem.W.codeIn K (cd_fval) "form_value" = true)
    (k_fval : PySem.W.keepIn K (.ref f_fval) = true)
    (a_fsum : PySem.W.nsIn K mainGlobals "form_sum" = some (some (.ref f_fsum)))
    (l_fsum : K.lookup f_fsum = some ⟨oc_fsum, od_fsum, .func (PySem.W.fnOf "form_sum" "form_sum" (defArgs s_fsum) (defBody s_fsum) (defScope s_fsum) .none kV_fsum dc_fsum pm_fsum an_fsum (cd_fsum) ct_fsum), sl_fsum⟩)
    (c_fsum : PySem.W.codeIn K (cd_fsum) "form_sum" = true)
    (k_fsum : PySem.W.keepIn K (.ref f_fsum) = true)
    (a_ftimes : PySem.W.nsIn K mainGlobals "form_times" = some (some (.ref f_ftimes)))
    (l_ftimes : K.lookup f_ftimes = some ⟨oc_ftimes, od_ftimes, .func (PySem.W.fnOf "form_times" "form_times" (defArgs s_ftimes) (defBody s_ftimes) (defScope s_ftimes) .none kV_ftimes dc_ftimes pm_ftimes an_ftimes (cd_ftimes) ct_ftimes), sl_ftimes⟩)
    (c_ftimes : PySem.W.codeIn K (cd_ftimes) "form_times" = true)
    (k_ftimes : PySem.W.keepIn K (.ref f_ftimes) = true)
    (a_fplus : PySem.W.nsIn K mainGlobals "form_plus" = some (some (.ref f_fplus)))
    (l_fplus : K.lookup f_fplus = some ⟨oc_fplus, od_fplus, .func (PySem.W.fnOf "form_plus" "form_plus" (defArgs s_fplus) (defBody s_fplus) (defScope s_fplus) .none kV_fplus dc_fplus pm_fplus an_fplus (cd_fplus) ct_fplus), sl_fplus⟩)
    (c_fplus : PySem.W.codeIn K (cd_fplus) "form_plus" = true)
    (k_fplus : PySem.W.keepIn K (.ref f_fplus) = true)
    (a_sign : PySem.W.nsIn K mainGlobals "sign_of" = some (some (.ref f_sign)))
    (l_sign : K.lookup f_sign = some ⟨oc_sign, od_sign, .func (PySem.W.fnOf "sign_of" "sign_of" (defArgs s_sign) (defBody s_sign) (defScope s_sign) .none kV_sign dc_sign pm_sign an_sign (cd_sign) ct_sign), sl_sign⟩)
    (c_sign : PySem.W.codeIn K (cd_sign) "sign_of" = true)
    (k_sign : PySem.W.keepIn K (.ref f_sign) = true)
    (a_sts : PySem.W.nsIn K mainGlobals "_sign_of_ts" = some (some (.ref f_sts)))
    (l_sts : K.lookup f_sts = some ⟨oc_sts, od_sts, .func (PySem.W.fnOf "_sign_of_ts" "_sign_of_ts" (defArgs s_sts) (defBody s_sts) (defScope s_sts) .none kV_sts dc_sts pm_sts an_sts (cd_sts) ct_sts), sl_sts⟩)
    (c_sts : PySem.W.codeIn K (cd_sts) "_sign_of_ts" = true)
    (k_sts : PySem.W.keepIn K (.ref f_sts) = true)
    (a_nfit : PySem.W.nsIn K mainGlobals "_need_fit" = some (some (.ref f_nfit)))
    (l_nfit : K.lookup f_nfit = some ⟨oc_nfit, od_nfit, .func (PySem.W.fnOf "_need_fit" "_need_fit" (defArgs s_nfit) (defBody s_nfit) (defScope s_nfit) .none kV_nfit dc_nfit pm_nfit an_nfit (cd_nfit) ct_nfit), sl_nfit⟩)
    (c_nfit : PySem.W.codeIn K (cd_nfit) "_need_fit" = true)
    (k_nfit : PySem.W.keepIn K (.ref f_nfit) = true)
    (a_tsum : PySem.W.nsIn K mainGlobals "_ts_sum" = some (some (.ref f_tsum)))
    (l_tsum : K.lookup f_tsum = some ⟨oc_tsum, od_tsum, .func (PySem.W.fnOf "_ts_sum" "_ts_sum" (defArgs s_tsum) (defBody s_tsum) (defScope s_tsum) .none kV_tsum dc_tsum pm_tsum an_tsum (cd_tsum) ct_tsum), sl_tsum⟩)
    (c_tsum : PySem.W.codeIn K (cd_tsum) "_ts_sum" = true)
    (k_tsum : PySem.W.keepIn K (.ref f_tsum) = true)
    (a_cmp : PySem.W.nsIn K mainGlobals "compare_at" = some (some (.ref f_cmp)))
    (l_cmp : K.lookup f_cmp = some ⟨oc_cmp, od_cmp, .func (PySem.W.fnOf "compare_at" "compare_at" (defArgs s_cmp) (defBody s_cmp) (defScope s_cmp) .none kV_cmp dc_cmp pm_cmp an_cmp (cd_cmp) ct_cmp), sl_cmp⟩)
    (c_cmp : PySem.W.codeIn K (cd_cmp) "compare_at" = true)
    (k_cmp : PySem.W.keepIn K (.ref f_cmp) = true)
    (a_above : PySem.W.nsIn K mainGlobals "above_row" = some (some (.ref f_above)))
    (l_above : K.lookup f_above = some ⟨oc_above, od_above, .func (PySem.W.fnOf "above_row" "above_row" (defArgs s_above) (defBody s_above) (defScope s_above) .none kV_above dc_above pm_above an_above (cd_above) ct_above), sl_above⟩)
    (c_above : PySem.W.codeIn K (cd_above) "above_row" = true)
    (k_above : PySem.W.keepIn K (.ref f_above) = true)
    (a_up : PySem.W.nsIn K mainGlobals "round_up" = some (some (.ref f_up)))
    (l_up : K.lookup f_up = some ⟨oc_up, od_up, .func (PySem.W.fnOf "round_up" "round_up" (defArgs s_up) (defBody s_up) (defScope s_up) .none kV_up dc_up pm_up an_up (cd_up) ct_up), sl_up⟩)
    (c_up : PySem.W.codeIn K (cd_up) "round_up" = true)
    (k_up : PySem.W.keepIn K (.ref f_up) = true)
    (a_down : PySem.W.nsIn K mainGlobals "round_down" = some (some (.ref f_down)))
    (l_down : K.lookup f_down = some ⟨oc_down, od_down, .func (PySem.W.fnOf "round_down" "round_down" (defArgs s_down) (defBody s_down) (defScope s_down) .none kV_down dc_down pm_down an_down (cd_down) ct_down), sl_down⟩)
    (c_down : PySem.W.codeIn K (cd_down) "round_down" = true)
    (k_down : PySem.W.keepIn K (.ref f_down) = true)
    (a_asum : PySem.W.nsIn K mainGlobals "amount_sum" = some (some (.ref f_asum)))
    (l_asum : K.lookup f_asum = some ⟨oc_asum, od_asum, .func (PySem.W.fnOf "amount_sum" "amount_sum" (defArgs s_asum) (defBody s_asum) (defScope s_asum) .none kV_asum dc_asum pm_asum an_asum (cd_asum) ct_asum), sl_asum⟩)
    (c_asum : PySem.W.codeIn K (cd_asum) "amount_sum" = true)
    (k_asum : PySem.W.keepIn K (.ref f_asum) = true)
    (a_atimes : PySem.W.nsIn K mainGlobals "amount_times" = some (some (.ref f_atimes)))
    (l_atimes : K.lookup f_atimes = some ⟨oc_atimes, od_atimes, .func (PySem.W.fnOf "amount_times" "amount_times" (defArgs s_atimes) (defBody s_atimes) (defScope s_atimes) .none kV_atimes dc_atimes pm_atimes an_atimes (cd_atimes) ct_atimes), sl_atimes⟩)
    (c_atimes : PySem.W.codeIn K (cd_atimes) "amount_times" = true)
    (k_atimes : PySem.W.keepIn K (.ref f_atimes) = true)
    (a_begun : PySem.W.nsIn K mainGlobals "_law_begun" = some (some (.ref f_begun)))
    (l_begun : K.lookup f_begun = some ⟨oc_begun, od_begun, .func (PySem.W.fnOf "_law_begun" "_law_begun" (defArgs s_begun) (defBody s_begun) (defScope s_begun) .none kV_begun dc_begun pm_begun an_begun (cd_begun) ct_begun), sl_begun⟩)
    (c_begun : PySem.W.codeIn K (cd_begun) "_law_begun" = true)
    (k_begun : PySem.W.keepIn K (.ref f_begun) = true)
    (a_draw : PySem.W.nsIn K mainGlobals "_law_draw" = some (some (.ref f_draw)))
    (l_draw : K.lookup f_draw = some ⟨oc_draw, od_draw, .func (PySem.W.fnOf "_law_draw" "_law_draw" (defArgs s_draw) (defBody s_draw) (defScope s_draw) .none kV_draw dc_draw pm_draw an_draw (cd_draw) ct_draw), sl_draw⟩)
    (c_draw : PySem.W.codeIn K (cd_draw) "_law_draw" = true)
    (k_draw : PySem.W.keepIn K (.ref f_draw) = true)
    (a_of : PySem.W.nsIn K mainGlobals "_law_of" = some (some (.ref f_of)))
    (l_of : K.lookup f_of = some ⟨oc_of, od_of, .func (PySem.W.fnOf "_law_of" "_law_of" (defArgs s_of) (defBody s_of) (defScope s_of) .none kV_of dc_of pm_of an_of (cd_of) ct_of), sl_of⟩)
    (c_of : PySem.W.codeIn K (cd_of) "_law_of" = true)
    (k_of : PySem.W.keepIn K (.ref f_of) = true)
    (a_like : PySem.W.nsIn K mainGlobals "_law_like" = some (some (.ref f_like)))
    (l_like : K.lookup f_like = some ⟨oc_like, od_like, .func (PySem.W.fnOf "_law_like" "_law_like" (defArgs s_like) (defBody s_like) (defScope s_like) .none kV_like dc_like pm_like an_like (cd_like) ct_like), sl_like⟩)
    (c_like : PySem.W.codeIn K (cd_like) "_law_like" = true)
    (k_like : PySem.W.keepIn K (.ref f_like) = true)
    (a_gcd : PySem.W.nsIn K mainGlobals "_law_gcd" = some (some (.ref f_gcd)))
    (l_gcd : K.lookup f_gcd = some ⟨oc_gcd, od_gcd, .func (PySem.W.fnOf "_law_gcd" "_law_gcd" (defArgs s_gcd) (defBody s_gcd) (defScope s_gcd) .none kV_gcd dc_gcd pm_gcd an_gcd (cd_gcd) ct_gcd), sl_gcd⟩)
    (c_gcd : PySem.W.codeIn K (cd_gcd) "_law_gcd" = true)
    (k_gcd : PySem.W.keepIn K (.ref f_gcd) = true)
    (a_signed : PySem.W.nsIn K mainGlobals "_law_signed" = some (some (.ref f_signed)))
    (l_signed : K.lookup f_signed = some ⟨oc_signed, od_signed, .func (PySem.W.fnOf "_law_signed" "_law_signed" (defArgs s_signed) (defBody s_signed) (defScope s_signed) .none kV_signed dc_signed pm_signed an_signed (cd_signed) ct_signed), sl_signed⟩)
    (c_signed : PySem.W.codeIn K (cd_signed) "_law_signed" = true)
    (k_signed : PySem.W.keepIn K (.ref f_signed) = true)
    (a_heard : PySem.W.nsIn K mainGlobals "_law_heard" = some (some (.ref f_heard)))
    (l_heard : K.lookup f_heard = some ⟨oc_heard, od_heard, .func (PySem.W.fnOf "_law_heard" "_law_heard" (defArgs s_heard) (defBody s_heard) (defScope s_heard) .none kV_heard dc_heard pm_heard an_heard (cd_heard) ct_heard), sl_heard⟩)
    (c_heard : PySem.W.codeIn K (cd_heard) "_law_heard" = true)
    (k_heard : PySem.W.keepIn K (.ref f_heard) = true)
    (a_lfval : PySem.W.nsIn K mainGlobals "_law_form_value" = some (some (.ref f_lfval)))
    (l_lfval : K.lookup f_lfval = some ⟨oc_lfval, od_lfval, .func (PySem.W.fnOf "_law_form_value" "_law_form_value" (defArgs s_lfval) (defBody s_lfval) (defScope s_lfval) .none kV_lfval dc_lfval pm_lfval an_lfval (cd_lfval) ct_lfval), sl_lfval⟩)
    (c_lfval : PySem.W.codeIn K (cd_lfval) "_law_form_value" = true)
    (k_lfval : PySem.W.keepIn K (.ref f_lfval) = true)
    (a_worth : PySem.W.nsIn K mainGlobals "_law_worth" = some (some (.ref f_worth)))
    (l_worth : K.lookup f_worth = some ⟨oc_worth, od_worth, .func (PySem.W.fnOf "_law_worth" "_law_worth" (defArgs s_worth) (defBody s_worth) (defScope s_worth) .none kV_worth dc_worth pm_worth an_worth (cd_worth) ct_worth), sl_worth⟩)
    (c_worth : PySem.W.codeIn K (cd_worth) "_law_worth" = true)
    (k_worth : PySem.W.keepIn K (.ref f_worth) = true)
    (a_amount : PySem.W.nsIn K mainGlobals "_law_amount" = some (some (.ref f_amount)))
    (l_amount : K.lookup f_amount = some ⟨oc_amount, od_amount, .func (PySem.W.fnOf "_law_amount" "_law_amount" (defArgs s_amount) (defBody s_amount) (defScope s_amount) .none kV_amount dc_amount pm_amount an_amount (cd_amount) ct_amount), sl_amount⟩)
    (c_amount : PySem.W.codeIn K (cd_amount) "_law_amount" = true)
    (k_amount : PySem.W.keepIn K (.ref f_amount) = true)
    (a_beside : PySem.W.nsIn K mainGlobals "_law_beside" = some (some (.ref f_beside)))
    (l_beside : K.lookup f_beside = some ⟨oc_beside, od_beside, .func (PySem.W.fnOf "_law_beside" "_law_beside" (defArgs s_beside) (defBody s_beside) (defScope s_beside) .none kV_beside dc_beside pm_beside an_beside (cd_beside) ct_beside), sl_beside⟩)
    (c_beside : PySem.W.codeIn K (cd_beside) "_law_beside" = true)
    (k_beside : PySem.W.keepIn K (.ref f_beside) = true)
    (a_lcmp : PySem.W.nsIn K mainGlobals "_law_compared" = some (some (.ref f_lcmp)))
    (l_lcmp : K.lookup f_lcmp = some ⟨oc_lcmp, od_lcmp, .func (PySem.W.fnOf "_law_compared" "_law_compared" (defArgs s_lcmp) (defBody s_lcmp) (defScope s_lcmp) .none kV_lcmp dc_lcmp pm_lcmp an_lcmp (cd_lcmp) ct_lcmp), sl_lcmp⟩)
    (c_lcmp : PySem.W.codeIn K (cd_lcmp) "_law_compared" = true)
    (k_lcmp : PySem.W.keepIn K (.ref f_lcmp) = true)
    (a_rounds : PySem.W.nsIn K mainGlobals "_law_rounds_right" = some (some (.ref f_rounds)))
    (l_rounds : K.lookup f_rounds = some ⟨oc_rounds, od_rounds, .func (PySem.W.fnOf "_law_rounds_right" "_law_rounds_right" (defArgs s_rounds) (defBody s_rounds) (defScope s_rounds) .none kV_rounds dc_rounds pm_rounds an_rounds (cd_rounds) ct_rounds), sl_rounds⟩)
    (c_rounds : PySem.W.codeIn K (cd_rounds) "_law_rounds_right" = true)
    (k_rounds : PySem.W.keepIn K (.ref f_rounds) = true)
    (a_told : PySem.W.nsIn K mainGlobals "_law_told_right" = some (some (.ref f_told)))
    (l_told : K.lookup f_told = some ⟨oc_told, od_told, .func (PySem.W.fnOf "_law_told_right" "_law_told_right" (defArgs s_told) (defBody s_told) (defScope s_told) .none kV_told dc_told pm_told an_told (cd_told) ct_told), sl_told⟩)
    (c_told : PySem.W.codeIn K (cd_told) "_law_told_right" = true)
    (k_told : PySem.W.keepIn K (.ref f_told) = true)
    (a_sums : PySem.W.nsIn K mainGlobals "_law_sums_right" = some (some (.ref f_sums)))
    (l_sums : K.lookup f_sums = some ⟨oc_sums, od_sums, .func (PySem.W.fnOf "_law_sums_right" "_law_sums_right" (defArgs s_sums) (defBody s_sums) (defScope s_sums) .none kV_sums dc_sums pm_sums an_sums (cd_sums) ct_sums), sl_sums⟩)
    (c_sums : PySem.W.codeIn K (cd_sums) "_law_sums_right" = true)
    (k_sums : PySem.W.keepIn K (.ref f_sums) = true)
    (a_law : PySem.W.nsIn K mainGlobals "law" = some (some (.ref f_law)))
    (l_law : K.lookup f_law = some ⟨oc_law, od_law, .func (PySem.W.fnOf "law" "law" (defArgs s_law) (defBody s_law) (defScope s_law) .none kV_law dc_law pm_law an_law (.ref cd_law) ct_law), sl_law⟩)
    (c_law : PySem.W.codeIn K (.ref cd_law) "law" = true)
    (k_law : PySem.W.keepIn K (.ref f_law) = true)
    (m_isinstance : PySem.W.nsIn K mainGlobals "isinstance" = some none)
    (m_ValueError : PySem.W.nsIn K mainGlobals "ValueError" = some none)
    (m_int : PySem.W.nsIn K mainGlobals "int" = some none)
    (m_tuple : PySem.W.nsIn K mainGlobals "tuple" = some none)
    (m_len : PySem.W.nsIn K mainGlobals "len" = some none)
    (m_repr : PySem.W.nsIn K mainGlobals "repr" = some none)
    (m_range : PySem.W.nsIn K mainGlobals "range" = some none)
    (m_sum : PySem.W.nsIn K mainGlobals "sum" = some none)
    (m_zip : PySem.W.nsIn K mainGlobals "zip" = some none)
    (m_abs : PySem.W.nsIn K mainGlobals "abs" = some none)
    (m_max : PySem.W.nsIn K mainGlobals "max" = some none)
    (q_law : K.lookup cd_law = some ⟨ocq_law, odq_law, .fields vsq_law, slq_law⟩)
    (v_law : vsq_law[11]? = some (.ref P_law))
    (n_law : K.lookup P_law = none)
    (r_law : (recsOf q).find? (fun e => e.name == ("law" : Str)) = some dL_law) :
    ∃ (fd : FuncData) (cs : List (Addr × Addr)) (sp : Sp), (∀ p ∈ cs, TabK K h p) ∧ (∀ (s : Shared) (u : Value), BindsTo s fd ⟨[u], []⟩ [("script", u)]) ∧
      (∀ (H : Hp) (a : Addr) (ns : List Int), ns.length ≤ 63 → (∀ p ∈ cs, H p.2 = some (.tbl #[])) → SqL K H a (ns.map V.int) → sp [.ref a] H (fun v _ => v = .bl true) fun _ _ _ => False) ∧
      ∀ base : Heap, K.In base → base.Ns mainGlobals mg → (∀ p ∈ cs, LamX.TabB base mg p.1 p.2) → FnG l.prog w K mg base 7 fa fd ["script"] sp := by
  obtain rfl := Value.ref.inj (Option.some.inj (hfa.symm.trans (PySem.W.mg_of X G a_law)))
  have F_psum := fun_mk (st := s_psum) l_psum c_psum k_psum
  have G_psum := PySem.W.mg_of X G a_psum
  have B_psum := F_psum.binds (ps := ["one", "other"]) fun _ _ _ _ _ _ us hl => match us, hl with | [_, _], _ => rfl
  have F_fval := fun_mk (st := s_fval) l_fval c_fval k_fval
  have G_fval := PySem.W.mg_of X G a_fval
  have B_fval := F_fval.binds (ps := ["form", "t"]) fun _ _ _ _ _ _ us hl => match us, hl with | [_, _], _ => rfl
  have F_fsum := fun_mk (st := s_fsum) l_fsum c_fsum k_fsum
  have G_fsum := PySem.W.mg_of X G a_fsum
  have B_fsum := F_fsum.binds (ps := ["one", "other"]) fun _ _ _ _ _ _ us hl => match us, hl with | [_, _], _ => rfl
  have F_ftimes := fun_mk (st := s_ftimes) l_ftimes c_ftimes k_ftimes
  have G_ftimes := PySem.W.mg_of X G a_ftimes
  have B_ftimes := F_ftimes.binds (ps := ["form", "n"]) fun _ _ _ _ _ _ us hl => match us, hl with | [_, _], _ => rfl
  have F_fplus := fun_mk (st := s_fplus) l_fplus c_fplus k_fplus
  have G_fplus := PySem.W.mg_of X G a_fplus
  have B_fplus := F_fplus.binds (ps := ["form", "n"]) fun _ _ _ _ _ _ us hl => match us, hl with | [_, _], _ => rfl
  have F_sign := fun_mk (st := s_sign) l_sign c_sign k_sign
  have G_sign := PySem.W.mg_of X G a_sign
  have B_sign := F_sign.binds (ps := ["number"]) fun _ _ _ _ _ _ us hl => match us, hl with | [_], _ => rfl
  have F_sts := fun_mk (st := s_sts) l_sts c_sts k_sts
  have G_sts := PySem.W.mg_of X G a_sts
  have B_sts := F_sts.binds (ps := ["ts"]) fun _ _ _ _ _ _ us hl => match us, hl with | [_], _ => rfl
  have F_nfit := fun_mk (st := s_nfit) l_nfit c_nfit k_nfit
  have G_nfit := PySem.W.mg_of X G a_nfit
  have B_nfit := F_nfit.binds (ps := ["one", "other"]) fun _ _ _ _ _ _ us hl => match us, hl with | [_, _], _ => rfl
  have F_tsum := fun_mk (st := s_tsum) l_tsum c_tsum k_tsum
  have G_tsum := PySem.W.mg_of X G a_tsum
  have B_tsum := F_tsum.binds (ps := ["one", "other"]) fun _ _ _ _ _ _ us hl => match us, hl with | [_, _], _ => rfl
  have F_cmp := fun_mk (st := s_cmp) l_cmp c_cmp k_cmp
  have G_cmp := PySem.W.mg_of X G a_cmp
  have B_cmp := F_cmp.binds (ps := ["one", "other", "p"]) fun _ _ _ _ _ _ us hl => match us, hl with | [_, _, _], _ => rfl
  have F_above := fun_mk (st := s_above) l_above c_above k_above
  have G_above := PySem.W.mg_of X G a_above
  have B_above := F_above.binds (ps := ["amount"]) fun _ _ _ _ _ _ us hl => match us, hl with | [_], _ => rfl
  have F_up := fun_mk (st := s_up) l_up c_up k_up
  have G_up := PySem.W.mg_of X G a_up
  have B_up := F_up.binds (ps := ["amount"]) fun _ _ _ _ _ _ us hl => match us, hl with | [_], _ => rfl
  have F_down := fun_mk (st := s_down) l_down c_down k_down
  have G_down := PySem.W.mg_of X G a_down
  have B_down := F_down.binds (ps := ["amount"]) fun _ _ _ _ _ _ us hl => match us, hl with | [_], _ => rfl
  have F_asum := fun_mk (st := s_asum) l_asum c_asum k_asum
  have G_asum := PySem.W.mg_of X G a_asum
  have B_asum := F_asum.binds (ps := ["one", "other"]) fun _ _ _ _ _ _ us hl => match us, hl with | [_, _], _ => rfl
  have F_atimes := fun_mk (st := s_atimes) l_atimes c_atimes k_atimes
  have G_atimes := PySem.W.mg_of X G a_atimes
  have B_atimes := F_atimes.binds (ps := ["amount", "n"]) fun _ _ _ _ _ _ us hl => match us, hl with | [_, _], _ => rfl
  have F_begun := fun_mk (st := s_begun) l_begun c_begun k_begun
  have G_begun := PySem.W.mg_of X G a_begun
  have B_begun := F_begun.binds (ps := ["script", "k_so"]) fun _ _ _ _ _ _ us hl => match us, hl with | [_, _], _ => rfl
  have F_draw := fun_mk (st := s_draw) l_draw c_draw k_draw
  have G_draw := PySem.W.mg_of X G a_draw
  have B_draw := F_draw.binds (ps := ["m", "bound"]) fun _ _ _ _ _ _ us hl => match us, hl with | [_, _], _ => rfl
  have F_of := fun_mk (st := s_of) l_of c_of k_of
  have G_of := PySem.W.mg_of X G a_of
  have B_of := F_of.binds (ps := ["m", "some"]) fun _ _ _ _ _ _ us hl => match us, hl with | [_, _], _ => rfl
  have F_like := fun_mk (st := s_like) l_like c_like k_like
  have G_like := PySem.W.mg_of X G a_like
  have B_like := F_like.binds (ps := ["got", "due"]) fun _ _ _ _ _ _ us hl => match us, hl with | [_, _], _ => rfl
  have F_gcd := fun_mk (st := s_gcd) l_gcd c_gcd k_gcd
  have G_gcd := PySem.W.mg_of X G a_gcd
  have B_gcd := F_gcd.binds (ps := ["a", "c"]) fun _ _ _ _ _ _ us hl => match us, hl with | [_, _], _ => rfl
  have F_signed := fun_mk (st := s_signed) l_signed c_signed k_signed
  have G_signed := PySem.W.mg_of X G a_signed
  have B_signed := F_signed.binds (ps := ["m", "most"]) fun _ _ _ _ _ _ us hl => match us, hl with | [_, _], _ => rfl
  have F_heard := fun_mk (st := s_heard) l_heard c_heard k_heard
  have G_heard := PySem.W.mg_of X G a_heard
  have B_heard := F_heard.binds (ps := ["call"]) fun _ _ _ _ _ _ us hl => match us, hl with | [_], _ => rfl
  have F_lfval := fun_mk (st := s_lfval) l_lfval c_lfval k_lfval
  have G_lfval := PySem.W.mg_of X G a_lfval
  have B_lfval := F_lfval.binds (ps := ["form", "p"]) fun _ _ _ _ _ _ us hl => match us, hl with | [_, _], _ => rfl
  have F_worth := fun_mk (st := s_worth) l_worth c_worth k_worth
  have G_worth := PySem.W.mg_of X G a_worth
  have B_worth := F_worth.binds (ps := ["amount", "p", "count"]) fun _ _ _ _ _ _ us hl => match us, hl with | [_, _, _], _ => rfl
  have F_amount := fun_mk (st := s_amount) l_amount c_amount k_amount
  have G_amount := PySem.W.mg_of X G a_amount
  have B_amount := F_amount.binds (ps := ["m", "many"]) fun _ _ _ _ _ _ us hl => match us, hl with | [_, _], _ => rfl
  have F_beside := fun_mk (st := s_beside) l_beside c_beside k_beside
  have G_beside := PySem.W.mg_of X G a_beside
  have B_beside := F_beside.binds (ps := ["m", "amount"]) fun _ _ _ _ _ _ us hl => match us, hl with | [_, _], _ => rfl
  have F_lcmp := fun_mk (st := s_lcmp) l_lcmp c_lcmp k_lcmp
  have G_lcmp := PySem.W.mg_of X G a_lcmp
  have B_lcmp := F_lcmp.binds (ps := ["one", "other", "p"]) fun _ _ _ _ _ _ us hl => match us, hl with | [_, _, _], _ => rfl
  have F_rounds := fun_mk (st := s_rounds) l_rounds c_rounds k_rounds
  have G_rounds := PySem.W.mg_of X G a_rounds
  have B_rounds := F_rounds.binds (ps := ["amount", "p"]) fun _ _ _ _ _ _ us hl => match us, hl with | [_, _], _ => rfl
  have F_told := fun_mk (st := s_told) l_told c_told k_told
  have G_told := PySem.W.mg_of X G a_told
  have B_told := F_told.binds (ps := ["amount", "many"]) fun _ _ _ _ _ _ us hl => match us, hl with | [_, _], _ => rfl
  have F_sums := fun_mk (st := s_sums) l_sums c_sums k_sums
  have G_sums := PySem.W.mg_of X G a_sums
  have B_sums := F_sums.binds (ps := ["m", "one", "other", "p"]) fun _ _ _ _ _ _ us hl => match us, hl with | [_, _, _, _], _ => rfl
  have F_law := fun_mk (st := s_law) l_law c_law k_law
  have G_law := PySem.W.mg_of X G a_law
  have B_law := F_law.binds (ps := ["script"]) fun _ _ _ _ _ _ us hl => match us, hl with | [_], _ => rfl
  have M_isinstance := PySem.W.mg_none_of X G m_isinstance
  have M_ValueError := PySem.W.mg_none_of X G m_ValueError
  have M_int := PySem.W.mg_none_of X G m_int
  have M_tuple := PySem.W.mg_none_of X G m_tuple
  have M_len := PySem.W.mg_none_of X G m_len
  have M_repr := PySem.W.mg_none_of X G m_repr
  have M_range := PySem.W.mg_none_of X G m_range
  have M_sum := PySem.W.mg_none_of X G m_sum
  have M_zip := PySem.W.mg_none_of X G m_zip
  have M_abs := PySem.W.mg_none_of X G m_abs
  have M_max := PySem.W.mg_none_of X G m_max
  have g_CT := PySem.W.mg_of X G a_CT
  have g_CF := PySem.W.mg_of X G a_CF
  have g_CS := PySem.W.mg_of X G a_CS
  have gL := PySem.W.mg_of X G a_lcm
  have EB : ExcT K mg "NotFit" CF := ⟨g_CF, e_ex, e_k, e_b, e_t⟩
  have EX : Exs K mg CT CF CS := ⟨g_CT, g_CS, EB, ⟨x_g, x_k, e_b, x_d, x_a, x_n, x_t, x_m⟩, y_e, y_V, y_F, y_S⟩
  have HF : HeardF K mg f_heard := ⟨G_heard, F_heard.kp, oc_heard, kV_heard, dc_heard, pm_heard, cd_heard, ct_heard, od_heard, an_heard, sl_heard, l_heard, c_heard, B_heard⟩
  have t_law : PySem.W.tabIn K "law" = some (cd_law, P_law) := tab_in a_law l_law rfl q_law v_law
  have TL := TO _ _ _ _ r_law t_law n_law
  refine ⟨PySem.W.fnOf "law" "law" (defArgs s_law) (defBody s_law) (defScope s_law) .none kV_law dc_law pm_law an_law (.ref cd_law) ct_law, [(cd_law, P_law)], spLaw [(P_law, "law.<locals>.<lambda>")] K, ?_, fun s v => .of_eq rfl, ?_, ?_⟩
  · intro p hp
    rw [List.mem_singleton] at hp
    subst hp
    exact TL
  · intro H a ns hl hT hS
    exact ⟨a, ns, rfl, hS, hl, tabs_one (hT _ (List.mem_cons_self)), fun _ => rfl⟩
  intro base KB NB TB
  have tL := TB _ (List.mem_cons_self)
  have C_psum := cal_of (P := l.prog) (w := w) (base := base) F_psum G_psum (ok_psum F_psum M_sum M_zip) B_psum
  have C_fval := cal_of (P := l.prog) (w := w) (base := base) F_fval G_fval (ok_fval F_fval C_psum) B_fval
  have C_fsum := cal_of (P := l.prog) (w := w) (base := base) F_fsum G_fsum (ok_fsum F_fsum M_tuple M_zip) B_fsum
  have C_ftimes := cal_of (P := l.prog) (w := w) (base := base) F_ftimes G_ftimes (ok_ftimes F_ftimes M_tuple) B_ftimes
  have C_fplus := cal_of (P := l.prog) (w := w) (base := base) F_fplus G_fplus (ok_fplus F_fplus) B_fplus
  have C_sign := cal_of (P := l.prog) (w := w) (base := base) F_sign G_sign (ok_sign F_sign M_int) B_sign
  have C_sts := cal_of (P := l.prog) (w := w) (base := base) F_sts G_sts (ok_sts F_sts C_sign) B_sts
  have C_nfit := cal_of (P := l.prog) (w := w) (base := base) F_nfit G_nfit (ok_nfit F_nfit M_len) B_nfit
  have C_tsum := cal_of (P := l.prog) (w := w) (base := base) F_tsum G_tsum (ok_tsum F_tsum C_fsum M_max M_len) B_tsum
  have C_above := cal_of (P := l.prog) (w := w) (base := base) F_above G_above (ok_above F_above C_sts C_fplus) B_above
  have C_up := cal_of (P := l.prog) (w := w) (base := base) F_up G_up (ok_up F_up C_sts C_fplus) B_up
  have C_down := cal_of (P := l.prog) (w := w) (base := base) F_down G_down (ok_down F_down C_sts C_fplus) B_down
  have C_asum := cal_of (P := l.prog) (w := w) (base := base) F_asum G_asum (ok_asum F_asum C_nfit C_fsum C_ftimes C_tsum gL) B_asum
  have C_atimes := cal_of (P := l.prog) (w := w) (base := base) F_atimes G_atimes (ok_atimes F_atimes C_ftimes) B_atimes
  have C_cmp := cal_of (P := l.prog) (w := w) (base := base) F_cmp G_cmp (ok_cmp F_cmp C_nfit C_asum C_atimes C_fval C_sign C_sts) B_cmp
  have C_begun := cal_of (P := l.prog) (w := w) (base := base) F_begun G_begun (ok_begun F_begun M_int) B_begun
  have C_draw := cal_of (P := l.prog) (w := w) (base := base) F_draw G_draw (ok_draw F_draw M_int M_len) B_draw
  have C_of := cal_of (P := l.prog) (w := w) (base := base) F_of G_of (ok_of F_of C_draw M_len) B_of
  have C_like := calG_of (P := l.prog) (w := w) (base := base) F_like G_like (ok_like F_like M_repr) B_like
  have C_gcd := cal_of (P := l.prog) (w := w) (base := base) F_gcd G_gcd (ok_gcd F_gcd M_abs M_int) B_gcd
  have C_signed := cal_of (P := l.prog) (w := w) (base := base) F_signed G_signed (ok_signed F_signed C_draw) B_signed
  have C_lfval := cal_of (P := l.prog) (w := w) (base := base) F_lfval G_lfval (ok_lfval F_lfval M_sum M_len M_range) B_lfval
  have C_worth := cal_of (P := l.prog) (w := w) (base := base) F_worth G_worth (ok_worth F_worth C_lfval M_len M_range) B_worth
  have C_amount := cal_of (P := l.prog) (w := w) (base := base) F_amount G_amount (ok_amount F_amount C_draw C_signed C_of M_tuple M_range) B_amount
  have C_beside := cal_of (P := l.prog) (w := w) (base := base) F_beside G_beside (ok_beside F_beside C_draw C_signed M_tuple) B_beside
  have C_lcmp := cal_of (P := l.prog) (w := w) (base := base) F_lcmp G_lcmp (ok_lcmp F_lcmp C_worth M_len M_max M_int) B_lcmp
  have C_rounds := cal_of (P := l.prog) (w := w) (base := base) F_rounds G_rounds (ok_rounds F_rounds C_worth C_lfval C_above C_up C_down M_len) B_rounds
  have C_told := calG_of (P := l.prog) (w := w) (base := base) F_told G_told (ok_told F_told C_above C_up C_down C_like M_int) B_told
  have C_sums := calG_of (P := l.prog) (w := w) (base := base) F_sums G_sums (ok_sums F_sums C_gcd C_asum C_atimes C_of C_signed C_like M_tuple M_range M_len M_max) B_sums
  have X_nfit : CalX l.prog w K mg base 1 "_need_fit" ["one", "other"] (spNfitX CF) := ⟨_, _, ok_nfitX F_nfit M_len EB, G_nfit, F_nfit.kp, B_nfit⟩
  have X_sum : CalX l.prog w K mg base 2 "amount_sum" ["one", "other"] (spSumX CF) := ⟨_, _, ok_asumX F_asum X_nfit, G_asum, F_asum.kp, B_asum⟩
  have X_cmp : CalX l.prog w K mg base 2 "compare_at" ["one", "other", "p"] (spCmpX CF) := ⟨_, _, ok_cmpX F_cmp X_nfit, G_cmp, F_cmp.kp, B_cmp⟩
  exact ok_law l_law c_law tL (List.mem_cons_self) one_tab HF EX C_begun C_draw C_of C_signed C_amount C_beside C_told C_lcmp C_cmp C_rounds C_sums C_above C_up C_down C_like X_sum X_cmp M_isinstance M_ValueError M_range M_tuple
end
end K17
open PySem PySem.W PyProof.Rows
set_option maxHeartbeats 0 in
theorem PySem.Challenge.cw_pointtally_k17_whole_amounts_holds : PySem.Challenge.rw_pointtally_k17_whole_amounts.Holds := by
  w_on; o_law; k_head; (case hw => w_witness2)
  k_fill
  refine Vk.walk_ofT (l := PySem.Challenge.rw_pointtally_k17_whole_amounts) (n := 63) (k := 7) (x := "script") rfl (by decide) rfl ⟨rfl, by decide, by decide⟩ (fun w h Y => PySem.W.km_in_of Y) ?F
  case F =>
    intro w mg fa h KX G hmg TO
    refine' K17.all_mk KX G hmg TO ?a_CT ?a_CF ?a_CS ?e_ex ?e_k ?e_b ?e_t ?x_g ?x_k ?x_d ?x_a ?x_n ?x_t ?x_m ?y_e ?y_V ?y_F ?y_S ?a_lcm ?a_psum ?l_psum ?c_psum ?k_psum ?a_fval ?l_fval ?c_fval ?k_fval ?a_fsum ?l_fsum ?c_fsum ?k_fsum ?a_ftimes ?l_ftimes ?c_ftimes ?k_ftimes ?a_fplus ?l_fplus ?c_fplus ?k_fplus ?a_sign ?l_sign ?c_sign ?k_sign ?a_sts ?l_sts ?c_sts ?k_sts ?a_nfit ?l_nfit ?c_nfit ?k_nfit ?a_tsum ?l_tsum ?c_tsum ?k_tsum ?a_cmp ?l_cmp ?c_cmp ?k_cmp ?a_above ?l_above ?c_above ?k_above ?a_up ?l_up ?c_up ?k_up ?a_down ?l_down ?c_down ?k_down ?a_asum ?l_asum ?c_asum ?k_asum ?a_atimes ?l_atimes ?c_atimes ?k_atimes ?a_begun ?l_begun ?c_begun ?k_begun ?a_draw ?l_draw ?c_draw ?k_draw ?a_of ?l_of ?c_of ?k_of ?a_like ?l_like ?c_like ?k_like ?a_gcd ?l_gcd ?c_gcd ?k_gcd ?a_signed ?l_signed ?c_signed ?k_signed ?a_heard ?l_heard ?c_heard ?k_heard ?a_lfval ?l_lfval ?c_lfval ?k_lfval ?a_worth ?l_worth ?c_worth ?k_worth ?a_amount ?l_amount ?c_amount ?k_amount ?a_beside ?l_beside ?c_beside ?k_beside ?a_lcmp ?l_lcmp ?c_lcmp ?k_lcmp ?a_rounds ?l_rounds ?c_rounds ?k_rounds ?a_told ?l_told ?c_told ?k_told ?a_sums ?l_sums ?c_sums ?k_sums ?a_law ?l_law ?c_law ?k_law ?m_isinstance ?m_ValueError ?m_int ?m_tuple ?m_len ?m_repr ?m_range ?m_sum ?m_zip ?m_abs ?m_max ?q_law ?v_law ?n_law ?r_law
    (case a_CT => k_is)
    (case a_CF => k_is)
    (case a_CS => k_is)
    (case e_ex => kernel_rfl)
    (case e_k => k_is)
    (case e_b => k_is)
    (case e_t => k_is)
    (case x_g => k_is)
    (case x_k => k_is)
    (case x_d => k_is)
    (case x_a => k_is)
    (case x_n => k_is)
    (case x_t => k_is)
    (case x_m => k_is)
    (case y_e => kernel_rfl)
    (case y_V => kernel_rfl)
    (case y_F => kernel_rfl)
    (case y_S => kernel_rfl)
    (case a_lcm => k_is)
    (case a_psum => k_is)
    (case l_psum => k_is)
    (case c_psum => k_is)
    (case k_psum => k_is)
    (case a_fval => k_is)
    (case l_fval => k_is)
    (case c_fval => k_is)
    (case k_fval => k_is)
    (case a_fsum => k_is)
    (case l_fsum => k_is)
    (case c_fsum => k_is)
    (case k_fsum => k_is)
    (case a_ftimes => k_is)
    (case l_ftimes => k_is)
    (case c_ftimes => k_is)
    (case k_ftimes => k_is)
    (case a_fplus => k_is)
    (case l_fplus => k_is)
    (case c_fplus => k_is)
    (case k_fplus => k_is)
    (case a_sign => k_is)
    (case l_sign => k_is)
    (case c_sign => k_is)
    (case k_sign => k_is)
    (case a_sts => k_is)
    (case l_sts => k_is)
    (case c_sts => k_is)
    (case k_sts => k_is)
    (case a_nfit => k_is)
    (case l_nfit => k_is)
    (case c_nfit => k_is)
    (case k_nfit => k_is)
    (case a_tsum => k_is)
    (case l_tsum => k_is)
    (case c_tsum => k_is)
    (case k_tsum => k_is)
    (case a_cmp => k_is)
    (case l_cmp => k_is)
    (case c_cmp => k_is)
    (case k_cmp => k_is)
    (case a_above => k_is)
    (case l_above => k_is)
    (case c_above => k_is)
    (case k_above => k_is)
    (case a_up => k_is)
    (case l_up => k_is)
    (case c_up => k_is)
    (case k_up => k_is)
    (case a_down => k_is)
    (case l_down => k_is)
    (case c_down => k_is)
    (case k_down => k_is)
    (case a_asum => k_is)
    (case l_asum => k_is)
    (case c_asum => k_is)
    (case k_asum => k_is)
    (case a_atimes => k_is)
    (case l_atimes => k_is)
    (case c_atimes => k_is)
    (case k_atimes => k_is)
    (case a_begun => k_is)
    (case l_begun => k_is)
    (case c_begun => k_is)
    (case k_begun => k_is)
    (case a_draw => k_is)
    (case l_draw => k_is)
    (case c_draw => k_is)
    (case k_draw => k_is)
    (case a_of => k_is)
    (case l_of => k_is)
    (case c_of => k_is)
    (case k_of => k_is)
    (case a_like => k_is)
    (case l_like => k_is)
    (case c_like => k_is)
    (case k_like => k_is)
    (case a_gcd => k_is)
    (case l_gcd => k_is)
    (case c_gcd => k_is)
    (case k_gcd => k_is)
    (case a_signed => k_is)
    (case l_signed => k_is)
    (case c_signed => k_is)
    (case k_signed => k_is)
    (case a_heard => k_is)
    (case l_heard => k_is)
    (case c_heard => k_is)
    (case k_heard => k_is)
    (case a_lfval => k_is)
    (case l_lfval => k_is)
    (case c_lfval => k_is)
    (case k_lfval => k_is)
    (case a_worth => k_is)
    (case l_worth => k_is)
    (case c_worth => k_is)
    (case k_worth => k_is)
    (case a_amount => k_is)
    (case l_amount => k_is)
    (case c_amount => k_is)
    (case k_amount => k_is)
    (case a_beside => k_is)
    (case l_beside => k_is)
    (case c_beside => k_is)
    (case k_beside => k_is)
    (case a_lcmp => k_is)
    (case l_lcmp => k_is)
    (case c_lcmp => k_is)
    (case k_lcmp => k_is)
    (case a_rounds => k_is)
    (case l_rounds => k_is)
    (case c_rounds => k_is)
    (case k_rounds => k_is)
    (case a_told => k_is)
    (case l_told => k_is)
    (case c_told => k_is)
    (case k_told => k_is)
    (case a_sums => k_is)
    (case l_sums => k_is)
    (case c_sums => k_is)
    (case k_sums => k_is)
    (case a_law => k_is)
    (case l_law => k_is)
    (case c_law => k_is)
    (case k_law => k_is)
    (case m_isinstance => k_is)
    (case m_ValueError => k_is)
    (case m_int => k_is)
    (case m_tuple => k_is)
    (case m_len => k_is)
    (case m_repr => k_is)
    (case m_range => k_is)
    (case m_sum => k_is)
    (case m_zip => k_is)
    (case m_abs => k_is)
    (case m_max => k_is)
    (case q_law => k_is)
    (case v_law => rfl)
    (case n_law => kernel_rfl)
    (case r_law => rfl)
