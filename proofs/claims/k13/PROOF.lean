import PyProof.Rows.All
import Wide.All
import OpenK.AllK
import Wide.FinOn
import HandS.Base
import HandS.Call
import HandS.List
import HandS.Comp
import HandS.Ends
import HandS.Dict
import HandS.Iter
import HandS.Words
import HandS.WordsList
import HandS.WordsDict
import HandS.Exc
import HandS.TryOnly
import HandS.ExcOwn
import HandS.Lambda
import HandS.IsInst
import HandS.Wide
import PyProof.ReprRoads
import PyProof.ReprBulk
import PyProof.FitsInt
import HandS.ExcIs
import HandS.Walk
import KE.GoesZip
import KE.GoesMore
import KE.GoesEnum
import HandS.Star
import HandS.TupAny
import HandS.ExcField
import HandS.ExcInit
import KE.KExcIs
import HandS.TupMul
import KE.KEqDeep
import HandS.Conv
import HandS.Deep
import PySem.Challenge.RW_pointtally_k13_whole_places_within_grids
set_option Elab.async false
set_option linter.all false
set_option maxRecDepth 100000
set_option maxHeartbeats 4000000
set_option exponentiation.threshold 20000
/-! Promises that know that nothing is being shown around them (so that repr tells its whole text). -/
namespace Vk
open PySem PySem.Spec PyProof.Rows L2

/-- nothing is being shown -/
def Quiet (A : Around) : Prop := A.guards = some []
theorem Quiet.deeper {A : Around} (q : Quiet A) (env : Env) : Quiet (A.deeper env) := by
  unfold Quiet at q ⊢
  first
    | exact q
    | (show pushGuards _ A.guards = some []; rw [q]; rfl)
    | simpa [Around.deeper, Around.under, q] using q

/-- a def's promise where nothing is being shown -/
structure FnG (P : Program) (w : World) (K : PySem.W.Frag) (mg : Str → Option Value) (base : Heap) (k : Nat) (f : Addr) (fd : FuncData) (ps : List Str) (sp : Sp) : Prop where
  len : ∀ vs H Q E, sp vs H Q E → vs.length = ps.length
  run : ∀ (A : Around) (outer : List Env) (s : Shared) (H : Hp) (args : Args) (us : List Value) (vs : List V) (Q : VK) (E : XK),
    Quiet A → Room k A → Env0 P w K mg base A outer s H → BindsTo s fd args (ps.zip us) → Vals vs us → sp vs H Q E →
      codeAny (model P w) A (.call (.ref f) args) (CR CX0 outer P w H s Q E) s

section
variable {P : Program} {w : World} {K : PySem.W.Frag} {mg : Str → Option Value} {base : Heap}
/-- a body's end is the call's end -/
theorem endsG {N : List Str} {qual : Str} {scope : Scope} {f : Addr} {cdv : Value} {A : Around} {outer : List Env} {s s' : Shared} {H : Hp} {Q : VK} {E : XK} {fl : Flow}
    (h : SP (cxOf CX0 P w K mg base N qual scope f cdv A outer s H E) [] { nx := fun _ H' => Q .non H', rt := Q } fl s') :
    ∃ u, (match fl with | .ret v => v | _ => Value.none) = u ∧ CE outer P w H s Q u s' ∧ (fl = .next ∨ ∃ v, fl = .ret v) := by
  cases fl with
  | next =>
    obtain ⟨σ', H', J, q⟩ := h
    exact ⟨_, rfl, ⟨.non, H', J.os, J.bare, J.base, J.hok, rfl, q⟩, .inl rfl⟩
  | ret v =>
    obtain ⟨x, σ', H', J, rv, q⟩ := h
    exact ⟨_, rfl, ⟨x, H', J.os, J.bare, J.base, J.hok, rv, q⟩, .inr ⟨v, rfl⟩⟩
  | brk =>
    obtain ⟨_, _, _, q⟩ := h
    exact q.elim
  | cont =>
    obtain ⟨_, _, _, q⟩ := h
    exact q.elim
/-- a def, by its body: its code object is told -/
theorem fnG_of {x qual : Str} {st : Stmt} {f : Addr} {N ps : List Str} {k : Nat} {sp : Sp} {oc kV doc pm cdv ct : Value} {od an : Option Addr} {osl : Array (Option Value)}
    (lk : K.lookup f = some ⟨oc, od, .func (PySem.W.fnOf x qual (defArgs st) (defBody st) (defScope st) .none kV doc pm an cdv ct), osl⟩) (hcd : PySem.W.codeIn K cdv qual = true) (S : FnScope N ps (defScope st))
    (len : ∀ vs H Q E, sp vs H Q E → vs.length = ps.length)
    (hbody : ∀ (A : Around) (outer : List Env) (s : Shared) (H : Hp) (vs : List V) (Q : VK) (E : XK),
      Quiet A → Room k (A.deeper (envOfC qual (defScope st) s.heap.objs.size f cdv)) → sp vs H Q E →
        ∃ t, PSs (cxOf CX0 P w K mg base N qual (defScope st) f cdv A outer s H E).nox (defBody st) t ∧ t { nx := fun _ H' => Q .non H', rt := Q } (start N vs) H) :
    FnG P w K mg base (k + 1) f (PySem.W.fnOf x qual (defArgs st) (defBody st) (defScope st) .none kV doc pm an cdv ct) ps sp := by
  refine ⟨len, fun A outer s H args us vs Q E hG hr e0 hb r hsp => ?_⟩
  have inK : K.In s.heap := e0.mod.kin.keeps fun b o e => (e0.bs b o e).left
  have noL : s.heap.NoLimit := e0.mod.nolimit.keeps fun b o e => (e0.bs b o e).left
  have hpar : ∀ y ∈ ps.zip us, (defScope st).names.lookup y.1 = some .local ∨
      ((defScope st).names.lookup y.1 = some .cell ∧ ((cellsFrom (s.heap.objs.size + 1) (defScope st).names []).lookup y.1).isSome = true) := by
    rintro ⟨n, v⟩ hy
    cases S.par n (List.of_mem_zip hy).left with
    | inl q => exact .inl q
    | inr q => exact .inr ⟨q, PySem.W.cellsFrom_some _ _ _ (.inl q)⟩
  have bnd := hb
  refine codeAny_call_function hr.depth (inK _ _ lk) rfl S.co S.gen rfl
    (PySem.W.codeRec_of inK hcd) (bnd _ _ _ _ ?_)
  refine wpAny_newFunctionEnv_cells S.kind hpar
    fun env he s1 x => ?_
  subst he
  refine ⟨noL.keeps x.toInCall.keep,
    codeAny_func ?_⟩
  obtain ⟨t, ht, hq⟩ := hbody A outer s H vs Q E hG (hr.deeper _) hsp
  have J := inv_start (CX := CX0) (P := P) (w := w) (K := K) (mg := mg) (base := base) (qual := qual) (f := f) (cd := cdv) (E := E) S hr.hd e0 (len _ _ _ _ hsp) r x
  refine wpAny_mono (ht.nox.run [] s1 _ H _ J hq) (fun fl s' hs => ?_)
    (fun e s' hs => hs)
  obtain ⟨u, hu, hce, hfl⟩ := endsG hs
  rcases hfl with rfl | ⟨v, rfl⟩
  · obtain rfl := hu
    exact hce
  · obtain rfl := hu
    exact hce
/-- a def of the text, by its body -/
theorem okG {x qual : Str} {st : Stmt} {f : Addr} {fd : FuncData} {N ps : List Str} {k : Nat} {sp : Sp} (F : Fun K x qual st f fd) (S : FnScope N ps (defScope st))
    (len : ∀ vs H Q E, sp vs H Q E → vs.length = ps.length)
    (hbody : ∀ (cdv : Value) (A : Around) (outer : List Env) (s : Shared) (H : Hp) (vs : List V) (Q : VK) (E : XK),
      Quiet A → Room k (A.deeper (envOfC qual (defScope st) s.heap.objs.size f cdv)) → sp vs H Q E →
        ∃ t, PSs (cxOf CX0 P w K mg base N qual (defScope st) f cdv A outer s H E).nox (defBody st) t ∧ t { nx := fun _ H' => Q .non H', rt := Q } (start N vs) H) :
    FnG P w K mg base (k + 1) f fd ps sp := by
  obtain ⟨oc, od, kV, doc, pm, an, cdv, ct, osl, rfl, lk, hcd⟩ := F.ex
  exact fnG_of lk hcd S len fun A outer s H vs Q E => hbody cdv A outer s H vs Q E
end

section
variable {X : Cx} {k : Nat} {f : Addr} {fd : FuncData} {ps : List Str} {sp : Sp} {E : XK} {x : Str} {p pos : Pos} {e : Expr} {es : List Expr} {t : TA}
/-- a call of such a def -/
theorem pe_callG (hG : Quiet X.A) (F : FnG X.prog X.w X.K X.mg X.base k f fd ps sp) (hr : Room k X.A) (hg : Gl X x) (hm : X.mg x = some (.ref f)) (hk : PySem.W.keepIn X.K (.ref f) = true) (hb : Binds X.K fd ps [])
    (ha : PA X (e :: es) t) (hdb : (x == ("__debug__" : Str)) = false := by decide) (he : starEach (e :: es) X.env = (false, eval e X.env) :: starEach es X.env := by rfl)
    (hpl : (backTo pos (starEach es X.env)).any (·.1) = false := by rfl) :
    PE X (.Call (.Name x p) (e :: es) [] pos) (fun σ H Q => t σ H fun vs H1 => sp vs H1 Q E) := by
  refine ⟨fun pins s σ H Q I h => wpAny_Call_Name_kw (ld_glob I hg hm ?_ hdb)⟩
  refine PySem.W.callWith_K (h₀ := X.base) I.ok.mod.kin hk (thn (ha.run pos pins s σ H _ I h) ?_) he hpl
  rintro us s1 ⟨vs, H1, I1, r, q⟩
  refine ⟨I1.kIn, ?_⟩
  have hl : us.length = ps.length := r.length.symm.trans (F.len _ _ _ _ q)
  have hbt := hb s1 us I1.kIn (by rw [List.append_nil]; exact hl)
  rw [List.append_nil] at hbt
  refine wpAny_call (codeAny_mono (F.run X.A X.stack s1 H1 ⟨us, []⟩ us vs Q E hG hr I1.env0 hbt r q) ?_)
  intro r2 s2 hq
  match r2, hq with
  | .error e, hq => exact False.elim hq
  | .ok (.ret u), hq => exact I1.after hq
end

/-! ### repr -/
/-- the text of a value's data -/
def rRep (K : PySem.W.Frag) : List V → Hp → VK → Prop := fun xs H Q => ∃ x d, xs = [x] ∧ Dp K H x d ∧ d.showable = true ∧ d.hasDict = false ∧ d.depth ≤ 60 ∧ d.shown.length ≤ sizeLine ∧ Q (.str d.shown) H
theorem call_rep {X : Cx} (hG : Quiet X.A) (hu : X.A.units + 64 < cLine) : CallR X (.builtin "repr") (rRep X.K) := by
  intro pins s σ H xs us Q I r h
  obtain ⟨x, d, rfl, hD, hs, hd, hdep, hz, q⟩ := h
  obtain ⟨u, rfl, ru⟩ := vals1 r
  obtain ⟨as, hr⟩ := Dp.reads I d x u hD ru
  cases hD with
  | non =>
    cases ru
    exact PySem.P.repr_of_none ⟨.str _, H, I.tok _, ⟨_, rfl⟩, by simpa only [PyData.shown] using q⟩
  | bl b =>
    cases ru
    exact PySem.P.repr_of_bool ⟨.str _, H, I.tok _, ⟨_, rfl⟩, by simpa only [PyData.shown] using q⟩
  | int i =>
    obtain ⟨t, rfl⟩ := ru
    exact PySem.P.repr_of_int (by simpa [PyData.showable] using hs) ⟨.str _, H, I.tok _, ⟨_, rfl⟩, by simpa only [PyData.shown] using q⟩
  | str z =>
    obtain ⟨t, rfl⟩ := ru
    exact PySem.P.repr_of_str ⟨.str _, H, I.tok _, ⟨_, rfl⟩, by simpa only [PyData.shown] using q⟩ (by simpa only [PyData.shown] using hz)
  | lst h1 h2 =>
    cases ru
    exact repr_of_reads' hr hs (PyData.noDict_hsm hd) hG (by omega) (fun _ _ e => e) (fun h' u tk hk => ⟨.str _, H, I.kept hk, ⟨_, rfl⟩, q⟩) hz
  | tup h1 h2 =>
    cases ru
    exact repr_of_reads' hr hs (PyData.noDict_hsm hd) hG (by omega) (fun _ _ e => e) (fun h' u tk hk => ⟨.str _, H, I.kept hk, ⟨_, rfl⟩, q⟩) hz
end Vk

namespace Vk
open PySem PySem.Spec PyProof.Rows L2
/-! ### defs by their names -/
/-- the def of this name keeps the promise -/
def Cal (P : Program) (w : World) (K : PySem.W.Frag) (mg : Str → Option Value) (base : Heap) (k : Nat) (x : Str) (ps : List Str) (sp : Sp) : Prop :=
  ∃ f fd, FnOk P w K mg base CX0 k f fd ps sp ∧ mg x = some (.ref f) ∧ PySem.W.keepIn K (.ref f) = true ∧ Binds K fd ps []
def CalG (P : Program) (w : World) (K : PySem.W.Frag) (mg : Str → Option Value) (base : Heap) (k : Nat) (x : Str) (ps : List Str) (sp : Sp) : Prop :=
  ∃ f fd, FnG P w K mg base k f fd ps sp ∧ mg x = some (.ref f) ∧ PySem.W.keepIn K (.ref f) = true ∧ Binds K fd ps []
/-- the reading of a call -/
def tCal (sp : Sp) (t : TA) : TE := fun σ H Q => t σ H fun vs H1 => sp vs H1 Q E0
section
variable {X : Cx} {k : Nat} {ps : List Str} {sp : Sp} {x : Str} {p pos : Pos} {e : Expr} {es : List Expr} {t : TA}
theorem call_ (C : Cal X.prog X.w X.K X.mg X.base k x ps sp) (hr : Room k X.A) (hg : Gl X x) (ha : PA X (e :: es) t) (hdb : (x == ("__debug__" : Str)) = false := by decide)
    (he : starEach (e :: es) X.env = (false, eval e X.env) :: starEach es X.env := by rfl) (hpl : (backTo pos (starEach es X.env)).any (·.1) = false := by rfl) :
    PE X (.Call (.Name x p) (e :: es) [] pos) (tCal sp t) := by
  obtain ⟨f, fd, F, hm, hk, hb⟩ := C
  refine ⟨fun pins s σ H Q I h => ?_⟩
  refine (pe_call F hr hg hm hk hb .nil pass0 ha hdb he hpl).run pins s σ H Q I ?_
  show t σ H fun vs H1 => sp (vs ++ []) H1 Q E0
  have e0 : (fun vs H1 => sp (vs ++ []) H1 Q E0) = fun vs H1 => sp vs H1 Q E0 := by
    funext vs H1
    rw [List.append_nil]
  rw [e0]
  exact h
theorem callG (hG : Quiet X.A) (C : CalG X.prog X.w X.K X.mg X.base k x ps sp) (hr : Room k X.A) (hg : Gl X x) (ha : PA X (e :: es) t) (hdb : (x == ("__debug__" : Str)) = false := by decide)
    (he : starEach (e :: es) X.env = (false, eval e X.env) :: starEach es X.env := by rfl) (hpl : (backTo pos (starEach es X.env)).any (·.1) = false := by rfl) :
    PE X (.Call (.Name x p) (e :: es) [] pos) (tCal sp t) := by
  obtain ⟨f, fd, F, hm, hk, hb⟩ := C
  exact ⟨fun pins s σ H Q I h => (pe_callG hG F hr hg hm hk hb ha hdb he hpl).run pins s σ H Q I h⟩
end
/-! ### ints of any size -/
def CDivX (_ j : Int) : Prop := j ≠ 0 ∧ j.natAbs.log2 < 9000
theorem op_fdivX {X : Cx} : OpR X (binaryOp .FloorDiv) (rI CDivX fun i j => .int (i.fdiv j)) :=
  opI fun _ _ _ _ _ _ _ hc q => floordiv_int hc.1 q (.inl (PyProof.noPylong_of_log2 hc.2))
/-! ### heaps -/
/-- all but what stands at m stays -/
def SameBut (m : Addr) (H H' : Hp) : Prop := ∀ b o, b ≠ m → H b = some o → H' b = some o
theorem SameBut.refl (m : Addr) (H : Hp) : SameBut m H H := fun _ _ _ h => h
theorem SameBut.trans {m : Addr} {H H1 H2 : Hp} (a : SameBut m H H1) (b : SameBut m H1 H2) : SameBut m H H2 := fun c o n h => b c o n (a c o n h)
theorem SameBut.of {m : Addr} {H H1 : Hp} (a : Same H H1) : SameBut m H H1 := fun c o _ h => a c o h
theorem same_new {H : Hp} {p : Addr} {o : HO} (h : H p = none) : Same H (upd H p o) := fun b x e => by
  rw [upd_ne (ne_of_none e h)]
  exact e
theorem but_put {H : Hp} {m : Addr} {o : HO} : SameBut m H (upd H m o) := fun b x n e => by
  rw [upd_ne n]
  exact e
end Vk

namespace Vk
open PySem PySem.Spec PyProof.Rows L2
theorem same_put {H H1 : Hp} {q : Addr} {o : HO} (s : Same H H1) (hq : H q = none) : Same H (upd H1 q o) := fun b x e => by
  rw [upd_ne (ne_of_none e hq)]
  exact s b x e
theorem cut_ints (ns : List Int) (a b : Option Int) : ∃ l : List Int, cutV (ns.map V.int) a b = l.map V.int ∧ l.length ≤ ns.length := by
  refine ⟨(ns.drop (HT.sIx (ns.map V.int).length 0 a)).take (HT.sIx (ns.map V.int).length (ns.map V.int).length b - HT.sIx (ns.map V.int).length 0 a), ?_, ?_⟩
  · unfold cutV
    rw [← List.map_drop, ← List.map_take]
  · rw [List.length_take, List.length_drop]
    omega
/-- a list of ints as data -/
theorem dp_ints {K : PySem.W.Frag} {H : Hp} : ∀ ns : List Int, DpAll K H (ns.map V.int) (ns.map PyData.int)
  | [] => .nil
  | n :: r => .cons (.int n) (dp_ints r)
theorem lay_ints : ∀ ns : List Int, PyData.canLayAll0 (ns.map PyData.int) = true ∧ PyData.depthAll (ns.map PyData.int) = 0
  | [] => ⟨by simp [PyData.canLayAll0], by simp [PyData.depthAll]⟩
  | n :: r => by
    obtain ⟨h1, h2⟩ := lay_ints r
    exact ⟨by simp [PyData.canLayAll0, PyData.canLay0, h1], by simp [PyData.depthAll, PyData.depth, h2]⟩
theorem shaped_ints (ns : List Int) : SeqAt.shaped (.list (ns.map PyData.int)) = true := by
  obtain ⟨h1, h2⟩ := lay_ints ns
  simp [SeqAt.shaped, PyData.canLay0, PyData.depth, h1, h2]
end Vk

namespace Vk
open PySem PySem.Spec PyProof.Rows L2
/-- both ways of a conditional expression lead to what follows -/
theorem tif_both {c : Bool} {ta tb : TE} {σ : L2.St} {H : Hp} {Q : VK} (Good : V → Prop) (hQ : ∀ v, Good v → Q v H) (ha : c = true → (∀ v, Good v → Q v H) → ta σ H Q) (hb : c = false → (∀ v, Good v → Q v H) → tb σ H Q) :
    if c = true then ta σ H Q else tb σ H Q := by
  cases c with
  | true => exact iteT (ha rfl hQ)
  | false => exact iteF (hb rfl hQ)
end Vk
/-! The end of a law row for a promise of the quiet kind. -/
namespace Vk
open PySem PySem.Spec PyProof.Rows L2

section
variable {P : Program} {w : World} {K : PySem.W.Frag} {mg mb : Str → Option Value} {k : Nat} {fa a : Addr} {fd : FuncData} {x : Str} {sp : Sp} {s₁ : Shared} {vs : List Value} {ns : List Int}
/-- from one abstract heap that holds -/
theorem law_coreG (H : Hp) (KX : K.In s₁.heap) (hns : s₁.heap.Ns mainGlobals mg) (hb : s₁.heap.Ns builtinsNs mb) (hbb : ∀ x : Str, x ≠ "__name__" → mb x = bootBuiltins x) (hlim : s₁.heap.NoLimit) (hg : s₁.gens = #[])
    (ha : s₁.heap.get? a = some { cls := .type "list", data := .seq vs.toArray }) (hr : Room k callerA)
    (F : ∀ base : Heap, K.In base → base.Ns mainGlobals mg → FnG P w K mg base k fa fd [x] sp) (hbind : ∀ (s : Shared) (u : Value), BindsTo s fd ⟨[u], []⟩ [(x, u)])
    (hO : Only H) (hsp : sp [.ref a] H (fun v _ => v = .bl true) fun _ _ _ => False) (hok : HOk P w H s₁.heap) (hA : ∀ b u, H b = some u → b = a) (hK : ∀ u, H a = some u → K.lookup a = none) :
    codeAny (model P w) callerA (.call (.ref fa) ⟨[.ref a], []⟩) (fun r s' => r = .ok (.ret (.bool true)) ∧ OldK s₁.heap s'.heap ∧ s'.os = s₁.os ∧ AllBare s'.gens) s₁ := by
  have free : ∀ {b : Addr} {o : Obj}, s₁.heap.get? b = some o → (∀ n, o.data ≠ .seq vs.toArray n) → H b = none := fun {b o} e d => by
    cases q : H b with
    | none => rfl
    | some u =>
      obtain rfl := hA b u q
      rw [ha] at e
      exact absurd rfl (by have := Option.some.inj e; subst this; exact d _)
  have nsK : ∀ {b : Addr} {m : Str → Option Value}, s₁.heap.Ns b m → (hidT s₁.heap H).Ns b m := by
    rintro b m ⟨o, es, ep, e, d, r⟩
    exact ⟨o, es, ep, hidT_get e (free e fun n z => by rw [d] at z; cases z), d, r⟩
  have inB : K.In (hidT s₁.heap H) := fun b o e => by
    refine hidT_get (KX b o e) ?_
    cases q : H b with
    | none => rfl
    | some u =>
      obtain rfl := hA b u q
      rw [hK u q] at e
      cases e
  have lim : (hidT s₁.heap H).NoLimit := by
    obtain ⟨mc, h1, h2⟩ := hlim
    exact ⟨mc, nsK h1, h2⟩
  have M : Mod K mg (hidT s₁.heap H) := { kin := inB, glob := nsK hns, blt := ⟨mb, nsK hb, hbb⟩, nolimit := lim }
  have E : Env0 P w K mg (hidT s₁.heap H) callerA [] s₁ H := by
    refine { frames := rfl, mod := M, bs := fun b o e => of_hidT e, bsz := Nat.le_of_eq (hidT_size _ _), funs := trivial, frf := ?_, hok := hok, bare := .of_eq hg }
    intro b z
    cases (show b ∈ ([] : List Addr) from z)
  have R := (F _ inB (nsK hns)).run callerA [] s₁ H ⟨[.ref a], []⟩ [.ref a] [.ref a] _ _ rfl hr E (hbind s₁ (.ref a)) (.cons rfl .nil) hsp
  refine codeAny_mono R ?_
  intro r s' h
  match r, h with
  | .error e, h => exact False.elim h
  | .ok (.ret u), ⟨v, H', os, bare, un, hok', rv, q⟩ =>
    obtain rfl : v = .bl true := q
    obtain rfl : u = Value.bool true := rv
    refine ⟨rfl, OldK.of_keep fun b o e => ?_, os, bare⟩
    rcases hO b with z | ⟨ob, xs, z⟩
    · refine un.keep b o e z (fun m => ?_) (fun m => ?_)
      · cases (show b ∈ ([] : List Addr) from m)
      · cases m
    · have p1 := (hok b _ z).1
      have p2 := (hok' b _ (un.frzs b ob _ z)).1
      exact p2.trans (p1.symm.trans e)
/-- the law's promise, at the heap behind the top -/
theorem law_callG (KX : K.In s₁.heap) (hns : s₁.heap.Ns mainGlobals mg) (hb : s₁.heap.Ns builtinsNs mb) (hbb : ∀ x : Str, x ≠ "__name__" → mb x = bootBuiltins x) (hlim : s₁.heap.NoLimit) (hg : s₁.gens = #[])
    (ha : s₁.heap.get? a = some { cls := .type "list", data := .seq vs.toArray }) (hi : IntsAre vs ns) (hl : ns.length ≤ sizeLine) (hr : Room k callerA)
    (F : ∀ base : Heap, K.In base → base.Ns mainGlobals mg → FnG P w K mg base k fa fd [x] sp) (hbind : ∀ (s : Shared) (u : Value), BindsTo s fd ⟨[u], []⟩ [(x, u)])
    (hsp : ∀ H : Hp, Only H → SqL K H a (ns.map V.int) → sp [.ref a] H (fun v _ => v = .bl true) fun _ _ _ => False) :
    codeAny (model P w) callerA (.call (.ref fa) ⟨[.ref a], []⟩) (fun r s' => r = .ok (.ret (.bool true)) ∧ OldK s₁.heap s'.heap ∧ s'.os = s₁.os ∧ AllBare s'.gens) s₁ := by
  have rv := vals_ints hi
  cases hk : K.lookup a with
  | some o =>
    have e := (KX a o hk).symm.trans ha
    obtain rfl := Option.some.inj e
    have hO : Only (fun _ => none) := fun _ => .inl rfl
    refine law_coreG (fun _ => none) KX hns hb hbb hlim hg ha hr F hbind hO (hsp _ hO (.inr ⟨_, vs.toArray, _, hk, rfl, rfl, rfl, ?_, ?_⟩)) ?_ ?_ ?_
    · rw [List.size_toArray, hi.length]
      exact hl
    · simpa using rv
    · intro b u z
      cases (show (none : Option HO) = some u from z)
    · intro b u z
      cases (show (none : Option HO) = some u from z)
    · intro u z
      cases (show (none : Option HO) = some u from z)
  | none =>
    let fz : HO := .frz { cls := .type "list", data := .seq vs.toArray } (.lst (ns.map V.int))
    have only : ∀ b u, upd (fun _ => none) a fz b = some u → b = a ∧ u = fz := fun b u z => by
      by_cases e : b = a
      · subst e
        rw [upd_same] at z
        exact ⟨rfl, (Option.some.inj z).symm⟩
      · rw [upd_ne e] at z
        cases z
    have hO : Only (upd (fun _ => none) a fz) := fun b => by
      cases q : upd (fun _ => none) a fz b with
      | none => exact .inl rfl
      | some u =>
        obtain ⟨_, rfl⟩ := only b u q
        exact .inr ⟨_, _, rfl⟩
    refine law_coreG _ KX hns hb hbb hlim hg ha hr F hbind hO (hsp _ hO (.inl (.inr ⟨_, upd_same⟩))) ?_ (fun b u z => (only b u z).1) (fun _ _ => hk)
    intro b u z
    obtain ⟨rfl, rfl⟩ := only b u z
    refine ⟨ha, ?_, vs, _, rv, ha⟩
    rw [List.length_map]
    exact hl
end

/-- the end of the row -/
theorem walk_ofG {l : PySem.W.OpenLaw} {n k : Nat} {q : Program} {loose : List Str} {XP : (Str → Option Value) → Heap → Prop} {YP : World → Heap → Prop} {d : DefRec} {K : Params → PySem.W.Frag} {sp : PySem.W.Frag → Sp} {x : Str}
    (hn : l.most = some n) (hn2 : n ≤ sizeLine) (hdf : d.params.defaults = []) (hr : Room k callerA)
    (hY : ∀ (w : World) (h : Heap), YP w h → (K w.params).In h)
    (F : ∀ (w : World) (mg : Str → Option Value) (fa : Addr) (h : Heap), (K w.params).In h → h.Ns mainGlobals mg → mg d.name = some (.ref fa) →
      ∃ fd : FuncData, (∀ (s : Shared) (u : Value), BindsTo s fd ⟨[u], []⟩ [(x, u)]) ∧
        ∀ base : Heap, (K w.params).In base → base.Ns mainGlobals mg → FnG l.prog w (K w.params) mg base k fa fd [x] (sp (K w.params)))
    (hsp : ∀ (K : PySem.W.Frag) (H : Hp) (a : Addr) (ns : List Int), ns.length ≤ n → Only H → SqL K H a (ns.map V.int) → sp K [.ref a] H (fun v _ => v = .bl true) fun _ _ _ => False) :
    PySem.W.WalkO q loose XP YP l.row.toRowW d [] (fun f vs => PySem.call f vs) := by
  refine Att.attach_call hn hdf ?_
  intro w s₀ s₁ mg mb fa o pm cd doc a vs ns G Y ho hd hcd hmg hobj hints hlen hg
  obtain ⟨fd, hb, hF⟩ := F w mg fa _ (hY w _ Y) G.T.g hmg
  exact law_callG (hY w _ Y) G.T.g G.T.b G.T.builtins G.T.nolimit hg hobj hints (Nat.le_trans hlen hn2) hr hF hb fun H hO hS => hsp _ H a ns hlen hO hS
end Vk
/-! Data that is shown by a short text. -/
namespace Vk
open PySem PySem.Spec PyProof.Rows L2
/-- levels at most k, items at most n, each int of few bits -/
structure FitN (k n : Nat) (d : PyData) : Prop where
  s : d.showable = true
  h : d.hasDict = false
  dp : d.depth ≤ k
  l : d.leavesShort 2000 = true
  b : d.bulk ≤ n
structure FitLN (k n : Nat) (ds : List PyData) : Prop where
  s : PyData.showableAll ds = true
  h : PyData.hasDictAll ds = false
  dp : PyData.depthAll ds ≤ k
  l : PyData.leavesShortAll 2000 ds = true
  b : PyData.bulkAll ds ≤ n
theorem FitLN.nil {k n : Nat} : FitLN k n [] := ⟨by simp [PyData.showableAll], by simp [PyData.hasDictAll], by simp [PyData.depthAll], by simp [PyData.leavesShortAll], by simp [PyData.bulkAll]⟩
theorem FitLN.cons {k a b n : Nat} {d : PyData} {ds : List PyData} (x : FitN k a d) (y : FitLN k b ds) (hn : a + 1 + b ≤ n) : FitLN k n (d :: ds) :=
  ⟨by simp [PyData.showableAll, x.s, y.s], by simp [PyData.hasDictAll, x.h, y.h], by have := x.dp; have := y.dp; simp only [PyData.depthAll]; omega, by simp [PyData.leavesShortAll, x.l, y.l], by have := x.b; have := y.b; simp only [PyData.bulkAll]; omega⟩
theorem FitN.list {k n : Nat} {ds : List PyData} (y : FitLN k n ds) : FitN (k + 1) n (.list ds) :=
  ⟨by simp [PyData.showable, y.s], by simp [PyData.hasDict, y.h], by have := y.dp; simp only [PyData.depth]; omega, by simp [PyData.leavesShort, y.l], by have := y.b; simp only [PyData.bulk]; omega⟩
theorem FitN.tup {k n : Nat} {ds : List PyData} (y : FitLN k n ds) : FitN (k + 1) n (.tuple ds) :=
  ⟨by simp [PyData.showable, y.s], by simp [PyData.hasDict, y.h], by have := y.dp; simp only [PyData.depth]; omega, by simp [PyData.leavesShort, y.l], by have := y.b; simp only [PyData.bulk]; omega⟩
theorem FitN.non {k n : Nat} : FitN k n .none := ⟨by simp [PyData.showable], by simp [PyData.hasDict], by simp [PyData.depth], by simp [PyData.leavesShort], by simp [PyData.bulk]⟩
theorem FitN.bl {k n : Nat} (b : Bool) : FitN k n (.bool b) := ⟨by simp [PyData.showable], by simp [PyData.hasDict], by simp [PyData.depth], by simp [PyData.leavesShort], by simp [PyData.bulk]⟩
theorem FitN.int {k n : Nat} {i : Int} (hi : i.natAbs < 2 ^ 1900) : FitN k n (.int i) := by
  have lg : i.natAbs.log2 < 1900 := PySem.Flt.log2_lt_of (by decide) hi
  refine ⟨by simp only [PyData.showable, decide_eq_true_eq]; omega, by simp [PyData.hasDict], by simp [PyData.depth], ?_, by simp [PyData.bulk]⟩
  have h1 := int_text_length_le (by decide) lg
  have h2 : (PyData.shown (.int i)).length = (Str.ofString (toString i)).length := by simp only [PyData.shown]
  rw [PySem.ofString_length] at h2
  have h3 : (PyData.shown (.int i)).length ≤ 2000 := by omega
  simpa only [PyData.leavesShort, decide_eq_true_eq] using h3
theorem FitN.str {k n : Nat} (x : Str) (h : (x.cps.toList.all fun c => decide (c < 16 ^ 8)) = true) (hn : x.cps.size ≤ n) : FitN k n (.str x) :=
  ⟨by simp [PyData.showable], by simp [PyData.hasDict], by simp [PyData.depth], by simpa only [PyData.leavesShort] using h, by simp only [PyData.bulk]; omega⟩
theorem FitN.mono {k n k' n' : Nat} {d : PyData} (x : FitN k n d) (h1 : k ≤ k') (h2 : n ≤ n') : FitN k' n' d := ⟨x.s, x.h, Nat.le_trans x.dp h1, x.l, Nat.le_trans x.b h2⟩
/-- the text is not too long -/
theorem FitN.len {k n : Nat} {d : PyData} (x : FitN k n d) (hn : n ≤ 8000) : d.shown.length ≤ sizeLine := by
  have h := PyData.shown_le_bulk 2000 (by decide) d x.l
  have h2 : (2000 + 2) * d.bulk ≤ 2002 * 8000 := Nat.mul_le_mul_left _ (Nat.le_trans x.b hn)
  rw [sizeLine_eq]
  omega
/-- the text of a short value -/
def Fit (d : PyData) : Prop := FitN 60 8000 d
theorem rep_ {K : PySem.W.Frag} {H : Hp} {x : V} {d : PyData} {Q : VK} (hD : Dp K H x d) (f : Fit d) (q : Q (.str d.shown) H) : rRep K [x] H Q := ⟨x, d, rfl, hD, f.s, f.h, f.dp, f.len (Nat.le_refl _), q⟩
end Vk
namespace Vk
open PySem PySem.Spec PyProof.Rows L2
/-- both ways of an if lead to what follows -/
theorem tifs_both {c : Bool} {t u : TS} {D : Ends} {σ : L2.St} {H : Hp} (Good : L2.St → Hp → Prop) (hQ : ∀ σ' H', Good σ' H' → D.nx σ' H') (ht : c = true → (∀ σ' H', Good σ' H' → D.nx σ' H') → t D σ H)
    (hu : c = false → (∀ σ' H', Good σ' H' → D.nx σ' H') → u D σ H) : if c = true then t D σ H else u D σ H := by
  cases c with
  | true => exact iteT (ht rfl hQ)
  | false => exact iteF (hu rfl hQ)
theorem SameBut.free {m p : Addr} {H H' : Hp} (s : SameBut m H H') (hm : ∃ o, H' m = some o) (h : H' p = none) : H p = none := by
  cases q : H p with
  | none => rfl
  | some o =>
    by_cases e : p = m
    · subst e
      obtain ⟨o', z⟩ := hm
      rw [h] at z
      cases z
    · have z := s p o e q
      rw [h] at z
      cases z
end Vk
namespace Vk
open PySem PySem.Spec PyProof.Rows L2
/-- both ways of a conditional expression lead to what follows, where they make things -/
theorem tif_bothH {c : Bool} {ta tb : TE} {σ : L2.St} {H : Hp} {Q : VK} (Good : V → Hp → Prop) (hQ : ∀ v H', Good v H' → Q v H') (ha : c = true → (∀ v H', Good v H' → Q v H') → ta σ H Q) (hb : c = false → (∀ v H', Good v H' → Q v H') → tb σ H Q) :
    if c = true then ta σ H Q else tb σ H Q := by
  cases c with
  | true => exact iteT (ha rfl hQ)
  | false => exact iteF (hb rfl hQ)
end Vk
/-! An exception that is caught and kept in a local. -/
namespace Vk
open PySem PySem.Spec PyProof.Rows L2
/-- an exception of the class cls, own dict d, that was caught -/
def ExK (cls : Value) (d : Option Addr) (a : Addr) : HO := .ext fun h => ∃ oe : Obj, h.get? a = some oe ∧ Zc cls d oe ∧ ∃ vs, oe.data = .fields vs
section
variable {X : Cx} {pins : List (Addr × Obj)} {σ : L2.St} {H : Hp} {s : Shared}
/-- what is pinned is tracked from now on -/
theorem keep_pinned {a : Addr} {oe : Obj} {cls : Value} {d : Option Addr} (I : Inv X ((a, oe) :: pins) σ H s) (hz : Zc cls d oe) (hf : ∃ vs, oe.data = .fields vs) (n0 : X.s_0.heap.get? a = none) (np : ∀ p ∈ X.pn ++ pins, p.1 ≠ a) :
    Inv X pins σ (upd H a (ExK cls d a)) s := by
  obtain ⟨ga, na, nL, nF, nc⟩ := I.pin (a, oe) (List.mem_append_right _ List.mem_cons_self)
  have ga : s.heap.get? a = some oe := ga
  have na : H a = none := na
  have nC : ∀ x c, X.env.cells.lookup x = some c → c ≠ a := by
    rintro x c e rfl
    obtain ⟨v, o, ho, hd⟩ := I.cell x c e
    obtain rfl := Option.some.inj (ho.symm.trans ga)
    exact nc v hd
  have off : ∀ b, b ≠ a → upd H a (ExK cls d a) b = H b := fun b hb => upd_ne hb
  have some_ne : ∀ b u, H b = some u → b ≠ a := fun b u e z => by
    rw [z, na] at e
    cases e
  refine { ok := I.ok, os := I.os, bare := I.bare, base := ?_, loc := I.loc, cell := I.cell, free := ?_, freeC := ?_, pin := ?_, hok := ?_, len := I.len }
  · have old : ∀ b o, X.s_0.heap.get? b = some o → b ≠ a := fun b o e z => by
      rw [z, n0] at e
      cases e
    refine { keep := I.base.keep, slot := I.base.slot, free := ?_, there := I.base.there, tups := ?_, frzs := ?_, tbls := ?_ }
    · intro b o e n hx
      rw [off b (old b o e)]
      exact I.base.free b o e n hx
    · intro b xs e
      have q := I.base.tups b xs e
      rw [off b (some_ne b _ q)]
      exact q
    · intro b o u e
      have q := I.base.frzs b o u e
      rw [off b (some_ne b _ q)]
      exact q
    · intro b ps e
      obtain ⟨more, q⟩ := I.base.tbls b ps e
      refine ⟨more, ?_⟩
      rw [off b (some_ne b _ q)]
      exact q
  · rw [off _ (Ne.symm nL)]
    exact I.free
  · intro x c e
    rw [off c (nC x c e)]
    exact I.freeC x c e
  · intro p hp
    have hp' : p ∈ X.pn ++ (a, oe) :: pins := by
      rcases List.mem_append.mp hp with z | z
      · exact List.mem_append_left _ z
      · exact List.mem_append_right _ (List.mem_cons_of_mem _ z)
    obtain ⟨e1, e2, e3, e4, e5⟩ := I.pin p hp'
    refine ⟨e1, ?_, e3, e4, e5⟩
    rw [off p.1 (np p hp)]
    exact e2
  · intro b u e
    by_cases hb : b = a
    · subst hb
      rw [upd_same] at e
      obtain rfl := Option.some.inj e
      exact ⟨⟨oe, ga, hz, hf⟩, ⟨oe, ga⟩, fun h1 h2 ⟨o, q1, q2, q3⟩ st => ⟨o, st o q1, q2, q3⟩⟩
    · rw [off b hb] at e
      refine (I.hok b u e).stay (fun c v _ q => q) (fun c q => ?_) (fun c xs q => ?_)
      · rw [off c (some_ne c _ q)]
        exact q
      · rw [off c (some_ne c _ q)]
        exact q
end
/-- the wish of an except clause that keeps what it caught: the exception is known behind it -/
def wKp (K : PySem.W.Frag) (len : Nat) (c : Value) (i : Nat) (ts : Addr → Value → Option Addr → TS) (D : Ends) : WX := fun cls d σ H =>
  PySem.W.exmOne K cls c = some true ∧ (σ.length = len → ∀ a, H a = none →
    ts a cls d { nx := fun σ' H' => D.nx (σ'.set i none) (upd H' a (ExK cls d a)), rt := fun _ _ => False, bk := fun _ _ => False, ct := fun _ _ => False } (σ.set i (some (.ref a))) H)
section
variable {X : Cx} {x n : Str} {c : Value} {i : Nat} {body suite : List Stmt} {b₀ : Stmt} {np pos pos' : Pos} {tb : WX → TS} {ts : Addr → Value → Option Addr → TS}
/-- what is wanted of an exception of the body: the clauses look at it -/
def landing (X : Cx) (hs : List ExceptHandler) (R : Flow → Shared → Prop) : Value → Shared → Prop := fun e s0 =>
  wpAny (model X.prog X.w) X.A (noteFrame e X.env) (fun _ s1 => wpAny (model X.prog X.w) X.A (setFlight e none)
    (fun _ s2 => wpAny (model X.prog X.w) X.A (handleBy e X.env hs) R X.xe s2) X.xe s1) X.xe s0
/-- try: .. except x as n: suite (the suite runs through) -/
theorem ps_try_keep (hs : X.stack = X.env :: X.outer) (hf : X.env.frame = some X.env.locals) (hex : X.ex = []) (hN : X.N.Nodup) (hi : X.N[i]? = some n) (hln : X.env.kindOf n = some .local) (hc : Names X x c)
    (hb : ∀ (W : WX) (pn : List (Addr × Obj)) (xe : Value → Shared → Prop), Takes (X.tr pn xe) W → PassesOwn (model X.prog X.w) X.A X.env xe → PSs (X.tr pn xe) body (tb W))
    (hsu : ∀ (a : Addr) (oe : Obj) (cls : Value) (d : Option Addr) (pn : List (Addr × Obj)), Zc cls d oe → (∃ vs, oe.data = .fields vs) → PSs (X.suite a ((a, oe) :: pn)) (b₀ :: suite) (ts a cls d)) :
    PS X (.Try body [.ExceptHandler (some (.Name x np)) (some n) (b₀ :: suite) pos'] [] [] pos) (fun D σ H => tb (wKp X.K X.N.length c i ts D) D σ H) := by
  refine ⟨fun pins s σ H D I h => wpAny_Try_except ?_⟩
  have ok := I.ok
  have frm : X.A.frames = some (X.env :: X.outer) := by rw [ok.frames, hs]
  have run := (hb (wKp X.K X.N.length c i ts D) (X.pn ++ pins) (landing X [.ExceptHandler (some (.Name x np)) (some n) (b₀ :: suite) pos'] (SP X pins D)) (fun u s' xx => ?_) PassesOwn.looking).run [] s σ H D (I.toTry _) h
  · refine wpAny_mono run (fun fl s1 hsp => ?_) (fun e s1 he => he)
    match fl, hsp with
    | .next, ⟨σ', H', J, q⟩ => exact wpAny_execs_nil ⟨σ', H', J.ofTry ok, q⟩
    | .brk, ⟨σ', H', J, q⟩ => exact ⟨σ', H', J.ofTry ok, q⟩
    | .cont, ⟨σ', H', J, q⟩ => exact ⟨σ', H', J.ofTry ok, q⟩
    | .ret u, ⟨v, σ', H', J, r, q⟩ => exact ⟨v, σ', H', J.ofTry ok, r, q⟩
  · -- what was raised lands here
    obtain ⟨a, B, sI, pins', σ', H', cls, d, rfl, J', nb, up, sky, na, os, ag, hyes, hgo⟩ := xx
    have J : Inv X pins σ' H' sI := J'.ofTry ok
    have air : Sky B (X.env :: X.outer) a (Zc cls d) X.env.locals s'.heap := by
      rw [← hs]
      exact sky
    show wpAny (model X.prog X.w) X.A (noteFrame (.ref a) X.env) _ _ _
    refine Sky.land Zc.steady frm hf air fun h3 fl3 up3 => ?_
    have J3 : Inv X pins σ' H' { s' with heap := h3 } := J.landed nb fl3.1 (up.trans up3) os ag
    obtain ⟨oe3, vs3, he3, hz3, hd3⟩ := fl3.there
    have nB : B.get? a = none := fl3.2.1
    have nfr : a ∉ frs (X.env :: X.outer) := fun hm => by
      obtain ⟨_, o', e', hnf⟩ := fl3.2.2.1.mem hm
      obtain rfl := Option.some.inj (he3.symm.trans e')
      exact hnf _ hd3
    have nL : a ≠ X.env.locals := fun z => nfr (List.mem_filterMap.mpr ⟨X.env, List.mem_cons_self, by rw [hf, z]⟩)
    have nF : a ∉ X.fs := fun hm => by
      obtain ⟨e, he, q⟩ := List.mem_filterMap.mp hm
      exact nfr (List.mem_filterMap.mpr ⟨e, List.mem_cons_of_mem _ he, q⟩)
    have fresh : ∀ b o, sI.heap.get? b = some o → b ≠ a := by
      rintro b o e rfl
      have z := nb b o e (by rw [hs]; exact nfr)
      rw [nB] at z
      cases z
    have n0 : X.s_0.heap.get? a = none := by
      cases q : X.s_0.heap.get? a with
      | none => rfl
      | some o =>
        obtain ⟨o', z⟩ := J.base.there a o q (by rw [hex]; exact List.not_mem_nil)
        exact absurd rfl (fresh a o' z)
    have npp : ∀ p ∈ X.pn ++ pins, p.1 ≠ a := fun p hp => fresh p.1 p.2 (J.pin p hp).1
    have S3 := J3.suite he3 hd3 na nL nF
    refine wpAny_handleBy_cons (codeAny_handlers_test ?_) (by intro q; cases q)
    have seen : PySem.W.Looks (model X.prog X.w) h3 (typeOf (.ref a)) cls := fun A Q E s k q => wpAny_typeOf_ref (k _ _ he3) (by
      rw [hz3.1]
      exact q)
    have fits := PySem.W.exm_one (M := model X.prog X.w) J3.kIn seen hyes
    have look : ∀ {Q : Value → Shared → Prop} {E : Value → Shared → Prop}, Q c { s' with heap := h3 } → wpAny (model X.prog X.w) (X.A.mark (some (.ref a))) (eval (.Name x np) X.env) Q E { s' with heap := h3 } := by
      intro Q E q
      obtain ⟨hg, hdbg, hm | ⟨hm, hv, hnn⟩⟩ := hc
      · exact ld_glob (X := X.suite a ((a, oe3) :: (X.pn ++ pins))) S3 hg hm q hdbg
      · exact ld_blt (X := X.suite a ((a, oe3) :: (X.pn ++ pins))) S3 hg hm hv q hnn hdbg
    refine look (fits.here (codeAny_handlers_suite_as ?_))
    refine HandSPX.lands_againZ fl3 fun h4 fl4 up4 => ?_
    have J4 : Inv X pins σ' H' { s' with heap := h4 } := J.landed nb fl4.1 ((up.trans up3).trans up4) os ag
    obtain ⟨oe4, vs4, he4, hz4, hd4⟩ := fl4.there
    have S4 := J4.suite he4 hd4 na nL nF
    refine store_ok (X := X.suite a ((a, oe4) :: (X.pn ++ pins))) (v := .ref a) S4 hN hi (.inl hln) rfl (fun s5 S5 => ?_) (.inr hln)
    refine wpAny_mono ((hsu a oe4 cls d (X.pn ++ pins) hz4 ⟨_, hd4⟩).run [] s5 _ H' _ S5 (hgo J.len a na)) (fun fl s6 hsp => ?_) (fun _ _ z => False.elim z)
    match fl, hsp with
    | .brk, ⟨_, _, _, q⟩ => exact False.elim q
    | .cont, ⟨_, _, _, q⟩ => exact False.elim q
    | .ret u, ⟨_, _, _, _, _, q⟩ => exact False.elim q
    | .next, ⟨σ6, H6, S6, q6⟩ =>
      obtain ⟨g6, n6, _⟩ := S6.pin (a, oe4) (List.mem_append_left _ List.mem_cons_self)
      have J6 : Inv X ((a, oe4) :: pins) σ6 H6 s6 := (S6.unsuite ok).pins_of fun p hp => by
        rcases List.mem_cons.mp hp with e | hp
        · rw [e]
          exact ⟨g6, n6, nL, nF, fun v z => by
            have z' : oe4.data = .cell v := z
            rw [hd4] at z'
            cases z'⟩
        · exact (S6.unsuite ok).pin p (List.mem_append_right _ hp)
      exact gone_ok J6 hN hi hln fun s7 J7 => ⟨_, _, keep_pinned J7 hz4 ⟨_, hd4⟩ n0 npp, q6⟩
end
/-- isinstance(e, c), e such an exception -/
def rIsK (K : PySem.W.Frag) (D : Addr) : List V → Hp → VK → Prop := fun xs H Q => ∃ (a : Addr) (c : V) (cv : Value) (b : Bool), xs = [.ref a, c] ∧ H a = some (ExK (.ref D) none a) ∧ ClsV c cv ∧ PySem.W.kitOne K (.ref D) cv = some b ∧ Q (.bl b) H
theorem call_isK {X : Cx} {D : Addr} (C : ExcC X.K D) : CallR X (.builtin "isinstance") (rIsK X.K D) := by
  intro pins s σ H xs us Q I r h
  obtain ⟨a, c, cv, b, rfl, ha, hcv, e, q⟩ := h
  obtain ⟨u1, u2, rfl, r1, r2⟩ := vals2 r
  obtain rfl : u1 = Value.ref a := r1
  obtain rfl := hcv.eq r2
  obtain ⟨⟨oe, g, hz, vs, hv⟩, _, _⟩ := I.hok a _ ha
  have J : PySem.W.InstAt s.heap a oe D none := by
    obtain ⟨oc, od, oda, osl⟩ := oe
    obtain ⟨h1, h2⟩ := hz
    dsimp only at h1 h2 hv
    subst h1 h2 hv
    exact ⟨g, rfl, rfl, trivial⟩
  exact PySem.W.kia_one (PySem.W.handS_kitx_exc C.hg C.hk C.hs C.hd C.ha C.hn C.ht C.hm) I.kIn J e (fun z => nomatch z) fun tk => ⟨.bl b, H, I.kept (t' := tk) fun _ _ z => z, rfl, q⟩
end Vk
/-! zip of a list and a tuple in any mix, enumerate of a tuple. -/
namespace Vk
open PySem PySem.Spec PyProof.Rows L2
/-- a list (true) or a tuple (false) -/
def SqK : Bool → PySem.W.Frag → Hp → Addr → List V → Prop
  | true => SqL
  | false => SqT
def ItA : Bool → Heap → Addr → Addr → Nat → Prop
  | true => Heap.IsListIter
  | false => Heap.IsTupleIter
def AtA : Bool → Heap → Addr → Array Value → Prop
  | true => Heap.IsList
  | false => Heap.IsTuple
/-- a new iterator's object -/
def itO : Bool → Addr → Obj
  | true, l => { cls := .type "list_iterator", data := .fields #[.ref l, .int 0 0] }
  | false, l => { cls := .type "tuple_iterator", data := .fields #[.ref l, .int 0 0] }
section
variable {X : Cx} {pins : List (Addr × Obj)} {σ : L2.St} {H : Hp} {s : Shared} {b : Bool} {a : Addr} {xs ys : List V} {h h' : Heap} {it l : Addr} {i : Nat}
theorem seqK (I : Inv X pins σ H s) (q : SqK b X.K H a xs) : ∃ its : List Value, Vals xs its ∧ AtA b s.heap a its.toArray := by
  cases b with
  | true =>
    obtain ⟨its, r, p, _⟩ := I.list q
    exact ⟨its, r, p.isList⟩
  | false =>
    obtain ⟨its, r, p, _⟩ := I.tuple q
    exact ⟨its, r, p⟩
theorem injK (I : Inv X pins σ H s) (q : SqK b X.K H a xs) (q' : SqK b X.K H a ys) : xs = ys := by
  cases b with
  | true => exact I.list_inj q q'
  | false => exact I.tuple_inj q q'
theorem ItA.at (q : ItA b h it l i) (k : ∀ o, h.get? it = some o → h'.get? it = some o) : ItA b h' it l i := by
  cases b with
  | true => exact Heap.IsListIter.at q k
  | false => exact Heap.IsTupleIter.at q k
theorem ItA.obj (q : ItA b h it l i) : ∃ o, h.get? it = some o ∧ ∀ v, o.data ≠ .cell v := by
  cases b with
  | true =>
    obtain ⟨o, e, _, d⟩ := q
    exact ⟨o, e, fun v z => by rw [d] at z; cases z⟩
  | false =>
    obtain ⟨o, e, _, d⟩ := q
    exact ⟨o, e, fun v z => by rw [d] at z; cases z⟩
theorem ItA.new (q : h.get? it = some (itO b l)) : ItA b h it l 0 := by
  cases b with
  | true => exact ⟨_, q, rfl, rfl⟩
  | false => exact ⟨_, q, rfl, rfl⟩
theorem drawsK {prog : Program} {w : World} {A : Around} (hh : A.handled = none) (hne : l ≠ it) (items : Array Value) :
    Draws prog w A it [it, l] items.size (fun i v => items[i]? = some v) (fun i h => ItA b h it l i ∧ AtA b h l items) := by
  cases b with
  | true => exact Draws.list hh it l hne items
  | false => exact Draws.tuple hh it l hne items
theorem beginsK (l : Addr) (items : Array Value) : Begins (.ref l) (itO b l) fun h => AtA b h l items := by
  cases b with
  | true => exact begins_list l items
  | false => exact begins_tuple l items
theorem AtA.lt {items : Array Value} (q : AtA b h l items) : l < h.objs.size := by
  cases b with
  | true =>
    obtain ⟨o, e, _⟩ := q
    exact Heap.lt_size e
  | false =>
    obtain ⟨o, e, _⟩ := q
    exact Heap.lt_size e
end
/-- two of either kind, the items in new pairs -/
def ItzK (b1 b2 : Bool) (K : PySem.W.Frag) (a b : Addr) : It :=
  ⟨fun i H => ∃ (xs ys : List V) (x y : V), SqK b1 K H a xs ∧ SqK b2 K H b ys ∧ xs[i]? = some x ∧ ys[i]? = some y,
    fun i H v H' => ∃ T x y, v = .ref T ∧ H T = none ∧ H' = upd H T (.tup [x, y]) ∧ (∀ xs, SqK b1 K H a xs → xs[i]? = some x) ∧ ∀ ys, SqK b2 K H b ys → ys[i]? = some y,
    fun i H => ∃ xs ys : List V, SqK b1 K H a xs ∧ SqK b2 K H b ys ∧ i ≤ xs.length ∧ i ≤ ys.length ∧ (i = xs.length ∨ i = ys.length)⟩
theorem walk_zipK {b1 b2 : Bool} {K : PySem.W.Frag} {a b : Addr} {xs ys : List V} {n : Nat} (hn : n = min xs.length ys.length) : Walk (ItzK b1 b2 K a b) n (fun H => SqK b1 K H a xs ∧ SqK b2 K H b ys) (YPair (fun i => xs[i]?) (fun i => ys[i]?)) where
  goes := fun i H hi ⟨q1, q2⟩ => by
    have l1 : i < xs.length := by omega
    have l2 : i < ys.length := by omega
    exact ⟨xs, ys, xs[i], ys[i], q1, q2, List.getElem?_eq_getElem l1, List.getElem?_eq_getElem l2⟩
  stops := fun H ⟨q1, q2⟩ => ⟨xs, ys, q1, q2, by omega, by omega, by omega⟩
  yields := fun i H v H' hi ⟨q1, q2⟩ ⟨T, x, y, e1, e2, e3, f1, f2⟩ => ⟨T, x, y, e1, e2, e3, f1 _ q1, f2 _ q2⟩
section
variable {P : Program} {w : World} {K : PySem.W.Frag} {elts : List Expr} {kk : Nat} {tpos : Pos}
theorem five {c z TI TO i1 i2 : Addr} (h : c ∈ [z, TI, TO, i1, i2]) : c = z ∨ c = TI ∨ c = TO ∨ c = i1 ∨ c = i2 := by simpa using h
theorem turn_zipK {b1 b2 : Bool} {a b z TI TO i1 i2 : Addr} (S : ZipSep2 z TI TO i1 i2 [i1, a] [i2, b]) (ha : a ≠ i1) (hb : b ≠ i2) :
    Turn P w K (.Tuple elts kk tpos) (ItzK b1 b2 K a b) [z, TI, TO, i1, i2] z (fun i h => IsZip h z TI TO .none ∧ IsPair h TI (.ref i1) (.ref i2) ∧ (∃ x y, IsPair h TO x y) ∧ ItA b1 h i1 a i ∧ ItA b2 h i2 b i) where
  mem := List.mem_cons_self
  obj := fun i h st c hc => by
    obtain ⟨hz, hTI, ⟨x, y, hTO⟩, q1, q2⟩ := st
    rcases five hc with rfl | rfl | rfl | rfl | rfl
    · exact ⟨_, hz, fun v q => nomatch q⟩
    · exact ⟨_, hTI, fun v q => nomatch q⟩
    · exact ⟨_, hTO, fun v q => nomatch q⟩
    · exact q1.obj
    · exact q2.obj
  keep := fun i h h' st k => by
    obtain ⟨hz, hTI, ⟨x, y, hTO⟩, q1, q2⟩ := st
    exact ⟨k z (by simp) _ hz, k TI (by simp) _ hTI, ⟨x, y, k TO (by simp) _ hTO⟩, q1.at (k i1 (by simp)), q2.at (k i2 (by simp))⟩
  item := by
    intro X hP hw hK hc i pins s σ H E I hf st hg
    subst hP hw hK
    obtain ⟨hz, hTI, ⟨x0, y0, hTO⟩, q1, q2⟩ := st
    obtain ⟨xs, ys, x, y, sx, sy, hx, hy⟩ := hg
    obtain ⟨its1, r1, p1⟩ := seqK I sx
    obtain ⟨its2, r2, p2⟩ := seqK I sy
    obtain ⟨u, hu, ru⟩ := r1.get hx
    obtain ⟨u2, hu2, ru2⟩ := r2.get hy
    have hd : X.A.in1.handled = none := I.ok.hd hc
    have l1 : i < its1.toArray.size := by
      have := (List.getElem?_eq_some_iff.mp hu).1
      simpa using this
    have l2 : i < its2.toArray.size := by
      have := (List.getElem?_eq_some_iff.mp hu2).1
      simpa using this
    have zl : z < s.heap.objs.size := Heap.lt_size hz
    refine wpAny_pyNext_zipD2_item S (drawsK (prog := X.prog) (w := X.w) (b := b1) hd ha its1.toArray) (drawsK (prog := X.prog) (w := X.w) (b := b2) hd hb its2.toArray) hz hTI hTO ⟨q1, p1⟩ ⟨q2, p2⟩ l1 l2 fun v1 v2 h' tk e1 e2 z' TO' s1' s2' hT hsz hk => ?_
    have ev1 : v1 = u := by
      have : its1[i]? = some v1 := by simpa using e1
      rw [hu] at this
      exact (Option.some.inj this).symm
    have ev2 : v2 = u2 := by
      have : its2[i]? = some v2 := by simpa using e2
      rw [hu2] at this
      exact (Option.some.inj this).symm
    subst ev1 ev2
    refine ⟨_, rfl, wpAny_letOwnedTupleGo_zip (s := { s with heap := h', toks := tk }) z' fun h'' z'' sb => ?_⟩
    have hT2 : h''.get? s.heap.objs.size = some { cls := .type "tuple", data := .seq #[v1, v2] } := (sb.2 _ (Nat.ne_of_gt zl)).trans hT
    have new : ObjOk X.prog X.w (upd H s.heap.objs.size (.tup [x, y])) h'' s.heap.objs.size (.tup [x, y]) :=
      ⟨by show 2 ≤ sizeLine; decide, [v1, v2], .cons ru (.cons ru2 .nil), ⟨_, hT2, rfl, _, rfl⟩⟩
    have I1 : Inv X pins σ (upd H s.heap.objs.size (.tup [x, y])) { s with heap := h'', toks := tk } :=
      I.turnedNew (t' := tk) (ch := [z, TI, TO, i1, i2]) (fun c o hc q => (sb.2 c fun q' => hc (by simp [q'])).trans (hk c o (fun q' => hc (by simp [q'])) (fun q' => hc (by simp [q'])) (fun q' => hc (by simp [q'])) (fun q' => hc (by simp [q'])) q)) hf (Nat.le_refl _) new
    have nz1 : i1 ≠ z := fun e => S.zf1 (by rw [e]; exact List.mem_cons_self)
    have nz2 : i2 ≠ z := fun e => S.zf2 (by rw [e]; exact List.mem_cons_self)
    refine ⟨.ref s.heap.objs.size, _, I1, rfl, ⟨_, x, y, rfl, I.hok.fresh (Nat.le_refl _), rfl, fun l hl => by rw [injK I hl sx]; exact hx, fun l hl => by rw [injK I hl sy]; exact hy⟩, ⟨z'', ?_, ⟨v1, v2, ?_⟩, ?_, ?_⟩, fun c hcm => ?_⟩
    · exact (sb.2 _ S.TIz).trans (hk _ _ S.TIz S.TITO S.TIi1 S.TIi2 hTI)
    · exact (sb.2 _ S.TOz).trans TO'
    · exact s1'.1.at fun o q => (sb.2 _ nz1).trans q
    · exact s2'.1.at fun o q => (sb.2 _ nz2).trans q
    · have lt : c < s.heap.objs.size := by
        rcases five hcm with rfl | rfl | rfl | rfl | rfl
        · exact zl
        · exact Heap.lt_size hTI
        · exact Heap.lt_size hTO
        · obtain ⟨o, e, _⟩ := q1.obj
          exact Heap.lt_size e
        · obtain ⟨o, e, _⟩ := q2.obj
          exact Heap.lt_size e
      rw [upd_ne (Nat.ne_of_lt lt)]
      exact (hf c hcm).1
  done := by
    intro X hP hw hK hc i pins s σ H E I hf st hg
    subst hP hw hK
    obtain ⟨hz, hTI, ⟨x0, y0, hTO⟩, q1, q2⟩ := st
    obtain ⟨xs, ys, sx, sy, l1, l2, le⟩ := hg
    obtain ⟨its1, r1, p1⟩ := seqK I sx
    obtain ⟨its2, r2, p2⟩ := seqK I sy
    have hd : X.A.in1.handled = none := I.ok.hd hc
    have m1 := r1.length
    have m2 := r2.length
    refine wpAny_pyNext_zipD2_end S (drawsK (prog := X.prog) (w := X.w) (b := b1) hd ha its1.toArray) (drawsK (prog := X.prog) (w := X.w) (b := b2) hd hb its2.toArray) hz hTI hTO ⟨q1, p1⟩ ⟨q2, p2⟩ (by simp; omega) (by simp; omega) (by simp; omega) fun h' tk hk => ⟨rfl, ?_⟩
    exact I.turnedL (t' := tk) (ch := [z, TI, TO, i1, i2]) (fun c o hc q => hk c o (fun q' => hc (by simp [q'])) (fun q' => hc (by simp [q'])) (fun q' => hc (by simp [q'])) (fun q' => hc (by simp [q'])) q) hf
  self := fun A i s Q E st h => wpAny_pyIter_zip st.1 h
def iZipK (K : PySem.W.Frag) (ta : TA) : TI := fun σ H R => ta σ H fun vs H1 => ∃ b1 b2 a b xs ys, vs = [.ref a, .ref b] ∧ SqK b1 K H1 a xs ∧ SqK b2 K H1 b ys ∧ R (ItzK b1 b2 K a b) H1
theorem pi_zipK {X : Cx} {e e2 : Expr} {ta : TA} {p pos : Pos} (hg : Gl X "zip") (hm : X.mg "zip" = none) (ha : PA X [e, e2] ta)
    (hs : starEach [e, e2] X.env = (false, eval e X.env) :: starEach [e2] X.env := by rfl) (hpl : (backTo pos (starEach [e2] X.env)).any (·.1) = false := by rfl) :
    PI X (.Tuple elts kk tpos) (.Call (.Name "zip" p) [e, e2] [] pos) (iZipK X.K ta) := by
  refine ⟨fun pins s σ H R I h => ?_⟩
  refine Call_ (ld_blt I hg hm PyProof.Rows.boot_zip (PyProof.Rows.callWith_type1 (thn (ha.run pos pins s σ H _ I h) fun us s1 q => ?_) hs hpl))
  obtain ⟨vs, H1, I1, r1, b1, b2, a, b, xs, ys, rfl, sx, sy, q⟩ := q
  obtain ⟨u1, u2, rfl, e1, e2⟩ := vals2 r1
  cases e1
  cases e2
  obtain ⟨its1, _, p1⟩ := seqK I1 sx
  obtain ⟨its2, _, p2⟩ := seqK I1 sy
  refine zip_begins2 (beginsK (b := b1) a its1.toArray) (beginsK (b := b2) b its2.toArray) p1 p2 fun h' hz hTI hTO g1 g2 hsz hk => wpAny_pyIter_zip hz ?_
  have I2 : Inv X pins σ H1 { s1 with heap := h' } := I1.kept (t' := s1.toks) hk
  have na : a < s1.heap.objs.size := p1.lt
  have nb : b < s1.heap.objs.size := p2.lt
  have S : ZipSep2 (s1.heap.objs.size + 4) (s1.heap.objs.size + 2) (s1.heap.objs.size + 3) s1.heap.objs.size (s1.heap.objs.size + 1) [s1.heap.objs.size, a] [s1.heap.objs.size + 1, b] :=
    zip_sep2 (fun c hc => by rw [List.mem_singleton.mp hc]; exact na) (fun c hc => by rw [List.mem_singleton.mp hc]; exact nb)
  refine ⟨s1.heap.objs.size + 4, [s1.heap.objs.size + 4, s1.heap.objs.size + 2, s1.heap.objs.size + 3, s1.heap.objs.size, s1.heap.objs.size + 1], _, _, H1, rfl, I2, turn_zipK S (Nat.ne_of_lt na) (Nat.ne_of_lt (Nat.lt_succ_of_lt nb)), ⟨hz, hTI, ⟨_, _, hTO⟩, .new g1, .new g2⟩, fun c hc => ?_, q⟩
  have le : s1.heap.objs.size ≤ c := by
    rcases five hc with rfl | rfl | rfl | rfl | rfl <;> omega
  exact I1.fpOk le (I1.hok.fresh le)
theorem meets_enum1 {v : Value} {o : Obj} {H : Heap → Prop} (B : Begins v o H) :
    Meets (Builtin.«enumerate.__new__» ⟨[.type "enumerate", v], []⟩) (fun _ R s => H s.heap ∧
      R (.ok (.ret (.ref (s.heap.push o).objs.size))) { s with heap := (s.heap.push o).push { cls := .type "enumerate", data := .fields #[.none, .bool false, .ref s.heap.objs.size, rawInt 0, .none, .none] } }) :=
  .of_wp fun prog w A R s h => by
    obtain ⟨hp, g, d, tk, os⟩ := s
    obtain ⟨h1, h⟩ := h
    have sub := sub_enumerate
    have it : ∀ {A' : Around} {E : Value → Shared → Prop} {Q : Value → Shared → Prop}, Q (.ref hp.objs.size) ⟨hp.push o, g, d, tk, os⟩ → wpAny (model prog w) A' (pyIter v) Q E ⟨hp, g, d, tk, os⟩ :=
      fun q => B.iter prog w _ _ ⟨hp, g, d, tk, os⟩ _ h1 q
    wp_walk using it
    refine wpAny_stack_any fun st => wpAny_pure ?_
    split
    · rename_i c _ _ _ _ _
      cases (c == Value.type "enumerate") <;> (wp_walk using it; exact ⟨_, rfl, h⟩)
    · wp_walk using it
      exact ⟨_, rfl, h⟩
theorem call_enum1 {prog : Program} {A : Around} {E : Value → Shared → Prop} {s : Shared} {v : Value} {o : Obj} {H : Heap → Prop} {Q : Value → Shared → Prop} (B : Begins v o H) (h1 : H s.heap)
    (h : ∀ h', IsEnum h' (s.heap.objs.size + 1) s.heap.objs.size 0 .none → h'.get? s.heap.objs.size = some o → (∀ b u, s.heap.get? b = some u → h'.get? b = some u) → Q (.ref (s.heap.objs.size + 1)) { s with heap := h' }) :
    wpAny (model prog w) A (call (.type "enumerate") [v]) Q E s := by
  refine callType_new F.called_enumerate (by decide) (F.typeCall_enumerate_1 _) (F.newCall_enumerate_1 _) (fun obj => F.args_object_init_2 obj _) F.entry_enumerate_new (meets_enum1 B) ⟨h1, ?_⟩
  have z : (s.heap.push o).objs.size = s.heap.objs.size + 1 := Heap.size_push ..
  show _ ∧ _
  rw [z]
  have e : IsEnum ((s.heap.push o).push { cls := .type "enumerate", data := .fields #[.none, .bool false, .ref s.heap.objs.size, rawInt 0, .none, .none] }) (s.heap.objs.size + 1) s.heap.objs.size 0 .none := by
    have y := Heap.get?_push_size (s.heap.push o) (o := { cls := .type "enumerate", data := .fields #[.none, .bool false, .ref s.heap.objs.size, rawInt 0, .none, .none] }) rfl
    rw [z] at y
    exact y
  exact ⟨⟨_, e, rfl⟩, h _ e (Heap.get?_push_of_some _ (Heap.get?_push_size _ B.free)) fun b u x => Heap.get?_push_of_some _ (Heap.get?_push_of_some _ x)⟩
/-- one of either kind, each item in a new pair behind its number -/
def IteK (b : Bool) (K : PySem.W.Frag) (a : Addr) : It :=
  ⟨fun i H => ∃ (xs : List V) (x : V), SqK b K H a xs ∧ xs[i]? = some x, fun i H v H' => ∃ T x, v = .ref T ∧ H T = none ∧ H' = upd H T (.tup [.int (i : Nat), x]) ∧ ∀ xs, SqK b K H a xs → xs[i]? = some x,
    fun i H => ∃ xs : List V, SqK b K H a xs ∧ xs.length = i⟩
theorem walk_enumK {b : Bool} {a : Addr} {xs : List V} : Walk (IteK b K a) xs.length (fun H => SqK b K H a xs) (YPair (fun i => some (.int (i : Nat))) (fun i => xs[i]?)) where
  goes := fun i H hi q => ⟨xs, xs[i], q, List.getElem?_eq_getElem hi⟩
  stops := fun H q => ⟨xs, q, rfl⟩
  yields := fun i H v H' hi q ⟨T, x, e1, e2, e3, f⟩ => ⟨T, _, x, e1, e2, e3, rfl, f _ q⟩
theorem turn_enumK {b : Bool} {a e it : Addr} (ha : a ≠ it) (hea : e ≠ a) (hei : e ≠ it) :
    Turn P w K (.Tuple elts kk tpos) (IteK b K a) [e, it] e (fun i h => (∃ old, IsEnum h e it ((i : Nat) : Int) old) ∧ ItA b h it a i) where
  mem := List.mem_cons_self
  obj := fun i h st c hc => by
    obtain ⟨⟨old, he⟩, q⟩ := st
    rcases List.mem_cons.mp hc with rfl | hc
    · exact ⟨_, he, fun v z => nomatch z⟩
    · rw [List.mem_singleton.mp hc]
      exact q.obj
  keep := fun i h h' st k => by
    obtain ⟨⟨old, he⟩, q⟩ := st
    exact ⟨⟨old, k e (by simp) _ he⟩, q.at (k it (by simp))⟩
  item := by
    intro X hP hw hK hc i pins s σ H E I hf st hg
    subst hP hw hK
    obtain ⟨⟨old, he⟩, q⟩ := st
    obtain ⟨xs, x, sx, hx⟩ := hg
    obtain ⟨its, r, p⟩ := seqK I sx
    obtain ⟨u, hu, ru⟩ := r.get hx
    have hd : X.A.in1.handled = none := I.ok.hd hc
    have l1 : i < its.toArray.size := by
      have := (List.getElem?_eq_some_iff.mp hu).1
      simpa using this
    have el : e < s.heap.objs.size := Heap.lt_size he
    have il : it < s.heap.objs.size := by
      obtain ⟨o, z, _⟩ := q.obj
      exact Heap.lt_size z
    refine wpAny_pyNext_enum_itemD (drawsK (prog := X.prog) (w := X.w) (b := b) hd ha its.toArray) he ⟨q, p⟩ l1 hei (by simp [hei, hea]) fun v h' tk e1 ho st' hT hsz hk => ?_
    have ev : v = u := by
      have : its[i]? = some v := by simpa using e1
      rw [hu] at this
      exact (Option.some.inj this).symm
    subst ev
    refine ⟨_, rfl, wpAny_letOwnedTupleGo_enum (s := { s with heap := h', toks := tk + 1 }) ho fun h'' he' sb => ?_⟩
    have hT2 : h''.get? s.heap.objs.size = some { cls := .type "tuple", data := .seq #[.int i tk, v] } := (sb.2 _ (Nat.ne_of_gt el)).trans hT
    have new : ObjOk X.prog X.w (upd H s.heap.objs.size (.tup [.int (i : Nat), x])) h'' s.heap.objs.size (.tup [.int (i : Nat), x]) :=
      ⟨by show 2 ≤ sizeLine; decide, [.int i tk, v], .cons ⟨_, rfl⟩ (.cons ru .nil), ⟨_, hT2, rfl, _, rfl⟩⟩
    have I1 : Inv X pins σ (upd H s.heap.objs.size (.tup [.int (i : Nat), x])) { s with heap := h'', toks := tk + 1 } :=
      I.turnedNew (ch := [e, it]) (fun c o hc z => (sb.2 c fun y => hc (by simp [y])).trans (hk c o (fun y => hc (by simp [y])) (fun y => hc (by simp [y])) z)) hf (Nat.le_refl _) new
    refine ⟨.ref s.heap.objs.size, _, I1, rfl, ⟨_, x, rfl, I.hok.fresh (Nat.le_refl _), rfl, fun ys hy => by rw [injK I hy sx]; exact hx⟩, ⟨⟨v, ?_⟩, st'.1.at fun o z => (sb.2 it (Ne.symm hei)).trans z⟩, fun c hc => ?_⟩
    · have e2 : ((i + 1 : Nat) : Int) = (i : Int) + 1 := by omega
      rw [e2]
      exact he'
    · have lt : c < s.heap.objs.size := by
        rcases List.mem_cons.mp hc with rfl | z
        · exact el
        · rw [List.mem_singleton.mp z]
          exact il
      rw [upd_ne (Nat.ne_of_lt lt)]
      exact (hf c hc).1
  done := by
    intro X hP hw hK hc i pins s σ H E I hf st hg
    subst hP hw hK
    obtain ⟨⟨old, he⟩, q⟩ := st
    obtain ⟨xs, sx, rfl⟩ := hg
    obtain ⟨its, r, p⟩ := seqK I sx
    have hd : X.A.in1.handled = none := I.ok.hd hc
    obtain ⟨f0, f1, f2, f3, f4, f5⟩ := hf it (by simp)
    have hl : xs.length = its.toArray.size := by
      rw [List.size_toArray]
      exact r.length
    refine wpAny_pyNext_enum_endD (drawsK (prog := X.prog) (w := X.w) (b := b) hd ha its.toArray) he (by rw [hl] at q; exact ⟨q, p⟩) fun h' eb => ⟨rfl, I.turned (t' := s.toks) (fun b o hb z => eb b o hb z) f0 f1 f3 f4 f5⟩
  self := fun A i s Q E st h => by
    obtain ⟨⟨old, he⟩, _⟩ := st
    exact wpAny_pyIter_enum he h
def iEnumK (K : PySem.W.Frag) (ta : TA) : TI := fun σ H R => ta σ H fun vs H1 => ∃ b a xs, vs = [.ref a] ∧ SqK b K H1 a xs ∧ R (IteK b K a) H1
theorem pi_enumK {X : Cx} {e : Expr} {ta : TA} {p pos : Pos} (hg : Gl X "enumerate") (hm : X.mg "enumerate" = none) (ha : PA X [e] ta) (hs : starEach [e] X.env = [(false, eval e X.env)] := by rfl) :
    PI X (.Tuple elts kk tpos) (.Call (.Name "enumerate" p) [e] [] pos) (iEnumK X.K ta) := by
  refine ⟨fun pins s σ H R I h => ?_⟩
  refine Call_ (ld_blt I hg hm boot_enumerate (PyProof.Rows.callWith_type1 (thn (ha.run pos pins s σ H _ I h) fun us s1 q => ?_) hs rfl))
  obtain ⟨vs, H1, I1, r1, b, a, xs, rfl, sx, q⟩ := q
  obtain ⟨u, rfl, e1⟩ := vals1 r1
  cases e1
  obtain ⟨its, _, p1⟩ := seqK I1 sx
  refine call_enum1 (beginsK (b := b) a its.toArray) p1 fun h' he g hk => wpAny_pyIter_enum he ?_
  have I2 : Inv X pins σ H1 { s1 with heap := h' } := I1.kept (t' := s1.toks) hk
  have na : a < s1.heap.objs.size := p1.lt
  refine ⟨s1.heap.objs.size + 1, [s1.heap.objs.size + 1, s1.heap.objs.size], _, _, H1, rfl, I2, turn_enumK (Nat.ne_of_lt na) (Nat.ne_of_gt (Nat.lt_succ_of_lt na)) (Nat.succ_ne_self _), ⟨⟨.none, he⟩, .new g⟩, fun c hc => ?_, q⟩
  have le : s1.heap.objs.size ≤ c := by
    rcases List.mem_cons.mp hc with rfl | z
    · exact Nat.le_succ _
    · rw [List.mem_singleton.mp z]
      exact Nat.le_refl _
  exact I1.fpOk le (I1.hok.fresh le)
end
end Vk
namespace Vk
open PySem PySem.Spec PyProof.Rows L2
/-- a value of one of seven kinds -/
inductive Oky (H : Hp) : V → String → Prop where
  | non : Oky H .non "NoneType"
  | bl (b : Bool) : Oky H (.bl b) "bool"
  | int (i : Int) : Oky H (.int i) "int"
  | str (x : Str) : Oky H (.str x) "str"
  | lst {a : Addr} {xs : List V} (e : H a = some (.lst xs)) : Oky H (.ref a) "list"
  | tup {a : Addr} {xs : List V} (e : H a = some (.tup xs)) : Oky H (.ref a) "tuple"
  | dK {a : Addr} {kvs : List (Key × V)} (e : H a = some (.dK kvs)) : Oky H (.ref a) "dict"
theorem Oky.ty {K : PySem.W.Frag} {H : Hp} {x : V} {t : String} (h : Oky H x t) : TyX K H x (.type t) := by
  cases h with
  | non => exact .base .non
  | bl b => exact .base (.bl b)
  | int i => exact .base (.int i)
  | str x => exact .base (.str x)
  | lst e => exact .base (.lst e)
  | tup e => exact .base (.tup e)
  | dK e => exact .base (.dK e)
theorem Oky.same {H H' : Hp} {x : V} {t : String} (h : Oky H x t) (s : Same H H') : Oky H' x t := by
  cases h with
  | non => exact .non
  | bl b => exact .bl b
  | int i => exact .int i
  | str x => exact .str x
  | lst e => exact .lst (s _ _ e)
  | tup e => exact .tup (s _ _ e)
  | dK e => exact .dK (s _ _ e)
theorem Oky.kTup {H : Hp} {x : V} {t : String} (h : Oky H x t) : kitB t "tuple" = some (decide (t = "tuple")) := by
  cases h <;> decide +kernel
theorem Oky.kInt {H : Hp} {x : V} {t : String} (h : Oky H x t) : kitB t "int" = some (decide (t = "int" ∨ t = "bool")) := by
  cases h <;> decide +kernel
theorem Oky.kBool {H : Hp} {x : V} {t : String} (h : Oky H x t) : kitB t "bool" = some (decide (t = "bool")) := by
  cases h <;> decide +kernel
def isInt : V → Bool
  | .int _ => true
  | _ => false
theorem Oky.isInt {H : Hp} {x : V} {t : String} (h : Oky H x t) : isInt x = decide (t = "int") := by
  cases h <;> simp [Vk.isInt]
/-- the reading of isinstance(x, T) -/
theorem isi_ {K : PySem.W.Frag} {H : Hp} {x : V} {t T : String} {b : Bool} {Q : VK} (h : Oky H x t) (k : kitB t T = some b) (q : Q (.bl b) H) : rIsi K [x, .ty T] H Q :=
  ⟨x, .ty T, _, _, b, rfl, .ty T, h.ty, kit_ty k, q⟩
end Vk
/-! Readings by what stands afterwards. -/
namespace Vk
open PySem PySem.Spec PyProof.Rows L2
theorem Same.seqT {K : PySem.W.Frag} {H H' : Hp} {a : Addr} {xs : List V} (s : Same H H') (h : SqT K H a xs) : SqT K H' a xs := by
  rcases h with (h | ⟨o, h⟩) | h
  · exact .inl (.inl (s _ _ h))
  · exact .inl (.inr ⟨o, s _ _ h⟩)
  · exact .inr h
theorem Same.seqK {b : Bool} {K : PySem.W.Frag} {H H' : Hp} {a : Addr} {xs : List V} (s : Same H H') (h : SqK b K H a xs) : SqK b K H' a xs := by
  cases b with
  | true => exact s.seq h
  | false => exact Same.seqT s h
/-- t + u -/
theorem cat_any {K : PySem.W.Frag} {H : Hp} {a b : Addr} {xs ys : List V} {Q : VK} (ha : SqT K H a xs) (hb : SqT K H b ys) (hl : xs.length + ys.length ≤ sizeLine) (q : ∀ r H', Same H H' → SqT K H' r (xs ++ ys) → Q (.ref r) H') : rCatA K (.ref a) (.ref b) H Q := by
  refine ⟨a, b, xs, ys, rfl, rfl, ha, hb, hl, fun e => ?_, fun _ e => ?_, fun _ _ p np => q p _ (same_new np) (SqT.of upd_same)⟩
  · subst e
    exact q b H (Same.refl _) hb
  · subst e
    exact q a H (Same.refl _) (by rw [List.append_nil]; exact ha)
theorem cutV_whole (xs : List V) (lo hi : Option Int) (h : HT.sIx xs.length 0 lo = 0 ∧ HT.sIx xs.length xs.length hi = xs.length) : cutV xs lo hi = xs := by
  unfold cutV
  rw [h.1, h.2, List.drop_zero, Nat.sub_zero, List.take_length]
/-- t[lo:hi] -/
theorem slice_any {K : PySem.W.Frag} {H : Hp} {a : Addr} {xs : List V} {lo hi : Option Int} {Q : VK} (ha : SqT K H a xs) (q : ∀ r H', Same H H' → SqT K H' r (cutV xs lo hi) → Q (.ref r) H') : rSlA K (.ref a) lo hi H Q :=
  ⟨a, xs, rfl, ha, fun h => q a H (Same.refl _) (by rw [cutV_whole xs lo hi h]; exact ha), fun _ p np => q p _ (same_new np) (SqT.of upd_same)⟩
/-- from one on -/
theorem cut1 {xs : List V} {x : V} : cutV (x :: xs) (some 1) none = xs := by
  unfold cutV
  have e1 : HT.sIx (x :: xs).length 0 (some 1) = 1 := by
    have h := HT.sIx_nat (x :: xs).length 0 1
    rw [List.length_cons] at h ⊢
    exact h.trans (by omega)
  have e2 : HT.sIx (x :: xs).length (x :: xs).length none = xs.length + 1 := by
    rw [HT.sIx_none, List.length_cons]
  rw [e1, e2, List.drop_succ_cons, List.drop_zero, Nat.add_sub_cancel, List.take_length]
/-- a comprehension without a test, over any walk, whose items are those of R -/
theorem lc_to {J : It} {n : Nat} {G : Hp → Prop} {Y : Nat → Hp → V → Hp → Prop} (w : Walk J n G Y) {g : TG} {te : TE} {vs : List Nat} {σ : L2.St} {H1 : Hp} {D : Addr} {Qd : Hp → Prop} (R : List V) (hn : R.length = n) (hz : n < sizeLine) (nD : H1 D = none)
    (hG : ∀ H, Same H1 H → G H)
    (hs : ∀ (i : Nat) (x y : V) (H H' : Hp) (Qy : VK), R[i]? = some y → i < n → Same H1 H → Y i H x H' → (∀ H4, Same H H4 → Qy y H4) → g x (wipe σ vs) H' fun σ2 H2 => wipe σ2 vs = wipe σ vs ∧ te σ2 H2 Qy)
    (hd : ∀ H, Same H1 H → H D = some (.lst R) → Qd H) :
    ∃ W : Nat → Nat → Hp → Prop, (∃ m, W 0 m (upd H1 D (.lst []))) ∧ ∀ i m H, W i m H →
      (J.stop i H ∧ Qd H) ∨ (J.go i H ∧ ∃ Nx : Hp → Prop, (∀ H', Nx H' → ∃ m', m' < m ∧ W (i + 1) m' H') ∧ ∀ x H', J.yld i H x H' → g x (wipe σ vs) H' fun σ2 H2 => wipe σ2 vs = wipe σ vs ∧ tYes σ2 H2 fun b H3 =>
        if b = true then te σ2 H3 fun y H4 => ∃ acc, H4 D = some (.lst acc) ∧ acc.length < sizeLine ∧ Nx (upd H4 D (.lst (acc ++ [y]))) else Nx H3) := by
  refine lc_it w (tt := tYes) (fun i H => Same H1 H ∧ H D = some (.lst (R.take i))) ⟨same_new nD, by rw [upd_same]; rfl⟩ (fun i H _ p => hG H p.1) ?_ ?_
  · rintro i x H H' hi ⟨s, d⟩ y
    have hiR : i < R.length := by omega
    obtain ⟨v, hv⟩ : ∃ v, R[i]? = some v := ⟨_, List.getElem?_eq_getElem hiR⟩
    exact hs i x v H H' (fun y H4 => ∃ acc, H4 D = some (.lst acc) ∧ acc.length < sizeLine ∧ Same H1 (upd H4 D (.lst (acc ++ [y]))) ∧ upd H4 D (.lst (acc ++ [y])) D = some (.lst (R.take (i + 1)))) hv hi s y fun H4 s4 => by
      refine ⟨R.take i, s4 _ _ d, ?_, same_put (s.trans s4) nD, ?_⟩
      · rw [List.length_take]
        omega
      · rw [upd_same, List.take_add_one, hv]
        rfl
  · rintro H ⟨s, d⟩
    refine hd H s ?_
    rw [d, ← hn, List.take_length]
/-- a tuple that stands in the heap -/
def Tp (H : Hp) (a : Addr) (xs : List V) : Prop := H a = some (.tup xs)
theorem Tp.same {H H' : Hp} {a : Addr} {xs : List V} (h : Tp H a xs) (s : Same H H') : Tp H' a xs := s _ _ h
theorem Tp.t {K : PySem.W.Frag} {H : Hp} {a : Addr} {xs : List V} (h : Tp H a xs) : SqT K H a xs := SqT.of h
theorem Tp.but {m : Addr} {H H' : Hp} {a : Addr} {xs : List V} {kvs : List (Key × V)} (h : Tp H a xs) (hm : H m = some (.dK kvs)) (s : SameBut m H H') : Tp H' a xs := s _ _ (ne_of h hm (by intro z; cases z)) h
theorem cat_tp {K : PySem.W.Frag} {H : Hp} {a b : Addr} {xs ys : List V} {Q : VK} (ha : Tp H a xs) (hb : Tp H b ys) (hl : xs.length + ys.length ≤ sizeLine) (q : ∀ r H', Same H H' → Tp H' r (xs ++ ys) → Q (.ref r) H') : rCatA K (.ref a) (.ref b) H Q := by
  refine ⟨a, b, xs, ys, rfl, rfl, ha.t, hb.t, hl, fun e => ?_, fun _ e => ?_, fun _ _ p np => q p _ (same_new np) upd_same⟩
  · subst e
    exact q b H (Same.refl _) hb
  · subst e
    exact q a H (Same.refl _) (by rw [List.append_nil]; exact ha)
theorem slice_tp {K : PySem.W.Frag} {H : Hp} {a : Addr} {xs : List V} {lo hi : Option Int} {Q : VK} (ha : Tp H a xs) (q : ∀ r H', Same H H' → Tp H' r (cutV xs lo hi) → Q (.ref r) H') : rSlA K (.ref a) lo hi H Q :=
  ⟨a, xs, rfl, ha.t, fun h => q a H (Same.refl _) (by rw [cutV_whole xs lo hi h]; exact ha), fun _ p np => q p _ (same_new np) upd_same⟩
end Vk
/-! A kept exception with fields of its own. -/
namespace Vk
open PySem PySem.Spec PyProof.Rows L2
/-- a kept exception of the class C with these fields -/
def KxF (H : Hp) (a C : Addr) (fs : List (Str × V)) : Prop := ∃ dd, H a = some (ExK (.ref C) (some dd) a) ∧ H dd = some (.xd fs)
theorem KxF.same {H H' : Hp} {a C : Addr} {fs : List (Str × V)} (k : KxF H a C fs) (s : Same H H') : KxF H' a C fs := by
  obtain ⟨dd, h1, h2⟩ := k
  exact ⟨dd, s _ _ h1, s _ _ h2⟩
theorem KxF.inst {X : Cx} {pins : List (Addr × Obj)} {σ : L2.St} {H : Hp} {s : Shared} {a C : Addr} {fs : List (Str × V)} (I : Inv X pins σ H s) (k : KxF H a C fs) : ∃ (oe od : Obj) (mA : Str → Option Value), PySem.W.InstAt s.heap a oe C (some od) ∧ (∀ f, PySem.W.lookIn f od = some (mA f)) ∧ ∀ f, RelO (fs.lookup f) (mA f) := by
  obtain ⟨dd, h1, h2⟩ := k
  obtain ⟨⟨oe, g, hz, vs, hd⟩, _, _⟩ := I.hok a _ h1
  obtain ⟨mA, hns, hr⟩ := (show ObjOk X.prog X.w H s.heap dd (.xd fs) from I.hok dd _ h2)
  obtain ⟨od, ho, hl⟩ := lookIn_ns hns
  exact ⟨oe, od, mA, ⟨g, hz.1, by unfold PySem.W.notCls; rw [hd] <;> rfl, by rw [hz.2]; exact ho⟩, hl, hr⟩
/-- isinstance(e, c) -/
def rIsF (K : PySem.W.Frag) (C : Addr) : List V → Hp → VK → Prop := fun xs H Q => ∃ (a : Addr) (fs : List (Str × V)) (c : V) (cv : Value) (b : Bool), xs = [.ref a, c] ∧ KxF H a C fs ∧ ClsV c cv ∧ PySem.W.kitOne K (.ref C) cv = some b ∧ Q (.bl b) H
theorem call_isF {X : Cx} {C : Addr} (E : ExcC X.K C) : CallR X (.builtin "isinstance") (rIsF X.K C) := by
  intro pins s σ H xs us Q I r h
  obtain ⟨a, fs, c, cv, b, rfl, k, hcv, e, q⟩ := h
  obtain ⟨u1, u2, rfl, r1, r2⟩ := vals2 r
  obtain rfl : u1 = Value.ref a := r1
  obtain rfl := hcv.eq r2
  obtain ⟨oe, od, mA, J, _, _⟩ := k.inst I
  have hcl : (PySem.W.clsIn X.K C).isSome = true := by
    obtain ⟨cd, hc, _⟩ := PySem.W.any_some E.hd
    rw [hc]
    rfl
  exact PySem.W.kia_one (PySem.W.kitx_exc (od := some od) hcl E.hg E.hk E.hs E.ha E.hn E.ht E.hm) I.kIn J e (fun z => nomatch z) fun tk => ⟨.bl b, H, I.kept (t' := tk) fun _ _ z => z, rfl, q⟩
/-- e.f -/
def tKf (C : Addr) (f : Str) (te : TE) : TE := fun σ H Q => te σ H fun x H1 => ∃ (a : Addr) (fs : List (Str × V)) (v : V), x = .ref a ∧ KxF H1 a C fs ∧ fs.lookup f = some v ∧ Q v H1
theorem pe_kf {X : Cx} {C : Addr} {e : Expr} {te : TE} {pos : Pos} {n : Str} (T : XfC X.K C) (hno : PySem.W.findIn X.K (.ref C) n = some none) (he : PE X e te) (hb : attributeBase e n X.env (eval e X.env) = eval e X.env := by rfl) :
    PE X (.Attribute e n pos) (tKf C n te) := by
  refine ⟨fun pins s σ H Q I h => attr_of hb (thn (he.run pins s σ H _ I h) fun u s1 hh => ?_)⟩
  obtain ⟨x, H1, I1, rx, a, fs, v, rfl, k, l, q⟩ := hh
  obtain rfl : u = Value.ref a := rx
  obtain ⟨oe, od, mA, J, hl, hr⟩ := k.inst I1
  obtain ⟨u, hu, ru⟩ := RelO.some_of (v := v) (o := mA n) (by rw [← l]; exact hr n)
  exact HandSPX.exc_get I1.kIn J T.ga T.gg T.exC (PySem.W.findObj_own T.hdC hno rfl (by rw [hl, hu])) (handed_of ru) ⟨v, H1, I1.tok _, ru, q⟩
end Vk
namespace Vk
open PySem PySem.Spec PyProof.Rows L2
/-- a tuple once is the tuple -/
theorem once_ (l : Addr) (its : Array Value) (n : Nat) (dd : Option Addr) (sl : Array (Option Value)) (u : Tok) :
    Meets (Builtin.«tuple.__mul__» ⟨[.ref l, .int 1 u], []⟩) (fun _ R s => s.heap.get? l = some { cls := .type "tuple", dict := dd, data := .seq its n, slots := sl } ∧ R (.ok (.ret (Value.ref l))) s) :=
  .of_wp fun prog w A R s h => by
    obtain ⟨hp, gs, dr, tk, os⟩ := s
    obtain ⟨at_l, last⟩ := h
    have f1 := AutoSeq1.idx_int
    have one : (its.isEmpty || (1 : Int) == 1) = true := by
      rw [Bool.or_eq_true]
      exact Or.inr rfl
    wp_walk using wpAny_loadPart' at_l
    exact ⟨_, rfl, last⟩
/-- a tuple no times is the empty tuple -/
theorem never_ (l : Addr) (its : Array Value) (n : Nat) (dd : Option Addr) (sl : Array (Option Value)) (u : Tok) (ne : its.isEmpty = false) :
    Meets (Builtin.«tuple.__mul__» ⟨[.ref l, .int 0 u], []⟩) (fun _ R s => s.heap.get? l = some { cls := .type "tuple", dict := dd, data := .seq its n, slots := sl } ∧
      R (.ok (.ret (Value.ref s.heap.objs.size))) { s with heap := s.heap.push { cls := Value.type "tuple", data := Data.seq #[] }, toks := s.toks }) :=
  .of_wp fun prog w A R s h => by
    obtain ⟨hp, gs, dr, tk, os⟩ := s
    obtain ⟨at_l, last⟩ := h
    have f1 := AutoSeq1.idx_int
    have no : (its.isEmpty || (0 : Int) == 1) = false := by
      rw [ne]
      rfl
    wp_walk using wpAny_loadPart' at_l
    exact ⟨_, rfl, last⟩
/-- a tuple some times, be it once or never -/
def rTms (K : PySem.W.Frag) : R2 := fun x y H Q => ∃ (l : Addr) (k : Nat) (xs : List V), x = .ref l ∧ y = .int (k : Int) ∧ SqT K H l xs ∧ xs ≠ [] ∧ k ≤ 1000 ∧ xs.length ≤ 1000 ∧ (k = 1 → Q (.ref l) H) ∧ (k ≠ 1 → ∀ p, H p = none → Q (.ref p) (upd H p (.tup (List.replicate k xs).flatten)))
theorem op_tms {X : Cx} {K : PySem.W.Frag} (h : X.K = K) : OpR X (binaryOp .Mult) (rTms K) := by
  subst h
  intro pins s σ H x y v u Q I rx ry h
  obtain ⟨l, k, xs, rfl, rfl, hT, hne, hk, hx, q1, q2⟩ := h
  by_cases big : 2 ≤ k
  · refine op_repT _ _ _ _ _ _ _ _ _ I rx ry ⟨l, k, xs, rfl, rfl, hT, hne, by omega, by omega, hx, ?_⟩
    rw [Int.toNat_natCast]
    exact q2 (by omega)
  · cases rx
    obtain ⟨tk, rfl⟩ := ry
    obtain ⟨its, r, ⟨⟨cls, dd, data, sl⟩, ho, hc, n, hd⟩, hs⟩ := I.tuple hT
    simp only at hc hd
    subst hc hd
    have full : its.toArray.isEmpty = false := by
      cases its with
      | cons a b => rfl
      | nil => exact absurd (List.eq_nil_of_length_eq_zero r.length) hne
    obtain rfl | rfl : k = 0 ∨ k = 1 := by omega
    · refine wpAny_binaryOp_repeat_ref (T := "tuple") (U := "int") (by decide) ⟨_, ho, rfl⟩ (fun s' => typeIs_int s' _ tk) noFill_tuple_mul F.fills_int_mul F.slot_int_rmul repeat_tuple F.slot_int_index.lookup (call_meets F.slot_int_rmul (typeIs_int s _ tk) F.entry_int_rmul (F.args_int_rmul_2 _ _) (int_rmul_tuple _ tk l its.toArray n dd sl) ⟨ho, rfl, ⟨_, ho, rfl⟩, call_meets F.slot_tuple_mul ⟨_, ho, rfl⟩ F.entry_tuple_mul (F.args_tuple_mul_2 _ _) (never_ l its.toArray n dd sl tk full) ⟨ho, ?_⟩⟩)
      refine ⟨.ref s.heap.objs.size, _, I.laid (t' := s.toks) (o := .tup []) (fun b ob q => Heap.get?_push_of_some _ q) (Nat.le_refl _) ?_, rfl, q2 (by decide) _ (I.hok.fresh (Nat.le_refl _))⟩
      exact ⟨by decide, _, .nil, IsTup.new _ _⟩
    · exact wpAny_binaryOp_repeat_ref (T := "tuple") (U := "int") (by decide) ⟨_, ho, rfl⟩ (fun s' => typeIs_int s' _ tk) noFill_tuple_mul F.fills_int_mul F.slot_int_rmul repeat_tuple F.slot_int_index.lookup (call_meets F.slot_int_rmul (typeIs_int s _ tk) F.entry_int_rmul (F.args_int_rmul_2 _ _) (int_rmul_tuple _ tk l its.toArray n dd sl) ⟨ho, rfl, ⟨_, ho, rfl⟩, call_meets F.slot_tuple_mul ⟨_, ho, rfl⟩ F.entry_tuple_mul (F.args_tuple_mul_2 _ _) (once_ l its.toArray n dd sl tk) ⟨ho, ⟨.ref l, _, I, rfl, q1 rfl⟩⟩⟩)
end Vk
/-! What nearly every law of the table wants: the state of the draws, rows of numbers, short data. -/
namespace Vk
open PySem PySem.Spec PyProof.Rows L2
def mkv (L sd : Int) (c : Addr) (sp : Int) : List (Key × V) := [(.inr "left", .int L), (.inr "seed", .int sd), (.inr "cells", .ref c), (.inr "spot", .int sp)]
theorem val_left {L sd sp : Int} {c : Addr} : valV (mkv L sd c sp) (.inr "left") = some (.int L) := by rfl
theorem val_seed {L sd sp : Int} {c : Addr} : valV (mkv L sd c sp) (.inr "seed") = some (.int sd) := by rfl
theorem val_cells {L sd sp : Int} {c : Addr} : valV (mkv L sd c sp) (.inr "cells") = some (.ref c) := by rfl
theorem val_spot {L sd sp : Int} {c : Addr} : valV (mkv L sd c sp) (.inr "spot") = some (.int sp) := by rfl
theorem put_left {L sd sp i : Int} {c : Addr} : putK (mkv L sd c sp) (.inr "left") (.int i) = mkv i sd c sp := by rfl
theorem put_spot {L sd sp i : Int} {c : Addr} : putK (mkv L sd c sp) (.inr "spot") (.int i) = mkv L sd c i := by rfl
theorem get_m {H : Hp} {m : Addr} {kvs : List (Key × V)} {x : Str} {v : V} (hm : H m = some (.dK kvs)) (h : valV kvs (.inr x) = some v) : DGet H m (.str x) (some v) := by
  have q := DGet.k (k := Sum.inr x) hm
  rw [h] at q
  exact q
theorem put_m {H : Hp} {m : Addr} {L sd sp : Int} {c : Addr} {kvs : List (Key × V)} {x : Str} {v : V} (hm : H m = some (.dK (mkv L sd c sp))) (h : putK (mkv L sd c sp) (.inr x) v = kvs) : DPut H m (.str x) v (upd H m (.dK kvs)) := by
  have q := DPut.k (k := Sum.inr x) (v := v) hm (small1000 (show 4 ≤ 1000 by decide))
  rw [h] at q
  exact q
/-- the state of the draws stands at m; at most n draws were made -/
def MOk (H : Hp) (m c : Addr) (n : Nat) : Prop := ∃ (L sd sp : Int) (cells : List Int), H m = some (.dK (mkv L sd c sp)) ∧ H c = some (.lst (cells.map V.int)) ∧ 0 < cells.length ∧ 0 ≤ sp ∧ sp ≤ n
theorem MOk.but {H H' : Hp} {m c q : Addr} {n : Nat} (h : MOk H m c n) (hq : q ≠ m) (hl : ∀ xs, H q ≠ some (.lst xs)) (s : SameBut q H H') : MOk H' m c n := by
  obtain ⟨L, sd, sp, cells, h1, h2, h3⟩ := h
  refine ⟨L, sd, sp, cells, s _ _ (Ne.symm hq) h1, s _ _ (fun z => hl _ (by rw [← z]; exact h2)) h2, h3⟩
theorem MOk.same {H H' : Hp} {m c : Addr} {n : Nat} (h : MOk H m c n) (s : Same H H') : MOk H' m c n := by
  obtain ⟨L, sd, sp, cells, h1, h2, h3⟩ := h
  exact ⟨L, sd, sp, cells, s _ _ h1, s _ _ h2, h3⟩
def spDraw : Sp := fun vs H Q _ => ∃ (m c : Addr) (n : Nat) (b : Int), vs = [.ref m, .int b] ∧ MOk H m c n ∧ n ≤ 100000 ∧ 0 < b ∧ b.natAbs < 2 ^ 200 ∧
  ∀ H' v, SameBut m H H' → MOk H' m c (n + 1) → 0 ≤ v → v < b → Q (.int v) H'
def spBegun (K : PySem.W.Frag) : Sp := fun vs H Q _ => ∃ (a : Addr) (k : Int) (ns : List Int), vs = [.ref a, .int k] ∧ SqL K H a (ns.map V.int) ∧ ns.length ≤ 63 ∧ 0 ≤ k ∧ k ≤ 100 ∧
  ∀ H' p r, Same H H' → H p = none → MOk H' p r 0 → Q (.ref p) H'
/-- |a| < 2 ^ n -/
def SmZ (n : Nat) (a : Int) : Prop := a.natAbs < 2 ^ n
def dot (xs ys : List Int) : Int := (List.zipWith (· * ·) xs ys).sum
/-- rows of few and small numbers -/
def Row (H : Hp) (a : Addr) (xs : List Int) : Prop := Tp H a (xs.map V.int) ∧ xs.length ≤ 100 ∧ ∀ x ∈ xs, SmZ 300 x
theorem Row.same {H H' : Hp} {a : Addr} {xs : List Int} (h : Row H a xs) (s : Same H H') : Row H' a xs := ⟨h.1.same s, h.2⟩
theorem small {n : Nat} (h : n ≤ 100) : n < sizeLine := Nat.lt_of_le_of_lt h (by decide)
theorem zipW_get {α : Type} {f : Int → Int → α} {xs ys : List Int} {i : Nat} {y : α} (h : (List.zipWith f xs ys)[i]? = some y) : ∃ a b, xs[i]? = some a ∧ ys[i]? = some b ∧ y = f a b := by
  rw [List.getElem?_zipWith] at h
  cases h1 : xs[i]? with
  | none => rw [h1] at h; cases h
  | some a =>
    cases h2 : ys[i]? with
    | none => rw [h1, h2] at h; cases h
    | some b => rw [h1, h2] at h; exact ⟨a, b, rfl, rfl, (Option.some.inj h).symm⟩
theorem map_get {α β : Type} {f : α → β} {xs : List α} {i : Nat} {y : β} (h : (xs.map f)[i]? = some y) : ∃ a, xs[i]? = some a ∧ y = f a := by
  rw [List.getElem?_map] at h
  cases h1 : xs[i]? with
  | none => rw [h1] at h; cases h
  | some a => rw [h1] at h; exact ⟨a, rfl, (Option.some.inj h).symm⟩
theorem wide {a b : Int} (h1 : SmZ 300 a) (h2 : SmZ 300 b) : a.natAbs.log2 + b.natAbs.log2 < 700 := by
  have := PySem.Flt.log2_lt_of (by decide) h1
  have := PySem.Flt.log2_lt_of (by decide) h2
  omega
/-- several rows of n numbers -/
def Rws (H : Hp) (ps : List Addr) (rows : List (List Int)) (n : Nat) : Prop := ps.length = rows.length ∧ ∀ (i : Nat) (p : Addr) (r : List Int), ps[i]? = some p → rows[i]? = some r → Row H p r ∧ r.length = n
theorem Rws.same {H H' : Hp} {ps : List Addr} {rows : List (List Int)} {n : Nat} (h : Rws H ps rows n) (s : Same H H') : Rws H' ps rows n := ⟨h.1, fun i p r h1 h2 => ⟨(h.2 i p r h1 h2).1.same s, (h.2 i p r h1 h2).2⟩⟩
theorem ix_tupK {X : Cx} {K : PySem.W.Frag} (h : X.K = K) : IxR X (rIxT K) := by
  subst h
  exact ix_tup
theorem atI_at {xs : List V} {j : Int} {i : Nat} {v : V} (e : j = ((i : Nat) : Int)) (h : xs[i]? = some v) : atI xs j = some v := by
  rw [e]
  exact atI_nat h
theorem get_map {α β : Type} {f : α → β} {xs : List α} {i : Nat} {x : α} (h : xs[i]? = some x) : (xs.map f)[i]? = some (f x) := by
  rw [List.getElem?_map, h]
  rfl
theorem Row.but {m a : Addr} {H H' : Hp} {xs : List Int} {kvs : List (Key × V)} (h : Row H a xs) (hm : H m = some (.dK kvs)) (s : SameBut m H H') : Row H' a xs := ⟨h.1.but hm s, h.2⟩
theorem Rws.but {m : Addr} {H H' : Hp} {ps : List Addr} {rows : List (List Int)} {n : Nat} {kvs : List (Key × V)} (h : Rws H ps rows n) (hm : H m = some (.dK kvs)) (s : SameBut m H H') : Rws H' ps rows n :=
  ⟨h.1, fun i p r h1 h2 => ⟨(h.2 i p r h1 h2).1.but hm s, (h.2 i p r h1 h2).2⟩⟩
theorem sb_put {m D : Addr} {H1 H4 : Hp} {o : HO} (nD : H1 D = none) (s : SameBut m H1 H4) : SameBut m H1 (upd H4 D o) := fun b u hb e => by
  rw [upd_ne (ne_of_none e nD)]
  exact s _ _ hb e
theorem MOk.m_some {H : Hp} {m c : Addr} {n : Nat} (h : MOk H m c n) : ∃ kvs, H m = some (.dK kvs) := by
  obtain ⟨L, sd, sp, cells, h1, _⟩ := h
  exact ⟨_, h1⟩
theorem MOk.c_some {H : Hp} {m c : Addr} {n : Nat} (h : MOk H m c n) : ∃ xs, H c = some (.lst xs) := by
  obtain ⟨L, sd, sp, cells, _, h2, _⟩ := h
  exact ⟨_, h2⟩
theorem MOk.mono {H : Hp} {m c : Addr} {n n' : Nat} (h : MOk H m c n) (l : n ≤ n') : MOk H m c n' := by
  obtain ⟨L, sd, sp, cells, h1, h2, h3, h4, h5⟩ := h
  exact ⟨L, sd, sp, cells, h1, h2, h3, h4, by omega⟩
theorem MOk.put {H : Hp} {m c D : Addr} {n : Nat} {o : HO} (h : MOk H m c n) (dm : D ≠ m) (dc : D ≠ c) : MOk (upd H D o) m c n := by
  obtain ⟨L, sd, sp, cells, h1, h2, h3, h4, h5⟩ := h
  exact ⟨L, sd, sp, cells, by rw [upd_ne (Ne.symm dm)]; exact h1, by rw [upd_ne (Ne.symm dc)]; exact h2, h3, h4, h5⟩
theorem smz_of {a b : Int} {n : Nat} (h0 : -b ≤ a) (h1 : a ≤ b) (hb : b.natAbs < 2 ^ n) : SmZ n a := by
  unfold SmZ
  have : a.natAbs ≤ b.natAbs := by omega
  omega
theorem smz_mono {a : Int} {n m : Nat} (h : SmZ n a) (l : n ≤ m) : SmZ m a := Nat.lt_of_lt_of_le h (Nat.pow_le_pow_right (by decide) l)
theorem smz_mul {a b : Int} {n m : Nat} (h1 : SmZ n a) (h2 : SmZ m b) : SmZ (n + m) (a * b) := by
  unfold SmZ at *
  rw [Int.natAbs_mul, Nat.pow_add]
  exact Nat.mul_lt_mul'' h1 h2
theorem ix_listK {X : Cx} {K : PySem.W.Frag} (h : X.K = K) : IxR X (rIxL K) := by
  subst h
  exact ix_list
theorem getD_at {xs : List Int} {i : Nat} (hi : i < xs.length) : xs[i]? = some (xs.getD i 0) := by
  rw [List.getD_eq_getElem?_getD, List.getElem?_eq_getElem hi]
  rfl
/-- a run over any walk, whatever a turn's form -/
theorem walk_run {J : It} {n : Nat} {G : Hp → Prop} {Y : Nat → Hp → V → Hp → Prop} (w : Walk J n G Y) (B : (Hp → Prop) → V → Hp → Prop) (Pv : Nat → Hp → Prop) {H0 : Hp} {Z : Hp → Prop} (h0 : Pv 0 H0) (hG : ∀ i H, i ≤ n → Pv i H → G H)
    (hs : ∀ i x H H', i < n → Pv i H → Y i H x H' → B (Pv (i + 1)) x H') (hd : ∀ H, Pv n H → Z H) :
    ∃ W : Nat → Nat → Hp → Prop, (∃ m, W 0 m H0) ∧ ∀ i m H, W i m H → (J.stop i H ∧ Z H) ∨ (J.go i H ∧ ∃ Nx : Hp → Prop, (∀ H', Nx H' → ∃ m', m' < m ∧ W (i + 1) m' H') ∧ ∀ x H', J.yld i H x H' → B Nx x H') := by
  refine ⟨fun i m H => m = n - i ∧ i ≤ n ∧ Pv i H, ⟨n - 0, rfl, Nat.zero_le _, h0⟩, ?_⟩
  rintro i m H ⟨rfl, hi, p⟩
  by_cases lt : i < n
  · exact .inr ⟨w.goes i H lt (hG i H hi p), Pv (i + 1), fun H' p' => ⟨n - (i + 1), by omega, rfl, lt, p'⟩, fun x H' y => hs i x H H' lt p (w.yields i H x H' lt (hG i H hi p) y)⟩
  · obtain rfl : i = n := by omega
    exact .inl ⟨w.stops H (hG _ H hi p), hd H p⟩
/-- several tuples of numbers -/
def Rw (H : Hp) (ps : List Addr) (ss : List (List Int)) : Prop := ps.length = ss.length ∧ ∀ (i : Nat) (p : Addr) (r : List Int), ps[i]? = some p → ss[i]? = some r → Tp H p (r.map V.int)
theorem Rw.same {H H' : Hp} {ps : List Addr} {ss : List (List Int)} (h : Rw H ps ss) (s : Same H H') : Rw H' ps ss := ⟨h.1, fun i p r h1 h2 => (h.2 i p r h1 h2).same s⟩
theorem Rw.snoc {H : Hp} {ps : List Addr} {ss : List (List Int)} {p : Addr} {r : List Int} (h : Rw H ps ss) (hp : Tp H p (r.map V.int)) : Rw H (ps ++ [p]) (ss ++ [r]) := by
  refine ⟨by rw [List.length_append, List.length_append, h.1]; rfl, fun j a z h1 h2 => ?_⟩
  by_cases hj : j < ps.length
  · rw [List.getElem?_append_left hj] at h1
    rw [List.getElem?_append_left (by rw [← h.1]; exact hj)] at h2
    exact h.2 j a z h1 h2
  · rw [List.getElem?_append_right (by omega)] at h1
    rw [List.getElem?_append_right (by rw [← h.1]; omega)] at h2
    have j0 : j - ps.length = 0 := by
      have := (List.getElem?_eq_some_iff.mp h1).1
      simp only [List.length_cons, List.length_nil] at this
      omega
    rw [j0] at h1
    rw [← h.1, j0] at h2
    obtain rfl : p = a := Option.some.inj h1
    obtain rfl : r = z := Option.some.inj h2
    exact hp
theorem eqv_rows (xs ys : List Int) : PyData.eqv (.tuple (xs.map PyData.int)) (.tuple (ys.map PyData.int)) = decide (xs = ys) := by
  rw [show PyData.eqv (.tuple (xs.map PyData.int)) (.tuple (ys.map PyData.int)) = PyData.eqvAll (xs.map PyData.int) (ys.map PyData.int) by simp only [PyData.eqv]]
  exact PySem.W.ked_eqvAll xs ys
theorem shaped_row (ns : List Int) : SeqAt.shaped (.tuple (ns.map PyData.int)) = true := by
  obtain ⟨h1, h2⟩ := lay_ints ns
  simp [SeqAt.shaped, PyData.canLay0, PyData.depth, h1, h2]
theorem pa_starK {X : Cx} {K : PySem.W.Frag} {e : Expr} {es : List Expr} {te : TE} {t : TA} {p : Pos} (h : X.K = K) (he : PE X e te) (hr : PA X es t) (hs : starEach (.Starred e p :: es) X.env = (true, eval e X.env) :: starEach es X.env := by rfl) : PA X (.Starred e p :: es) (StX.tStar K te t) := by
  subst h
  exact StX.pa_star he hr hs
theorem op_neDK {X : Cx} {K : PySem.W.Frag} (h : X.K = K) (hu : X.A.units + 64 < cLine) : OpR X (compareOp .NotEq) (rNeD K) := by
  subst h
  exact op_neD hu
theorem big {n : Nat} (h : n ≤ 40000) : n < sizeLine := Nat.lt_of_le_of_lt h (by decide)
theorem tp_put {H : Hp} {p D : Addr} {xs l : List V} {o : HO} (h : Tp H p xs) (d : H D = some (.lst l)) : Tp (upd H D o) p xs := by
  have ne : p ≠ D := by
    rintro rfl
    have h : H p = some (.tup xs) := h
    rw [h] at d
    cases d
  show upd H D o p = some (.tup xs)
  rw [upd_ne ne]
  exact h
theorem Rw.put {H : Hp} {D : Addr} {l : List V} {o : HO} {ps : List Addr} {ss : List (List Int)} (h : Rw H ps ss) (d : H D = some (.lst l)) : Rw (upd H D o) ps ss := ⟨h.1, fun i p r h1 h2 => tp_put (h.2 i p r h1 h2) d⟩
theorem op_tmsK {X : Cx} {K : PySem.W.Frag} (h : X.K = K) : OpR X (binaryOp .Mult) (rTms K) := op_tms h
theorem tms_tp {K : PySem.W.Frag} {H : Hp} {a : Addr} {xs : List V} {k : Nat} {z : Int} {Q : VK} (ez : z = ((k : Nat) : Int)) (ha : Tp H a xs) (ne : xs ≠ []) (hk : k ≤ 1000) (hx : xs.length ≤ 1000) (q : ∀ r H', Same H H' → Tp H' r (List.replicate k xs).flatten → Q (.ref r) H') : rTms K (.ref a) (.int z) H Q := by
  subst ez
  refine ⟨a, k, xs, rfl, rfl, ha.t, ne, hk, hx, fun e => ?_, fun _ p np => q p _ (same_new np) upd_same⟩
  subst e
  refine q a H (Same.refl _) ?_
  rw [List.replicate_one, List.flatten_singleton]
  exact ha
def spSigned : Sp := fun vs H Q _ => ∃ (m c : Addr) (q : Nat) (b : Int), vs = [.ref m, .int b] ∧ MOk H m c q ∧ q ≤ 50000 ∧ 0 ≤ b ∧ b ≤ 1000 ∧ ∀ H' v, SameBut m H H' → MOk H' m c (q + 2) → -b ≤ v → v ≤ b → Q (.int v) H'
/-- two values of the same data -/
def spLike (K : PySem.W.Frag) : Sp := fun vs H Q _ => ∃ x y d, vs = [x, y] ∧ Dp K H x d ∧ Dp K H y d ∧ Fit d ∧ Q (.bl true) H
theorem iteF' {c : Bool} {A B : Prop} (hc : c = false) (h : B) : if c = true then A else B := by
  subst hc
  exact iteF h
theorem dot_abs (A M : Nat) : ∀ (xs ys : List Int), (∀ x ∈ xs, x.natAbs ≤ A) → (∀ y ∈ ys, y.natAbs ≤ M) → (dot xs ys).natAbs ≤ ys.length * (A * M)
  | [], _, _, _ => by
    show (0 : Int).natAbs ≤ _
    exact Nat.zero_le _
  | x :: xs, [], _, _ => by
    show (0 : Int).natAbs ≤ _
    exact Nat.zero_le _
  | x :: xs, y :: ys, hx, hy => by
    have ih := dot_abs A M xs ys (fun a h => hx a (List.mem_cons_of_mem _ h)) (fun a h => hy a (List.mem_cons_of_mem _ h))
    have e : dot (x :: xs) (y :: ys) = x * y + dot xs ys := by
      unfold dot
      rw [List.zipWith_cons_cons, List.sum_cons]
    rw [e, List.length_cons, Nat.succ_mul]
    have h1 : (x * y).natAbs ≤ A * M := by
      rw [Int.natAbs_mul]
      exact Nat.mul_le_mul (hx x (List.mem_cons_self ..)) (hy y (List.mem_cons_self ..))
    have h2 := Int.natAbs_add_le (x * y) (dot xs ys)
    omega
theorem fdiv_abs {a d : Int} (hd : 0 < d) : (a.fdiv d).natAbs ≤ a.natAbs := by
  rw [Int.fdiv_eq_ediv_of_nonneg _ (Int.le_of_lt hd)]
  exact Int.natAbs_ediv_le_natAbs a d
theorem fit_all {k a : Nat} : ∀ (L : Nat) (ds : List PyData), (∀ d ∈ ds, FitN k a d) → ds.length ≤ L → FitLN k ((a + 1) * L) ds
  | _, [], _, _ => .nil
  | 0, d :: ds, _, h => by cases h
  | L + 1, d :: ds, hd, h => by
    refine .cons (hd d (List.mem_cons_self ..)) (fit_all L ds (fun x hx => hd x (List.mem_cons_of_mem _ hx)) (by rw [List.length_cons] at h; omega)) ?_
    rw [Nat.mul_succ]
    omega
theorem fit_ints {k : Nat} (L : Nat) (xs : List Int) (h : ∀ x ∈ xs, SmZ 300 x) (hl : xs.length ≤ L) : FitN (k + 1) L (.tuple (xs.map PyData.int)) := by
  have q := fit_all (k := k) (a := 0) L (xs.map PyData.int) (fun d hd => by
    obtain ⟨x, hx, rfl⟩ := List.mem_map.mp hd
    exact FitN.int (Nat.lt_of_lt_of_le (h x hx) (Nat.pow_le_pow_right (by decide) (by decide)))) (by rw [List.length_map]; exact hl)
  rw [Nat.zero_add, Nat.one_mul] at q
  exact .tup q
/-- the data of a row, of a table, of a grid -/
def dRow (r : List Int) : PyData := .tuple (r.map PyData.int)
theorem dp_row {K : PySem.W.Frag} {H : Hp} {p : Addr} {r : List Int} (h : Tp H p (r.map V.int)) : Dp K H (.ref p) (dRow r) := .tup h.t (dp_ints r)
theorem dp_all {K : PySem.W.Frag} {H : Hp} : ∀ (qs : List Addr) (ds : List PyData), qs.length = ds.length → (∀ (i : Nat) (q : Addr) (d : PyData), qs[i]? = some q → ds[i]? = some d → Dp K H (.ref q) d) → DpAll K H (qs.map V.ref) ds
  | [], [], _, _ => .nil
  | [], _ :: _, h, _ => by cases h
  | _ :: _, [], h, _ => by cases h
  | q :: qs, d :: ds, h, k => .cons (k 0 q d rfl rfl) (dp_all qs ds (Nat.succ.inj h) fun i a b h1 h2 => k (i + 1) a b h1 h2)
instance (n : Nat) (a : Int) : Decidable (SmZ n a) := Nat.decLt _ _
theorem MOk.ext {H H' : Hp} {m r : Addr} {n : Nat} (h : MOk H m r n) (e : LamX.ExtN H H') : MOk H' m r n := by
  obtain ⟨L, sd, sp, cells, h1, h2, h3⟩ := h
  exact ⟨L, sd, sp, cells, e _ _ h1 (fun ps z => by cases z), e _ _ h2 (fun ps z => by cases z), h3⟩
theorem sql_ext {K : PySem.W.Frag} {H H' : Hp} {a : Addr} {xs : List V} (h : SqL K H a xs) (e : LamX.ExtN H H') : SqL K H' a xs := by
  rcases h with (h | ⟨o, h⟩) | h
  · exact .inl (.inl (e _ _ h fun ps z => by cases z))
  · exact .inl (.inr ⟨o, e _ _ h fun ps z => by cases z⟩)
  · exact .inr h
theorem ext_but {H H1 H2 : Hp} {m : Addr} (hm : H m = none) (a : LamX.ExtN H H1) (b : SameBut m H1 H2) : LamX.ExtN H H2 := fun c o h n => b c o (ne_of_none h hm) (a c o h n)
theorem tabs_but {T : List (Addr × Str)} {H H' : Hp} {m : Addr} {kvs : List (Key × V)} (hT : LamX.Tabs T H) (hm : H m = some (.dK kvs)) (s : SameBut m H H') : LamX.Tabs T H' := fun p hp => by
  obtain ⟨ps, h1, h2, h3⟩ := hT p hp
  refine ⟨ps, s _ _ (ne_of h1 hm (by intro z; cases z)) h1, h2, fun pos cv hc => ?_⟩
  obtain ⟨c, e1, e2⟩ := h3 pos cv hc
  exact ⟨c, e1, s _ _ (ne_of e2 hm (by intro z; unfold LamX.CodeO at z; cases z)) e2⟩
theorem ext_same {H H1 H2 : Hp} (a : LamX.ExtN H H1) (b : Same H1 H2) : LamX.ExtN H H2 := a.trans (LamX.ExtN.of b)
theorem Tp.ext {H H' : Hp} {a : Addr} {xs : List V} (h : Tp H a xs) (e : LamX.ExtN H H') : Tp H' a xs := e _ _ h fun ps z => by cases z
theorem cons_ {te : TE} {t : TA} {σ : L2.St} {H : Hp} {R : List V → Hp → Prop} (h : te σ H fun x H1 => t σ H1 fun xs H2 => R (x :: xs) H2) : tCons te t σ H R := h
def tInts : List Int → TA
  | [] => tNil
  | x :: r => tCons (tC (.int x)) (tInts r)
def tRows : List (List Int) → TA
  | [] => tNil
  | x :: r => tCons (tTup (tInts x)) (tRows r)
theorem ints_ {σ : L2.St} {H : Hp} : ∀ (xs : List Int) {R : List V → Hp → Prop}, R (xs.map V.int) H → tInts xs σ H R
  | [], _, h => h
  | x :: r, R, h => ints_ r (R := fun vs H' => R (.int x :: vs) H') h
theorem row_ {σ : L2.St} {H : Hp} (xs : List Int) (hl : xs.length ≤ 100) {Q : VK} (h : ∀ p H', Same H H' → Tp H' p (xs.map V.int) → Q (.ref p) H') : tTup (tInts xs) σ H Q :=
  ints_ xs ⟨by rw [List.length_map]; exact Nat.le_of_lt (small hl), fun p np => h p _ (same_new np) upd_same⟩
theorem rows_ {n : Nat} {σ : L2.St} : ∀ (rs : List (List Int)) {H : Hp} {R : List V → Hp → Prop}, (∀ r ∈ rs, r.length = n ∧ n ≤ 100 ∧ ∀ x ∈ r, SmZ 300 x) → (∀ ps H', Same H H' → Rws H' ps rs n → R (ps.map V.ref) H') → tRows rs σ H R
  | [], H, R, _, h => h [] H (Same.refl _) ⟨rfl, fun i p r e _ => by cases e⟩
  | x :: rs, H, R, hx, h => by
    obtain ⟨l, ln, z⟩ := hx x (List.mem_cons_self ..)
    show tTup (tInts x) σ H fun v H1 => tRows rs σ H1 fun xs H2 => R (v :: xs) H2
    refine row_ x (by omega) fun p H1 s1 g1 => ?_
    refine rows_ rs (fun r hr => hx r (List.mem_cons_of_mem _ hr)) fun ps H2 s2 w2 => ?_
    refine h (p :: ps) H2 (s1.trans s2) ⟨by rw [List.length_cons, List.length_cons, w2.1], fun i q r e1 e2 => ?_⟩
    cases i with
    | zero =>
      obtain rfl : p = q := Option.some.inj e1
      obtain rfl : x = r := Option.some.inj e2
      exact ⟨⟨g1.same s2, by omega, z⟩, l⟩
    | succ i => exact w2.2 i q r e1 e2
theorem smz_le {x b : Int} (h0 : 0 ≤ x) (h1 : x ≤ b) (hb : b.natAbs < 2 ^ 300) : SmZ 300 x := smz_of (b := b) (by omega) h1 hb
def spOf : Sp := fun vs H Q _ => ∃ (m c L : Addr) (n : Nat) (xs : List V), vs = [.ref m, .ref L] ∧ MOk H m c n ∧ n ≤ 100000 ∧ H L = some (.lst xs) ∧ 0 < xs.length ∧ xs.length ≤ 100 ∧ ∀ H' v, SameBut m H H' → MOk H' m c (n + 1) → v ∈ xs → Q v H'
theorem Row.tail {H : Hp} {a : Addr} {x : Int} {xs : List Int} (h : Row H a (x :: xs)) : xs.length ≤ 100 ∧ ∀ y ∈ xs, SmZ 300 y := ⟨Nat.le_trans (Nat.le_succ _) h.2.1, fun y hy => h.2.2 y (List.mem_cons_of_mem _ hy)⟩
theorem smz_log {a : Int} {n : Nat} (hn : 0 < n) (h : SmZ n a) : a.natAbs.log2 < n := PySem.Flt.log2_lt_of hn h
def spIsn : Sp := fun vs H Q _ => ∃ x t, vs = [x] ∧ Oky H x t ∧ Q (.bl (isInt x)) H
def tupOk (n : Nat) (xs : List V) : Bool := decide (xs.length = n) && xs.all isInt
/-- a value of any kind is judged: an entry of a tuple, too -/
def spAren : Sp := fun vs H Q _ => ∃ (x : V) (n : Nat), vs = [x, .int n] ∧ ((∃ t, Oky H x t ∧ t ≠ "tuple" ∧ Q (.bl false) H) ∨ ∃ a xs, x = .ref a ∧ Tp H a xs ∧ xs.length ≤ 100 ∧ (∀ e ∈ xs, ∃ t, Oky H e t) ∧ ∀ H', Same H H' → Q (.bl (tupOk n xs)) H')
def spPsum : Sp := fun vs H Q _ => ∃ (a b : Addr) (xs ys : List Int), vs = [.ref a, .ref b] ∧ Row H a xs ∧ Row H b ys ∧ xs.length = ys.length ∧ ∀ H', Same H H' → Q (.int (dot xs ys)) H'
def spFval : Sp := fun vs H Q _ => ∃ (a b : Addr) (c : Int) (xs ys : List Int), vs = [.ref a, .ref b] ∧ Row H a (c :: xs) ∧ Row H b ys ∧ xs.length = ys.length ∧ ∀ H', Same H H' → Q (.int (c + dot xs ys)) H'
def spFsum : Sp := fun vs H Q _ => ∃ (a b : Addr) (xs ys : List Int), vs = [.ref a, .ref b] ∧ Row H a xs ∧ Row H b ys ∧ xs.length = ys.length ∧ ∀ r H', Same H H' → Tp H' r ((List.zipWith (· + ·) xs ys).map V.int) → Q (.ref r) H'
def spFtimes : Sp := fun vs H Q _ => ∃ (a : Addr) (n : Int) (xs : List Int), vs = [.ref a, .int n] ∧ Row H a xs ∧ SmZ 300 n ∧ ∀ r H', Same H H' → Tp H' r ((xs.map (n * ·)).map V.int) → Q (.ref r) H'
def spGcd : Sp := fun vs H Q _ => ∃ a c : Int, vs = [.int a, .int c] ∧ Q (.int (Int.gcd a c)) H
def sg (n : Int) : Int := (if 0 < n then 1 else 0) - (if n < 0 then 1 else 0)
def spSign : Sp := fun vs H Q _ => ∃ n : Int, vs = [.int n] ∧ Q (.int (sg n)) H
/-- a value of some kind, not the drawn dict -/
def Ky (m : Addr) (H : Hp) (x : V) : Prop := x ≠ .ref m ∧ ∃ t, Oky H x t
/-- a value that is judged -/
def Kn (m : Addr) (H : Hp) (x : V) : Prop := x ≠ .ref m ∧ ((∃ t, Oky H x t ∧ t ≠ "tuple") ∨ ∃ a xs, x = .ref a ∧ Tp H a xs ∧ xs.length ≤ 100 ∧ ∀ e ∈ xs, Ky m H e)
theorem Ky.but {m : Addr} {H H' : Hp} {x : V} (h : Ky m H x) (s : SameBut m H H') : Ky m H' x := by
  obtain ⟨n, t, h⟩ := h
  refine ⟨n, t, ?_⟩
  cases h with
  | non => exact .non
  | bl b => exact .bl b
  | int i => exact .int i
  | str x => exact .str x
  | lst e => exact .lst (s _ _ (fun z => n (by rw [z])) e)
  | tup e => exact .tup (s _ _ (fun z => n (by rw [z])) e)
  | dK e => exact .dK (s _ _ (fun z => n (by rw [z])) e)
theorem Kn.but {m : Addr} {H H' : Hp} {x : V} (h : Kn m H x) (s : SameBut m H H') : Kn m H' x := by
  obtain ⟨n, ⟨t, h, ht⟩ | ⟨a, xs, rfl, ha, hl, hes⟩⟩ := h
  · refine ⟨n, .inl ⟨t, ?_, ht⟩⟩
    cases h with
    | non => exact .non
    | bl b => exact .bl b
    | int i => exact .int i
    | str x => exact .str x
    | lst e => exact .lst (s _ _ (fun z => n (by rw [z])) e)
    | tup e => exact absurd rfl ht
    | dK e => exact .dK (s _ _ (fun z => n (by rw [z])) e)
  · exact ⟨n, .inr ⟨a, xs, rfl, s _ _ (fun z => n (by rw [z])) ha, hl, fun e he => (hes e he).but s⟩⟩
theorem Ky.int {m : Addr} {H : Hp} (i : Int) : Ky m H (.int i) := ⟨(fun z => by cases z), _, .int i⟩
theorem ky_row {m : Addr} {H : Hp} {xs : List Int} : ∀ e ∈ xs.map V.int, Ky m H e := fun e he => by
  obtain ⟨i, _, rfl⟩ := List.mem_map.mp he
  exact Ky.int i
theorem Kn.tp {m a : Addr} {H : Hp} {xs : List V} (hm : ∃ kvs, H m = some (.dK kvs)) (ha : Tp H a xs) (hl : xs.length ≤ 100) (h : ∀ e ∈ xs, Ky m H e) : Kn m H (.ref a) := by
  obtain ⟨kvs, hm⟩ := hm
  exact ⟨fun z => ne_of ha hm (by intro w; cases w) (V.ref.inj z), .inr ⟨a, xs, rfl, ha, hl, h⟩⟩
theorem Kn.lst {m a : Addr} {H : Hp} {xs : List V} (hm : ∃ kvs, H m = some (.dK kvs)) (ha : H a = some (.lst xs)) : Kn m H (.ref a) := by
  obtain ⟨kvs, hm⟩ := hm
  exact ⟨fun z => ne_of ha hm (by intro w; cases w) (V.ref.inj z), .inl ⟨_, .lst ha, by decide⟩⟩
theorem Ky.tp {m a : Addr} {H : Hp} {xs : List V} (hm : ∃ kvs, H m = some (.dK kvs)) (ha : Tp H a xs) : Ky m H (.ref a) := by
  obtain ⟨kvs, hm⟩ := hm
  exact ⟨fun z => ne_of ha hm (by intro w; cases w) (V.ref.inj z), _, .tup ha⟩
theorem Ky.lst {m a : Addr} {H : Hp} {xs : List V} (hm : ∃ kvs, H m = some (.dK kvs)) (ha : H a = some (.lst xs)) : Ky m H (.ref a) := by
  obtain ⟨kvs, hm⟩ := hm
  exact ⟨fun z => ne_of ha hm (by intro w; cases w) (V.ref.inj z), _, .lst ha⟩
theorem cut_mem {xs : List V} {lo hi : Option Int} {e : V} (h : e ∈ cutV xs lo hi) : e ∈ xs := by
  unfold cutV at h
  exact List.mem_of_mem_drop (List.mem_of_mem_take h)
theorem cut_len {xs : List V} {lo hi : Option Int} : (cutV xs lo hi).length ≤ xs.length := by
  unfold cutV
  rw [List.length_take, List.length_drop]
  omega
theorem sm_but {m : Addr} {H0 H H' : Hp} (nm : H0 m = none) (s : Same H0 H) (b : SameBut m H H') : Same H0 H' := fun a o e => b a o (ne_of_none e nm) (s a o e)
theorem sql_same {K : PySem.W.Frag} {H H' : Hp} {a : Addr} {xs : List V} (h : SqL K H a xs) (s : Same H H') : SqL K H' a xs := s.seq h
theorem nat_of {v : Int} (h : 0 ≤ v) : ∃ n : Nat, v = n := ⟨v.toNat, by omega⟩
/-- a comprehension of drawn numbers, w draws for each -/
theorem lc_dr {n w : Nat} {g : TG} {te : TE} {vs : List Nat} {σ : L2.St} {H1 : Hp} {D : Addr} {Qd : Hp → Prop} {m c : Addr} {q : Nat} (R : Nat → Int → Prop) (hz : n < sizeLine) (hM : MOk H1 m c q) (nD : H1 D = none)
    (hs : ∀ (i : Nat) (H : Hp) (Qy : VK), i < n → SameBut m H1 H → MOk H m c (q + w * i) → (∀ H4 v, SameBut m H H4 → MOk H4 m c (q + w * i + w) → R i v → Qy (.int v) H4) → g (.int (0 + i)) (wipe σ vs) H fun σ2 H2 => wipe σ2 vs = wipe σ vs ∧ te σ2 H2 Qy)
    (hd : ∀ H (xs : List Int), SameBut m H1 H → MOk H m c (q + w * n) → H D = some (.lst (xs.map V.int)) → xs.length = n → (∀ (i : Nat) (x : Int), xs[i]? = some x → R i x) → Qd H) :
    ∃ W : Nat → Nat → Hp → Prop, (∃ m, W 0 m (upd H1 D (.lst []))) ∧ ∀ i m H, W i m H →
      ((Itr 0 n).stop i H ∧ Qd H) ∨ ((Itr 0 n).go i H ∧ ∃ Nx : Hp → Prop, (∀ H', Nx H' → ∃ m', m' < m ∧ W (i + 1) m' H') ∧ ∀ x H', (Itr 0 n).yld i H x H' → g x (wipe σ vs) H' fun σ2 H2 => wipe σ2 vs = wipe σ vs ∧ tYes σ2 H2 fun b H3 =>
        if b = true then te σ2 H3 fun y H4 => ∃ acc, H4 D = some (.lst acc) ∧ acc.length < sizeLine ∧ Nx (upd H4 D (.lst (acc ++ [y]))) else Nx H3) := by
  obtain ⟨kvs, hm⟩ := hM.m_some
  obtain ⟨ys, hc⟩ := hM.c_some
  have dm : D ≠ m := Ne.symm (ne_of_none hm nD)
  have dc : D ≠ c := Ne.symm (ne_of_none hc nD)
  refine lc_it (walk_range (lo := 0) (n := n)) (tt := tYes) (fun i H => ∃ xs : List Int, SameBut m H1 H ∧ MOk H m c (q + w * i) ∧ H D = some (.lst (xs.map V.int)) ∧ xs.length = i ∧ ∀ (j : Nat) (x : Int), xs[j]? = some x → R j x) ⟨[], SameBut.of (same_new nD), hM.put dm dc, upd_same, rfl, fun j x hx => by cases hx⟩ (fun _ _ _ _ => True.intro) ?_ ?_
  · rintro i x H H' hi ⟨xs, sb, M, d, l, bd⟩ ⟨rfl, rfl⟩
    refine hs i H' (fun y H4 => ∃ acc, H4 D = some (.lst acc) ∧ acc.length < sizeLine ∧ ∃ xs : List Int, SameBut m H1 (upd H4 D (.lst (acc ++ [y]))) ∧ MOk (upd H4 D (.lst (acc ++ [y]))) m c (q + w * (i + 1)) ∧ upd H4 D (.lst (acc ++ [y])) D = some (.lst (xs.map V.int)) ∧ xs.length = i + 1 ∧ ∀ (j : Nat) (x : Int), xs[j]? = some x → R j x) hi sb M fun H4 v b4 M4 v0 => ?_
    refine ⟨xs.map V.int, b4 _ _ dm d, by rw [List.length_map]; omega, xs ++ [v], sb_put nD (sb.trans b4), (M4.put dm dc).mono (by rw [Nat.mul_succ]; omega), ?_, by rw [List.length_append, l]; rfl, fun j x hx => ?_⟩
    · rw [upd_same, List.map_append]
      rfl
    · by_cases hj : j < xs.length
      · rw [List.getElem?_append_left hj] at hx
        exact bd j x hx
      · have hj2 := (List.getElem?_eq_some_iff.mp hx).1
        rw [List.length_append] at hj2
        have hj3 : j = xs.length := by
          simp only [List.length_cons, List.length_nil] at hj2
          omega
        subst hj3
        rw [List.getElem?_append_right (Nat.le_refl _), Nat.sub_self] at hx
        obtain rfl := Option.some.inj hx
        rw [l]
        exact v0
  · rintro H ⟨xs, sb, M, d, l, bd⟩
    exact hd H xs sb M d l bd
/-- a comprehension with a test, over any walk: the values of the kept places -/
theorem lc_fl {J : It} {n : Nat} {G : Hp → Prop} {Y : Nat → Hp → V → Hp → Prop} (w : Walk J n G Y) {g : TG} {tt : TT} {te : TE} {vs : List Nat} {σ : L2.St} {H1 : Hp} {D : Addr} {Qd : Hp → Prop} (keep : Nat → Bool) (val : Nat → V) (hz : n < sizeLine) (nD : H1 D = none)
    (hG : ∀ H, Same H1 H → G H)
    (hs : ∀ (i : Nat) (x : V) (H H' : Hp) (Qy : VK) (Nx : Hp → Prop), i < n → Same H1 H → Y i H x H' → (keep i = true → ∀ H4, Same H H4 → Qy (val i) H4) → (keep i = false → ∀ H4, Same H H4 → Nx H4) → g x (wipe σ vs) H' fun σ2 H2 => wipe σ2 vs = wipe σ vs ∧ tt σ2 H2 fun b H3 => if b = true then te σ2 H3 Qy else Nx H3)
    (hd : ∀ H, Same H1 H → H D = some (.lst (((List.range n).filter keep).map val)) → Qd H) :
    ∃ W : Nat → Nat → Hp → Prop, (∃ m, W 0 m (upd H1 D (.lst []))) ∧ ∀ i m H, W i m H →
      (J.stop i H ∧ Qd H) ∨ (J.go i H ∧ ∃ Nx : Hp → Prop, (∀ H', Nx H' → ∃ m', m' < m ∧ W (i + 1) m' H') ∧ ∀ x H', J.yld i H x H' → g x (wipe σ vs) H' fun σ2 H2 => wipe σ2 vs = wipe σ vs ∧ tt σ2 H2 fun b H3 =>
        if b = true then te σ2 H3 fun y H4 => ∃ acc, H4 D = some (.lst acc) ∧ acc.length < sizeLine ∧ Nx (upd H4 D (.lst (acc ++ [y]))) else Nx H3) := by
  refine lc_it w (tt := tt) (fun i H => Same H1 H ∧ H D = some (.lst (((List.range i).filter keep).map val))) ⟨same_new nD, by rw [upd_same]; rfl⟩ (fun i H _ p => hG H p.1) ?_ ?_
  · rintro i x H H' hi ⟨s, d⟩ y
    refine hs i x H H' _ _ hi s y (fun hk H4 s4 => ?_) (fun hk H4 s4 => ?_)
    · refine ⟨_, s4 _ _ d, ?_, same_put (s.trans s4) nD, ?_⟩
      · rw [List.length_map]
        have := List.length_filter_le keep (List.range i)
        rw [List.length_range] at this
        omega
      · rw [upd_same, List.range_succ, List.filter_append, List.filter_cons_of_pos hk, List.filter_nil, List.map_append]
        rfl
    · refine ⟨s.trans s4, ?_⟩
      rw [s4 _ _ d, List.range_succ, List.filter_append, List.filter_cons_of_neg (by rw [hk]; decide), List.filter_nil, List.append_nil]
  · rintro H ⟨s, d⟩
    exact hd H s d
theorem lay_rows : ∀ rows : List (List Int), PyData.canLayAll0 (rows.map dRow) = true ∧ PyData.depthAll (rows.map dRow) ≤ 1
  | [] => ⟨by simp [PyData.canLayAll0], by simp [PyData.depthAll]⟩
  | r :: rs => by
    obtain ⟨h1, h2⟩ := lay_rows rs
    obtain ⟨h3, h4⟩ := lay_ints r
    refine ⟨by simp [PyData.canLayAll0, dRow, PyData.canLay0, h1, h3], ?_⟩
    simp only [List.map_cons, PyData.depthAll, dRow, PyData.depth, h4]
    omega
theorem shaped_rows (rows : List (List Int)) : SeqAt.shaped (.list (rows.map dRow)) = true ∧ SeqAt.shaped (.tuple (rows.map dRow)) = true := by
  obtain ⟨h1, h2⟩ := lay_rows rows
  constructor <;> simp [SeqAt.shaped, PyData.canLay0, PyData.depth, h1] <;> omega
theorem iteT' {c : Bool} {A B : Prop} (hc : c = true) (h : A) : if c = true then A else B := by
  subst hc
  exact iteT h
theorem all_of_get {xs : List Int} {R : Int → Prop} (h : ∀ (i : Nat) (x : Int), xs[i]? = some x → R x) : ∀ x ∈ xs, R x := fun x hx => by
  obtain ⟨i, hi⟩ := List.getElem?_of_mem hx
  exact h i x hi
end Vk
namespace K13
open PySem PySem.Spec PyProof.Rows L2 Vk
def topS (i : Nat) : Stmt := PySem.Challenge.pw_pointtally_k13_whole_places_within_grids.main.body.getD i (.Pass ⟨0, 0, 0, 0⟩)
abbrev s_draw : Stmt := topS 20
theorem sc_draw : FnScope ["m", "bound", "found", "spot", "cells", "extra", "cell", "blend"] ["m", "bound"] (defScope s_draw) := ⟨rfl, rfl, rfl, by decide +kernel, rfl, by decide +kernel, by decide +kernel⟩
abbrev s_begun : Stmt := topS 19
theorem sc_begun : FnScope ["script", "k_so", "cells", "cell", "great", "seed"] ["script", "k_so"] (defScope s_begun) := ⟨rfl, rfl, rfl, by decide +kernel, rfl, by decide +kernel, by decide +kernel⟩
abbrev s_of : Stmt := topS 21
theorem sc_of : FnScope ["m", "some"] ["m", "some"] (defScope s_of) := ⟨rfl, rfl, rfl, by decide +kernel, rfl, by decide +kernel, by decide +kernel⟩
abbrev s_like : Stmt := topS 22
theorem sc_like : FnScope ["got", "due"] ["got", "due"] (defScope s_like) := ⟨rfl, rfl, rfl, by decide +kernel, rfl, by decide +kernel, by decide +kernel⟩
abbrev s_signed : Stmt := topS 23
theorem sc_signed : FnScope ["m", "most", "number"] ["m", "most"] (defScope s_signed) := ⟨rfl, rfl, rfl, by decide +kernel, rfl, by decide +kernel, by decide +kernel⟩
abbrev s_psum : Stmt := topS 1
theorem sc_psum : FnScope ["one", "other", "a", "b"] ["one", "other"] (defScope s_psum) := ⟨rfl, rfl, rfl, by decide +kernel, rfl, by decide +kernel, by decide +kernel⟩
abbrev s_fval : Stmt := topS 2
theorem sc_fval : FnScope ["form", "t"] ["form", "t"] (defScope s_fval) := ⟨rfl, rfl, rfl, by decide +kernel, rfl, by decide +kernel, by decide +kernel⟩
section
variable {P : Program} {w : World} {K : PySem.W.Frag} {mg : Str → Option Value} {base : Heap}
theorem ok_draw {f : Addr} {fd : FuncData} (F : Fun K "_law_draw" "_law_draw" s_draw f fd) (m_int : mg "int" = none) (m_len : mg "len" = none) : FnOk P w K mg base CX0 1 f fd ["m", "bound"] spDraw := by
  have sc := sc_draw
  refine F.ok sc (fun vs H Q E h => ?_) (fun cdv A outer s H vs Q E hr h => ?_)
  · obtain ⟨m, c, n, b, rfl, _⟩ := h
    rfl
  · obtain ⟨m, c, n, b, rfl, hM, hn, hb0, hb1, q⟩ := h
    refine ⟨_, (pss_cons (ps_if (pt_cmpR op_gt (pe_dget (hu_of hr) (pv 0) pe_str (fun _ _ => rfl)) pe_int (nomark _))
      (pss_cons (ps_set (i := 2) sc.nd rfl (Or.inl rfl) (pe_op op_modN (pe_callTy call_int1 (by rfl) m_int (by decide +kernel) (pa_cons (pe_dget (hu_of hr) (pv 0) pe_str (fun _ _ => rfl)) pa_nil)) (pv 1)))
    (pss_cons (ps_dput (hu_of hr) (pv 0) pe_str (pe_op op_fdivX (pe_dget (hu_of hr) (pv 0) pe_str (fun _ _ => rfl)) (pv 1)) rfl)
    (pss_one (ps_ret (pv 2)))))
      pss_nil)
    (pss_cons (ps_set (i := 3) sc.nd rfl (Or.inl rfl) (pe_dget (hu_of hr) (pv 0) pe_str (fun _ _ => rfl)))
    (pss_cons (ps_dput (hu_of hr) (pv 0) pe_str (pe_op op_add (pv 3) pe_int) rfl)
    (pss_cons (ps_par (i := 4) (j := 5) (by rfl) sc.nd rfl rfl (by decide) rfl rfl (pa_cons (pe_dget (hu_of hr) (pv 0) pe_str (fun _ _ => rfl)) (pa_cons (pe_op op_add (pe_dget (hu_of hr) (pv 0) pe_str (fun _ _ => rfl)) (pe_op op_mul (pe_op op_mul pe_int (pv 3)) (pv 3))) pa_nil)) (by rfl))
    (pss_cons (ps_set (i := 6) sc.nd rfl (Or.inl rfl) (pe_ix ix_list (pv 4) (pe_op op_modN (pe_callTy call_int1 (by rfl) m_int (by decide +kernel) (pa_cons (pv 3) pa_nil)) (pe_callB call_len_seq (by rfl) m_len (by decide +kernel) (pa_cons (pv 4) pa_nil))) (fun _ _ => rfl)))
    (pss_cons (ps_set (i := 7) sc.nd rfl (Or.inl rfl) (pe_op op_modN (pe_callTy call_int1 (by rfl) m_int (by decide +kernel) (pa_cons (pe_op op_add (pe_op op_mul (pv 6) (pe_op op_add (pe_op op_mul pe_int (pv 3)) pe_int)) (pv 5)) pa_nil)) pe_int))
    (pss_cons (ps_set (i := 7) sc.nd rfl (Or.inl rfl) (pe_op op_modN (pe_callTy call_int1 (by rfl) m_int (by decide +kernel) (pa_cons (pe_op op_add (pe_op op_add (pe_op op_mul (pv 7) (pv 7)) (pe_op op_mul pe_int (pv 3))) (pe_dget (hu_of hr) (pv 0) pe_str (fun _ _ => rfl))) pa_nil)) pe_int))
    (pss_one (ps_ret (pe_op op_modN (pe_op op_fdivN (pe_op op_modN (pe_callTy call_int1 (by rfl) m_int (by decide +kernel) (pa_cons (pe_op op_add (pe_op op_mul (pv 7) pe_int) (pv 3)) pa_nil)) pe_int) pe_int) (pv 1))))))))))), ?_⟩
    obtain ⟨L, sd, sp, cells, h1, h2, h3, h4, h5⟩ := hM
    have ncm : c ≠ m := ne_of h2 h1 (by intro z; cases z)
    refine ⟨.ref m, rfl, m, .int L, rfl, get_m h1 val_left, L, 0, rfl, rfl, _, rfl, ite2 (fun hL => ?_) (fun hL => ?_)⟩
    · -- the first way
      refine ⟨.ref m, rfl, m, .int L, rfl, get_m h1 val_left, .inl ⟨L, rfl, .int b, rfl, L, b, rfl, rfl, by omega, ?_⟩⟩
      refine ⟨.ref m, rfl, m, .int L, rfl, get_m h1 val_left, .int b, rfl, L, b, rfl, rfl, ⟨by omega, Nat.lt_trans (PySem.Flt.log2_lt_of (by decide) hb1) (by decide)⟩, .ref m, rfl, m, _, rfl, put_m h1 put_left, ?_⟩
      refine ⟨.int (L.fmod b), rfl, q _ _ but_put ⟨_, sd, sp, cells, upd_same, ?_, h3, h4, by omega⟩ (Int.fmod_nonneg_of_pos _ hb0) (Int.fmod_lt_of_pos _ hb0)⟩
      rw [upd_ne ncm]
      exact h2
    · -- the second way
      refine ⟨.ref m, rfl, m, .int sp, rfl, get_m h1 val_spot, ?_⟩
      refine ⟨.int sp, rfl, sp, 1, rfl, rfl, .ref m, rfl, m, _, rfl, put_m h1 put_spot, ?_⟩
      have g1 : (upd H m (.dK (mkv L sd c (sp + 1)))) m = some (.dK (mkv L sd c (sp + 1))) := upd_same
      have g2 : (upd H m (.dK (mkv L sd c (sp + 1)))) c = some (.lst (cells.map V.int)) := by
        rw [upd_ne ncm]
        exact h2
      refine ⟨.ref m, rfl, m, .ref c, rfl, get_m g1 val_cells, .ref m, rfl, m, .int sd, rfl, get_m g1 val_seed, .int sp, rfl, 40503, sp, rfl, rfl, .inl ⟨by decide, by decide⟩, .int sp, rfl, 40503 * sp, sp, rfl, rfl, .inr ⟨by omega, by omega⟩, sd, 40503 * sp * sp, rfl, rfl, .ref c, .int (sd + 40503 * sp * sp), rfl, ?_⟩
      have hj : (sp.toNat % cells.length) < cells.length := Nat.mod_lt _ h3
      have e1 : Int.fmod sp ((cells.map V.int).length : Int) = ((sp.toNat % cells.length : Nat) : Int) := by
        rw [List.length_map, Int.fmod_eq_emod_of_nonneg _ (by omega), Int.natCast_emod, Int.toNat_of_nonneg h4]
      have e2 : (cells.map V.int)[sp.toNat % cells.length]? = some (.int cells[sp.toNat % cells.length]) := by
        rw [List.getElem?_map, List.getElem?_eq_getElem hj]
        rfl
      refine ⟨.ref c, rfl, .int sp, rfl, .inl ⟨sp, rfl, .ref c, rfl, c, _, rfl, .inl (SqL.of g2), sp, _, rfl, rfl, ?_, c, _, _, .int cells[sp.toNat % cells.length], rfl, rfl, SqL.of g2, ?_, ?_⟩⟩
      · rw [List.length_map]
        omega
      · rw [e1]
        exact atI_nat e2
      refine ⟨_, rfl, .int sp, rfl, 2, sp, rfl, rfl, .inl ⟨by decide, by decide⟩, 2 * sp, 3, rfl, rfl, _, 2 * sp + 3, rfl, rfl, .inr ⟨by omega, by omega⟩, _, rfl, _, _, rfl, rfl, .inl ⟨_, rfl, _, 2147483647, rfl, rfl, (by show (2147483647 : Int) ≠ 0; decide), ?_⟩⟩
      dsimp only
      generalize hB : Int.fmod (cells[sp.toNat % cells.length] * (2 * sp + 3) + (sd + 40503 * sp * sp)) 2147483647 = B
      have b0 : 0 ≤ B := by
        rw [← hB]
        exact Int.fmod_nonneg_of_pos _ (by decide)
      have b1 : B < 2147483647 := by
        rw [← hB]
        exact Int.fmod_lt_of_pos _ (by decide)
      refine ⟨.int B, rfl, .int B, rfl, B, B, rfl, rfl, .inl ⟨by omega, by omega⟩, .int sp, rfl, 69621, sp, rfl, rfl, .inl ⟨by decide, by decide⟩, B * B, 69621 * sp, rfl, rfl, .ref m, rfl, m, .int sd, rfl, get_m g1 val_seed, _, sd, rfl, rfl, .inl ⟨_, rfl, _, 2147483629, rfl, rfl, (by show (2147483629 : Int) ≠ 0; decide), ?_⟩⟩
      dsimp only
      generalize hB2 : Int.fmod (B * B + 69621 * sp + sd) 2147483629 = B2
      have c0 : 0 ≤ B2 := by
        rw [← hB2]
        exact Int.fmod_nonneg_of_pos _ (by decide)
      have c1 : B2 < 2147483629 := by
        rw [← hB2]
        exact Int.fmod_lt_of_pos _ (by decide)
      refine ⟨.int B2, rfl, B2, 48271, rfl, rfl, .inl ⟨by omega, by omega⟩, .int sp, rfl, _, sp, rfl, rfl, .inl ⟨_, rfl, _, 2147483647, rfl, rfl, (by show (2147483647 : Int) ≠ 0; decide), _, 11, rfl, rfl, (by show (11 : Int) ≠ 0 ∧ (11 : Int).natAbs < 1073741824; decide), .int b, rfl, _, b, rfl, rfl, by omega, ?_⟩⟩
      exact q _ _ but_put ⟨L, sd, sp + 1, cells, g1, g2, h3, by omega, by omega⟩ (Int.fmod_nonneg_of_pos _ hb0) (Int.fmod_lt_of_pos _ hb0)
theorem ok_begun {f : Addr} {fd : FuncData} (F : Fun K "_law_begun" "_law_begun" s_begun f fd) (m_int : mg "int" = none) : FnOk P w K mg base CX0 1 f fd ["script", "k_so"] (spBegun K) := by
  have sc := sc_begun
  refine F.ok sc (fun vs H Q E h => ?_) (fun cdv A outer s H vs Q E hr h => ?_)
  · obtain ⟨a, k, ns, rfl, _⟩ := h
    rfl
  · obtain ⟨a, k, ns, rfl, hS, hl, hk0, hk1, q⟩ := h
    refine ⟨_, (pss_cons (ps_set (i := 2) sc.nd rfl (Or.inl rfl) (pe_op op_cat (pe_slice sl_list (pv 0) (po_some (pv 1)) po_none) (pe_slice sl_list (pv 0) po_none (po_some (pv 1)))))
    (pss_cons (ps_setLc (i := 4) (own := [("cell", 3)]) (g := gName 3) (by rfl) sc.nd rfl rfl (sw_true rfl rfl rfl (by decide +kernel)) (pi_list (pv 2)) (blkOk_by (own := [("cell", 3)]) (N := ["script", "k_so", "cells", "cell", "great", "seed"]) (sc := defScope s_begun) (by decide +kernel)) (fun _ _ _ _ _ => pg_name (i := 3) sc.nd rfl (Or.inl rfl)) (fun _ _ _ _ _ => (pts_one (pt_cmpR op_ge (pv 3) (pe_op op_pow pe_int pe_int) (nomark _)))) (fun _ _ _ _ _ => (pv 3)))
    (pss_cons (ps_set (i := 5) sc.nd rfl (Or.inl rfl) (pe_op op_add pe_int (pv 1)))
    (pss_cons (ps_for PassesOwn.never rfl (pi_list (pv 2)) (pg_name (i := 3) sc.nd rfl (Or.inl rfl))
      (pss_one (ps_set (i := 5) sc.nd rfl (Or.inl rfl) (pe_op op_modN (pe_callTy call_int1 (by rfl) m_int (by decide +kernel) (pa_cons (pe_op op_add (pe_op op_mul (pv 5) pe_int) (pv 3)) pa_nil)) pe_int))))
    (pss_one (ps_ret (pe_disp (pps_cons pe_str (pe_ifExp (pt_cmpR (op_neD hr.units) (pv 4) (pe_lst pa_nil) (nomark _)) (pe_ix ix_list (pv 4) pe_int (fun _ _ => rfl)) pe_int) (pps_cons pe_str (pv 5) (pps_cons pe_str (pe_op op_cat (pv 2) (pe_lst (pa_cons (pe_op op_add (pe_op op_mul pe_int (pv 1)) pe_int) pa_nil))) (pps_cons pe_str pe_int pps_nil)))) (by rfl) (by rfl) (fun z => by cases z) (by decide)))))))), ?_⟩
    obtain ⟨l1, e1, b1⟩ := cut_ints ns (some k) none
    obtain ⟨l2, e2, b2⟩ := cut_ints ns none (some k)
    refine ⟨.ref a, rfl, .int k, rfl, k, rfl, a, _, rfl, hS, fun p1 n1 => ?_⟩
    rw [e1]
    have s1 : Same H (upd H p1 (.lst (l1.map V.int))) := same_new n1
    refine ⟨.ref a, rfl, .int k, rfl, k, rfl, a, _, rfl, s1.seq hS, fun p2 n2 => ?_⟩
    rw [e2]
    have n12 : p1 ≠ p2 := fun z => by
      rw [← z, upd_same] at n2
      cases n2
    have h2 : H p2 = none := s1.free n2
    refine ⟨p1, p2, l1.map V.int, l2.map V.int, rfl, rfl, ?_, upd_same, ?_, fun p np => ?_⟩
    · rw [upd_ne n12, upd_same]
    · rw [List.length_map, List.length_map]
      exact Nat.le_of_lt (small1000 (by omega))
    rw [← List.map_append]
    have s2 : Same H (upd (upd H p1 (.lst (l1.map V.int))) p2 (.lst (l2.map V.int))) := same_put s1 h2
    have hp : H p = none := s2.free np
    have s3 := same_put (o := .lst ((l1 ++ l2).map V.int)) s2 hp
    have hH3 : upd (upd (upd H p1 (.lst (l1.map V.int))) p2 (.lst (l2.map V.int))) p (.lst ((l1 ++ l2).map V.int)) p = some (.lst ((l1 ++ l2).map V.int)) := upd_same
    generalize upd (upd (upd H p1 (.lst (l1.map V.int))) p2 (.lst (l2.map V.int))) p (.lst ((l1 ++ l2).map V.int)) = H3 at s3 hH3 ⊢
    have g3 : H3 p = some (.lst ((l1 ++ l2).map V.int)) := hH3
    generalize hcs : l1 ++ l2 = cs at g3
    have bcs : cs.length ≤ 126 := by
      rw [← hcs, List.length_append]
      omega
    refine ⟨.ref p, rfl, p, rfl, ⟨_, SqL.of g3⟩, fun D nD => ?_⟩
    have hD : H D = none := s3.free nD
    have nDp : p ≠ D := ne_of_none g3 nD
    refine lc_list (K := K) (a := p) (xs := cs.map V.int) (fun i H' => ∃ acc : List Int, H' = upd H3 D (.lst (acc.map V.int)) ∧ acc.length ≤ i) ⟨[], rfl, Nat.le_refl _⟩ ?_ ?_ ?_
    · rintro i H' _ ⟨acc, rfl, _⟩
      refine SqL.of ?_
      rw [upd_ne nDp]
      exact g3
    · rintro i x H' hx ⟨acc, rfl, hacc⟩
      obtain ⟨z, hz, rfl⟩ : ∃ z, cs[i]? = some z ∧ x = V.int z := by
        rw [List.getElem?_map] at hx
        cases hc : cs[i]? with
        | none => rw [hc] at hx; cases hx
        | some z => rw [hc] at hx; exact ⟨z, rfl, (Option.some.inj hx).symm⟩
      have hi : i < cs.length := (List.getElem?_eq_some_iff.mp hz).1
      refine ⟨rfl, .int z, rfl, 10, 18, rfl, rfl, ⟨by decide, by decide, by decide⟩, z, _, rfl, rfl, _, rfl, ite2 (fun h => ?_) (fun h => ?_)⟩
      · refine ⟨.int z, rfl, _, upd_same, ?_, acc ++ [z], ?_, ?_⟩
        · rw [List.length_map]
          exact small1000 (by omega)
        · rw [upd_upd, List.map_append]
          rfl
        · rw [List.length_append]
          show acc.length + 1 ≤ i + 1
          omega
      · exact ⟨acc, rfl, by omega⟩
    rintro H' ⟨acc, rfl, hacc⟩
    have s4 : Same H (upd H3 D (.lst (acc.map V.int))) := same_put s3 hD
    have g4 : upd H3 D (.lst (acc.map V.int)) p = some (.lst (cs.map V.int)) := by
      rw [upd_ne nDp]
      exact g3
    have d4 : upd H3 D (.lst (acc.map V.int)) D = some (.lst (acc.map V.int)) := upd_same
    generalize upd H3 D (.lst (acc.map V.int)) = H4 at s4 g4 d4
    refine ⟨.int k, rfl, 71, k, rfl, rfl, .ref p, rfl, p, rfl, ⟨_, SqL.of g4⟩, ?_⟩
    refine for_list (K := K) (a := p) (xs := cs.map V.int) (fun i σ H' => ∃ (sd : Int) (y : Option V), σ = [some (.ref a), some (.int k), some (.ref p), y, some (.ref D), some (.int sd)] ∧ H' = H4 ∧ 0 ≤ sd ∧ sd < 2147483648) ⟨71 + k, none, rfl, rfl, by omega, by omega⟩ ?_ ?_ ?_
    · rintro i σ H' _ ⟨sd, y, rfl, rfl, _⟩
      exact SqL.of g4
    · rintro i x σ H' hx ⟨sd, y, rfl, rfl, h0, h1⟩
      obtain ⟨z, hz, rfl⟩ : ∃ z, cs[i]? = some z ∧ x = V.int z := by
        rw [List.getElem?_map] at hx
        cases hc : cs[i]? with
        | none => rw [hc] at hx; cases hx
        | some z => rw [hc] at hx; exact ⟨z, rfl, (Option.some.inj hx).symm⟩
      refine ⟨.int sd, rfl, sd, 48271, rfl, rfl, .inl ⟨by omega, by omega⟩, .int z, rfl, _, z, rfl, rfl, .inl ⟨_, rfl, _, 2147483647, rfl, rfl, (by show (2147483647 : Int) ≠ 0; decide), ?_⟩⟩
      have q1 := Int.fmod_lt_of_pos (sd * 48271 + z) (show (0 : Int) < 2147483647 by decide)
      exact ⟨_, _, rfl, rfl, Int.fmod_nonneg_of_pos _ (by decide), by omega⟩
    rintro σ H' ⟨sd, y, rfl, rfl, h0, h1⟩
    intro r nr
    have hr0 : H r = none := s4.free nr
    have s5 : Same H (upd H' r (.dK [])) := same_put s4 hr0
    have prn : p ≠ r := ne_of_none g4 nr
    have drn : D ≠ r := ne_of_none d4 nr
    have g5 : upd H' r (.dK []) p = some (.lst (cs.map V.int)) := by
      rw [upd_ne prn]
      exact g4
    have d5 : upd H' r (.dK []) D = some (.lst (acc.map V.int)) := by
      rw [upd_ne drn]
      exact d4
    have r5 : upd H' r (.dK []) r = some (.dK []) := upd_same
    generalize upd H' r (.dK []) = H5 at s5 g5 d5 r5 ⊢
    refine ⟨.ref D, rfl, Nat.zero_le _, fun e0 ne0 => ?_⟩
    have p0 : p ≠ e0 := ne_of_none g5 ne0
    have d0 : D ≠ e0 := ne_of_none d5 ne0
    have r0 : r ≠ e0 := ne_of_none r5 ne0
    have s6 : Same H (upd H5 e0 (.lst [])) := same_put s5 (s5.free ne0)
    have g6 : upd H5 e0 (.lst []) p = some (.lst (cs.map V.int)) := by
      rw [upd_ne p0]
      exact g5
    have d6 : upd H5 e0 (.lst []) D = some (.lst (acc.map V.int)) := by
      rw [upd_ne d0]
      exact d5
    have r6 : upd H5 e0 (.lst []) r = some (.dK []) := by
      rw [upd_ne r0]
      exact r5
    have l6 : upd H5 e0 (.lst []) e0 = some (.lst ([] : List V)) := upd_same
    generalize upd H5 e0 (.lst []) = H6 at s6 g6 d6 r6 l6 ⊢
    refine ⟨.list (acc.map PyData.int), .list [], .lst (SqL.of d6) (dp_ints acc), .lst (SqL.of l6) .nil, shaped_ints acc, shaped_ints [], _, rfl, ?_⟩
    refine tif_both (fun v => ∃ L : Int, v = .int L) ?_ ?_ ?_
    · rintro _ ⟨L, rfl⟩
      refine ⟨.int sd, rfl, .ref p, rfl, .int k, rfl, 53, k, rfl, rfl, .inl ⟨by decide, by decide⟩, _, 11, rfl, rfl, (by show 1 ≤ sizeLine; decide), fun e1 ne1 => ?_⟩
      have p1' : p ≠ e1 := ne_of_none g6 ne1
      have r1' : r ≠ e1 := ne_of_none r6 ne1
      have s7 : Same H (upd H6 e1 (.lst [.int (53 * k + 11)])) := same_put s6 (s6.free ne1)
      refine ⟨p, e1, cs.map V.int, [.int (53 * k + 11)], rfl, rfl, ?_, upd_same, ?_, fun c nc => ?_⟩
      · rw [upd_ne p1']
        exact g6
      · rw [List.length_map]
        exact Nat.le_of_lt (small1000 (show cs.length + 1 ≤ 1000 by omega))
      have r7 : upd H6 e1 (.lst [.int (53 * k + 11)]) r = some (.dK []) := by
        rw [upd_ne r1']
        exact r6
      have rc : r ≠ c := ne_of_none r7 nc
      have s8 := same_put (o := .lst (cs.map V.int ++ [.int (53 * k + 11)])) s7 (s7.free nc)
      refine ⟨?_, mkv L sd c 0, rfl, (by show 4 ≤ 15; decide), ?_⟩
      · rw [upd_ne rc]
        exact r7
      refine q _ _ _ (same_put s8 hr0) hr0 ⟨L, sd, 0, cs ++ [53 * k + 11], upd_same, ?_, ?_, by omega, by omega⟩
      · rw [upd_ne (Ne.symm rc), upd_same, List.map_append]
        rfl
      · rw [List.length_append]
        exact Nat.succ_pos _
    · intro hc hQ
      cases acc with
      | nil => exact absurd hc (by decide)
      | cons z zs => exact ⟨.ref D, rfl, D, _, 0, .int z, rfl, rfl, SqL.of d6, atI_nat (j := 0) rfl, hQ _ ⟨z, rfl⟩⟩
    · intro hc hQ
      exact hQ _ ⟨0, rfl⟩
theorem ok_of {f : Addr} {fd : FuncData} (F : Fun K "_law_of" "_law_of" s_of f fd) (C__law_draw : Cal P w K mg base 1 "_law_draw" ["m", "bound"] spDraw) (m_len : mg "len" = none) : FnOk P w K mg base CX0 2 f fd ["m", "some"] spOf := by
  have sc := sc_of
  refine F.ok sc (fun vs H Q E h => ?_) (fun cdv A outer s H vs Q E hr h => ?_)
  · obtain ⟨m, c, L, n, xs, rfl, _⟩ := h
    rfl
  · obtain ⟨m, c, L, n, xs, rfl, hM, hn, hL, h0, h1, q⟩ := h
    refine ⟨_, (pss_one (ps_ret (pe_ix ix_list (pv 1) (call_ C__law_draw (hr.mono (by decide)) (by rfl) (pa_cons (pv 0) (pa_cons (pe_callB call_len_seq (by rfl) m_len (by decide +kernel) (pa_cons (pv 1) pa_nil)) pa_nil))) (fun _ _ => rfl)))), ?_⟩
    have hLm : L ≠ m := by
      obtain ⟨_, _, _, _, h2, _⟩ := hM
      exact ne_of hL h2 (by intro z; cases z)
    refine ⟨.ref L, rfl, .ref m, rfl, .ref L, rfl, L, xs, rfl, .inl (SqL.of hL), m, c, n, xs.length, rfl, hM, hn, by omega, ?_, fun H1 v b1 M1 v0 v1 => ?_⟩
    · have e : ((xs.length : Nat) : Int).natAbs = xs.length := by omega
      rw [e]
      exact Nat.lt_of_le_of_lt h1 (by decide)
    · obtain ⟨j, rfl⟩ : ∃ j : Nat, v = j := ⟨v.toNat, by omega⟩
      have hj : j < xs.length := by omega
      exact ⟨L, xs, j, xs[j], rfl, rfl, SqL.of (b1 _ _ hLm hL), atI_nat (List.getElem?_eq_getElem hj), q H1 xs[j] b1 M1 (List.getElem_mem hj)⟩
theorem ok_like {f : Addr} {fd : FuncData} (F : Fun K "_law_like" "_law_like" s_like f fd) (m_repr : mg "repr" = none) : FnG P w K mg base 1 f fd ["got", "due"] (spLike K) := by
  have sc := sc_like
  refine okG F sc (fun vs H Q E h => ?_) (fun cdv A outer s H vs Q E hG hr h => ?_)
  · obtain ⟨x, y, d, rfl, _⟩ := h
    rfl
  · obtain ⟨x, y, d, rfl, h1, h2, hf, q⟩ := h
    have hG' : Quiet (cxOf CX0 P w K mg base ["got", "due"] "_law_like" (defScope s_like) f cdv A outer s H E).nox.A := hG.deeper _
    refine ⟨_, (pss_one (ps_ret (pe_cmpR op_eq (pe_callB (call_rep hG' hr.units) (by rfl) m_repr (by decide +kernel) (pa_cons (pv 0) pa_nil)) (pe_callB (call_rep hG' hr.units) (by rfl) m_repr (by decide +kernel) (pa_cons (pv 1) pa_nil)) (nomark _)))), ?_⟩
    refine ⟨x, rfl, x, d, rfl, h1, hf.s, hf.h, hf.dp, hf.len (Nat.le_refl _), y, rfl, y, d, rfl, h2, hf.s, hf.h, hf.dp, hf.len (Nat.le_refl _), rfl, ?_⟩
    rw [decide_eq_true rfl]
    exact q
theorem ok_signed {f : Addr} {fd : FuncData} (F : Fun K "_law_signed" "_law_signed" s_signed f fd) (C__law_draw : Cal P w K mg base 1 "_law_draw" ["m", "bound"] spDraw) : FnOk P w K mg base CX0 2 f fd ["m", "most"] spSigned := by
  have sc := sc_signed
  refine F.ok sc (fun vs H Q E h => ?_) (fun cdv A outer s H vs Q E hr h => ?_)
  · obtain ⟨m, c, q, b, rfl, _⟩ := h
    rfl
  · obtain ⟨m, c, q, b, rfl, hM, hq, b0, b1, k⟩ := h
    refine ⟨_, (pss_cons (ps_set (i := 2) sc.nd rfl (Or.inl rfl) (call_ C__law_draw (hr.mono (by decide)) (by rfl) (pa_cons (pv 0) (pa_cons (pe_op op_add (pv 1) pe_int) pa_nil))))
    (pss_one (ps_ret (pe_ifExp (pt_cmpR op_eq (call_ C__law_draw (hr.mono (by decide)) (by rfl) (pa_cons (pv 0) (pa_cons pe_int pa_nil))) pe_int (nomark _)) (pv 2) (pe_un un_neg (pv 2)))))), ?_⟩
    have lim : ∀ z : Int, 0 ≤ z → z ≤ 10000 → z.natAbs < 2 ^ 200 := fun z h0 h1 => Nat.lt_of_le_of_lt (show z.natAbs ≤ 10000 by omega) (by decide)
    refine ⟨.ref m, rfl, .int b, rfl, b, 1, rfl, rfl, m, c, q, b + 1, rfl, hM, by omega, by omega, lim _ (by omega) (by omega), fun H1 v s1 M1 v0 v1 => ?_⟩
    refine ⟨.ref m, rfl, m, c, q + 1, 2, rfl, M1, by omega, by decide, by decide, fun H2 u s2 M2 u0 u1 => ?_⟩
    have s12 := s1.trans s2
    have M3 := M2.mono (show q + 1 + 1 ≤ q + 2 by omega)
    refine ⟨rfl, _, rfl, ite2 (fun _ => ?_) (fun _ => ?_)⟩
    · exact ⟨_, rfl, k H2 _ s12 M3 (by omega) (by omega)⟩
    · exact ⟨_, rfl, v, rfl, k H2 _ s12 M3 (by omega) (by omega)⟩
theorem ok_psum {f : Addr} {fd : FuncData} (F : Fun K "product_sum" "product_sum" s_psum f fd) (m_sum : mg "sum" = none) (m_zip : mg "zip" = none) : FnOk P w K mg base CX0 1 f fd ["one", "other"] spPsum := by
  have sc := sc_psum
  refine F.ok sc (fun vs H Q E h => ?_) (fun cdv A outer s H vs Q E hr h => ?_)
  · obtain ⟨a, b, xs, ys, rfl, _⟩ := h
    rfl
  · obtain ⟨a, b, xs, ys, rfl, ha, hb, hl, q⟩ := h
    refine ⟨_, (pss_one (ps_ret (pe_callB (cr_sum rfl) (by rfl) m_sum (by decide +kernel) (pa_cons (pe_lc (own := [("a", 2), ("b", 3)]) (g := gTup K 2 (gCons (gName 2) (gCons (gName 3) gNil))) (by rfl) sc.nd (pi_zipK (by rfl) m_zip (pa_cons (pv 0) (pa_cons (pv 1) pa_nil))) (blkOk_by (own := [("a", 2), ("b", 3)]) (N := ["one", "other", "a", "b"]) (sc := defScope s_psum) (by decide +kernel)) (fun _ _ _ _ _ => pg_tup (n := 2) (by rfl) (pgs_cons (pg_name (i := 2) sc.nd rfl (Or.inl rfl)) (pgs_cons (pg_name (i := 3) sc.nd rfl (Or.inl rfl)) pgs_nil))) (fun _ _ _ _ _ => pts_nil) (fun _ _ _ _ _ => (pe_op op_mulW (pv 2) (pv 3)))) pa_nil)))), ?_⟩
    refine ⟨.ref a, rfl, .ref b, rfl, false, false, a, b, xs.map V.int, ys.map V.int, rfl, ha.1.t, hb.1.t, fun D nD => ?_⟩
    refine lc_to (walk_zipK (n := xs.length) (by rw [List.length_map, List.length_map]; omega)) ((List.zipWith (· * ·) xs ys).map V.int) (by rw [List.length_map, List.length_zipWith]; omega) (small ha.2.1) nD (fun H' s => ⟨(ha.1.same s).t, (hb.1.same s).t⟩) ?_ ?_
    · rintro i x y H0 H1 Qy hy hi s0 ⟨T, u, v, rfl, nT, rfl, hu, hv⟩ hq
      obtain ⟨z, hz, rfl⟩ := map_get hy
      obtain ⟨p, r, hp, hr', rfl⟩ := zipW_get hz
      obtain ⟨p', hp', rfl⟩ := map_get hu
      obtain ⟨r', hr'', rfl⟩ := map_get hv
      obtain rfl := Option.some.inj (hp.symm.trans hp')
      obtain rfl := Option.some.inj (hr'.symm.trans hr'')
      refine ⟨T, [.int p, .int r], rfl, SqT.of upd_same, rfl, .int p, [.int r], rfl, .int r, [], rfl, rfl, rfl, .int p, rfl, .int r, rfl, p, r, rfl, rfl, ?_, hq _ (same_new nT)⟩
      exact Nat.lt_trans (wide (ha.2.2 _ (List.mem_of_getElem? hp)) (hb.2.2 _ (List.mem_of_getElem? hr'))) (by decide)
    · intro H' s d
      exact ⟨D, List.zipWith (· * ·) xs ys, rfl, SqL.of d, q H' s⟩
theorem ok_fval {f : Addr} {fd : FuncData} (F : Fun K "form_value" "form_value" s_fval f fd) (C_product_sum : Cal P w K mg base 1 "product_sum" ["one", "other"] spPsum) : FnOk P w K mg base CX0 2 f fd ["form", "t"] spFval := by
  have sc := sc_fval
  refine F.ok sc (fun vs H Q E h => ?_) (fun cdv A outer s H vs Q E hr h => ?_)
  · obtain ⟨a, b, c, xs, ys, rfl, _⟩ := h
    rfl
  · obtain ⟨a, b, c, xs, ys, rfl, ha, hb, hl, q⟩ := h
    refine ⟨_, (pss_one (ps_ret (pe_op op_add (pe_ix ix_tup (pv 0) pe_int (fun _ _ => rfl)) (call_ C_product_sum (hr.mono (by decide)) (by rfl) (pa_cons (pe_slice sl_tupA (pv 0) (po_some pe_int) po_none) (pa_cons (pv 1) pa_nil)))))), ?_⟩
    refine ⟨.ref a, rfl, a, _, 0, .int c, rfl, rfl, ha.1.t, atI_nat (j := 0) rfl, .ref a, rfl, 1, rfl, ?_⟩
    unfold tNoPart
    refine slice_tp ha.1 fun r H' s hr' => ?_
    rw [List.map_cons, cut1] at hr'
    refine ⟨.ref b, rfl, r, b, xs, ys, rfl, ⟨hr', ha.tail⟩, hb.same s, hl, fun H2 s2 => ⟨c, dot xs ys, rfl, rfl, q _ (s.trans s2)⟩⟩
end
end K13
/-! Grids: sums, places, one writing. -/
namespace K13
open PySem PySem.Spec PyProof.Rows L2 Vk
/-- f 0 + .. + f (n - 1) -/
def S : Nat → (Nat → Int) → Int
  | 0, _ => 0
  | n + 1, f => S n f + f n
theorem S_congr {f g : Nat → Int} : ∀ n, (∀ j, j < n → f j = g j) → S n f = S n g
  | 0, _ => rfl
  | n + 1, h => by
    show S n f + f n = S n g + g n
    rw [S_congr n fun j hj => h j (Nat.lt_succ_of_lt hj), h n (Nat.lt_succ_self n)]
theorem S_add (f g : Nat → Int) : ∀ n, S n (fun j => f j + g j) = S n f + S n g
  | 0 => rfl
  | n + 1 => by
    show S n (fun j => f j + g j) + (f n + g n) = S n f + f n + (S n g + g n)
    rw [S_add f g n]
    omega
theorem S_sub (f g : Nat → Int) : ∀ n, S n (fun j => f j - g j) = S n f - S n g
  | 0 => rfl
  | n + 1 => by
    show S n (fun j => f j - g j) + (f n - g n) = S n f + f n - (S n g + g n)
    rw [S_sub f g n]
    omega
theorem S_mul (k : Int) (f : Nat → Int) : ∀ n, S n (fun j => k * f j) = k * S n f
  | 0 => (Int.mul_zero k).symm
  | n + 1 => by
    show S n (fun j => k * f j) + k * f n = k * (S n f + f n)
    rw [S_mul k f n, Int.mul_add]
theorem S_mul_r (k : Int) (f : Nat → Int) (n : Nat) : S n (fun j => f j * k) = S n f * k := by
  rw [Int.mul_comm, ← S_mul]
  exact S_congr n fun j _ => Int.mul_comm _ _
theorem S_zero : ∀ n, S n (fun _ => 0) = 0
  | 0 => rfl
  | n + 1 => by
    show S n (fun _ => 0) + 0 = 0
    rw [S_zero n]
    rfl
theorem S_swap (f : Nat → Nat → Int) (m : Nat) : ∀ n, S n (fun j => S m (fun k => f j k)) = S m (fun k => S n (fun j => f j k))
  | 0 => (S_zero m).symm
  | n + 1 => by
    show S n (fun j => S m (fun k => f j k)) + S m (fun k => f n k) = S m (fun k => S n (fun j => f j k) + f n k)
    rw [S_swap f m n, S_add]
/-- one term apart -/
theorem S_put (f g : Nat → Int) (c : Nat) : ∀ n, c < n → (∀ j, j ≠ c → f j = g j) → S n f = S n g + (f c - g c)
  | 0, h, _ => by omega
  | n + 1, h, e => by
    show S n f + f n = S n g + g n + (f c - g c)
    by_cases hc : c = n
    · subst hc
      rw [S_congr c fun j hj => e j (by omega)]
      omega
    · rw [S_put f g c n (by omega) e, e n (by omega)]
      omega
theorem S_cut {f : Nat → Int} (n : Nat) : ∀ m, n ≤ m → (∀ j, n ≤ j → j < m → f j = 0) → S m f = S n f
  | 0, h, _ => by
    obtain rfl : n = 0 := by omega
    rfl
  | m + 1, h, e => by
    by_cases hn : n = m + 1
    · rw [hn]
    · show S m f + f m = S n f
      rw [S_cut n m (by omega) fun j h1 h2 => e j h1 (by omega), e m (by omega) (by omega)]
      omega
/-- tables and tuples, by their places -/
abbrev Mt := Nat → Nat → Int
abbrev Vc := Nat → Int
/-- the sums of a table's rows with y -/
def mv (n : Nat) (b : Mt) (y : Vc) : Vc := fun i => S n fun j => b i j * y j
/-- row steps -/
structure Tri (n : Nat) (b : Mt) : Prop where
  pos : ∀ i, i < n → 0 < b i i
  up : ∀ i j, i < j → j < n → b i j = 0
theorem mv_cut {n : Nat} {b : Mt} (t : Tri n b) (y : Vc) {i : Nat} (hi : i < n) : mv n b y i = S i (fun j => b i j * y j) + b i i * y i := by
  show S n _ = S (i + 1) _
  exact S_cut (i + 1) n (by omega) fun j h1 h2 => by rw [t.up i j (by omega) h2, Int.zero_mul]
/-- at most one place -/
theorem mv_inj {n : Nat} {b : Mt} (t : Tri n b) {y z : Vc} (h : ∀ i, i < n → mv n b y i = mv n b z i) : ∀ i, i < n → y i = z i := by
  intro i
  induction i using Nat.strongRecOn with
  | ind i ih =>
    intro hi
    have e := h i hi
    rw [mv_cut t y hi, mv_cut t z hi, S_congr i fun j hj => by rw [ih j hj (by omega)]] at e
    have p := t.pos i hi
    exact Int.eq_of_mul_eq_mul_left (Int.ne_of_gt p) (by omega)
theorem mv_add (n : Nat) (b : Mt) (y z : Vc) (i : Nat) : mv n b (fun j => y j + z j) i = mv n b y i + mv n b z i := by
  unfold mv
  rw [← S_add]
  exact S_congr n fun j _ => Int.mul_add _ _ _
theorem mv_sub (n : Nat) (b : Mt) (y z : Vc) (i : Nat) : mv n b (fun j => y j - z j) i = mv n b y i - mv n b z i := by
  unfold mv
  rw [← S_sub]
  exact S_congr n fun j _ => Int.mul_sub _ _ _
theorem mv_mv (n : Nat) (b b' : Mt) (y : Vc) (i : Nat) : mv n b (mv n b' y) i = mv n (fun i k => S n fun j => b i j * b' j k) y i := by
  unfold mv
  rw [S_congr n (g := fun j => S n fun k => b i j * b' j k * y k) fun j _ => by
    rw [← S_mul]
    exact S_congr n fun k _ => (Int.mul_assoc _ _ _).symm]
  rw [S_swap]
  exact S_congr n fun k _ => by rw [S_mul_r]
/-- the points of a table with its start in column n -/
def pt (n : Nat) (e : Mt) (y : Vc) : Vc := fun i => e i n + mv n e y i
/-- the same points -/
def Lat (n : Nat) (e e' : Mt) : Prop := (∀ y, ∃ z, ∀ i, i < n → pt n e y i = pt n e' z i) ∧ ∀ z, ∃ y, ∀ i, i < n → pt n e y i = pt n e' z i
theorem Lat.refl (n : Nat) (e : Mt) : Lat n e e := ⟨fun y => ⟨y, fun _ _ => rfl⟩, fun y => ⟨y, fun _ _ => rfl⟩⟩
theorem Lat.trans {n : Nat} {a b c : Mt} (h : Lat n a b) (k : Lat n b c) : Lat n a c := by
  constructor
  · intro y
    obtain ⟨z, hz⟩ := h.1 y
    obtain ⟨x, hx⟩ := k.1 z
    exact ⟨x, fun i hi => (hz i hi).trans (hx i hi)⟩
  · intro x
    obtain ⟨z, hz⟩ := k.2 x
    obtain ⟨y, hy⟩ := h.2 z
    exact ⟨y, fun i hi => (hy i hi).trans (hz i hi)⟩
/-- column c less t times column i, from row i on -/
def opC (e : Mt) (i c : Nat) (t : Int) : Mt := fun r k => if k = c ∧ i ≤ r then e r c - t * e r i else e r k
theorem opC_eq {n : Nat} {e : Mt} {i c : Nat} {t : Int} (hu : ∀ r, r < i → e r i = 0) (r : Nat) : opC e i c t r c = e r c - t * e r i := by
  unfold opC
  by_cases h : i ≤ r
  · rw [if_pos ⟨rfl, h⟩]
  · rw [if_neg (fun z => h z.2), hu r (by omega), Int.mul_zero, Int.sub_zero]
theorem opC_ne {e : Mt} {i c k : Nat} {t : Int} (h : k ≠ c) (r : Nat) : opC e i c t r k = e r k := by
  unfold opC
  rw [if_neg (fun z => h z.1)]
theorem mv_put (n : Nat) (b : Mt) (y : Vc) {i : Nat} (hi : i < n) (d : Int) (r : Nat) : mv n b (fun j => if j = i then y j + d else y j) r = mv n b y r + b r i * d := by
  unfold mv
  rw [S_put _ (fun j => b r j * y j) i n hi fun j hj => by dsimp only; rw [if_neg hj]]
  dsimp only
  rw [if_pos rfl, Int.mul_add]
  omega
theorem pt_opC {n : Nat} {e : Mt} {i c : Nat} {t : Int} (hi : i < n) (hc : c ≤ n) (ne : c ≠ i) (hu : ∀ r, r < i → e r i = 0) (z : Vc) (r : Nat) :
    pt n (opC e i c t) z r = pt n e (fun j => if j = i then z j + (if c = n then -t else -t * z c) else z j) r := by
  unfold pt
  rw [mv_put n e z hi]
  by_cases h : c = n
  · subst h
    rw [opC_eq (n := c) hu, if_pos rfl]
    have e1 : mv c (opC e i c t) z r = mv c e z r := by
      unfold mv
      exact S_congr c fun j hj => by rw [opC_ne (by omega)]
    rw [e1, Int.mul_neg, Int.mul_comm t]
    omega
  · rw [opC_ne (fun z => h z.symm), if_neg h]
    have e1 : mv n (opC e i c t) z r = mv n e z r + (-t * e r i) * z c := by
      unfold mv
      rw [S_put _ (fun j => e r j * z j) c n (by omega) fun j hj => by rw [opC_ne hj], opC_eq (n := n) hu, Int.sub_mul, Int.neg_mul, Int.neg_mul]
      omega
    rw [e1, Int.neg_mul, Int.neg_mul, Int.neg_mul, Int.mul_neg, Int.mul_assoc, Int.mul_left_comm]
theorem lat_opC {n : Nat} {e : Mt} {i c : Nat} {t : Int} (hi : i < n) (hc : c ≤ n) (ne : c ≠ i) (hu : ∀ r, r < i → e r i = 0) : Lat n e (opC e i c t) := by
  constructor
  · intro y
    refine ⟨fun j => if j = i then y j - (if c = n then -t else -t * y c) else y j, fun r _ => ?_⟩
    rw [pt_opC hi hc ne hu]
    refine congrArg (fun v => pt n e v r) (funext fun j => ?_)
    by_cases hj : j = i
    · subst hj
      rw [if_pos rfl, if_pos rfl, if_neg ne]
      omega
    · rw [if_neg hj, if_neg hj]
  · intro z
    exact ⟨_, fun r _ => (pt_opC hi hc ne hu z r).symm⟩
/-- rows below i reduced: what _one_writing keeps -/
structure Red (n i : Nat) (e0 e : Mt) : Prop where
  tri : Tri n e
  lat : Lat n e0 e
  dia : ∀ r, r < n → e r r = e0 r r
  row : ∀ r, r < i → r < n → (0 ≤ e r n ∧ e r n < e r r) ∧ ∀ c, c < r → 0 ≤ e r c ∧ e r c < e r r
/-- in row i, the columns before c reduced, and column n, if told -/
structure Mid (n i : Nat) (d : Nat → Prop) (e0 e : Mt) : Prop where
  red : Red n i e0 e
  col : ∀ c, d c → 0 ≤ e i c ∧ e i c < e i i
theorem Red.start {n : Nat} {e : Mt} (t : Tri n e) : Red n 0 e e := ⟨t, .refl n e, fun _ _ => rfl, fun r h => by omega⟩
theorem Mid.start {n i : Nat} {e0 e : Mt} (h : Red n i e0 e) : Mid n i (fun _ => False) e0 e := ⟨h, fun c h => h.elim⟩
theorem Mid.step {n i : Nat} {d : Nat → Prop} {e0 e : Mt} (h : Mid n i d e0 e) {c : Nat} (hi : i < n) (hc : c < i ∨ c = n) (nd : ¬ d c) (hd : ∀ k, d k → k < i ∨ k = n) : Mid n i (fun k => d k ∨ k = c) e0 (opC e i c ((e i c).fdiv (e i i))) := by
  have cn : c ≠ i := by omega
  have p := h.red.tri.pos i hi
  have hu : ∀ r, r < i → e r i = 0 := fun r hr => h.red.tri.up r i hr hi
  have ii : ∀ r k, k ≠ c → opC e i c ((e i c).fdiv (e i i)) r k = e r k := fun r k hk => opC_ne hk r
  have lo : ∀ r k, r < i → opC e i c ((e i c).fdiv (e i i)) r k = e r k := fun r k hr => by
    unfold opC
    rw [if_neg (fun z => by omega)]
  refine ⟨⟨⟨fun r hr => ?_, fun r j h1 h2 => ?_⟩, h.red.lat.trans (lat_opC hi (by omega) cn hu), fun r hr => ?_, fun r h1 h2 => ?_⟩, fun k hk => ?_⟩
  · by_cases hrc : r = c
    · rw [lo r r (by omega)]
      exact h.red.tri.pos r hr
    · rw [ii r r hrc]
      exact h.red.tri.pos r hr
  · by_cases hjc : j = c
    · rw [lo r j (by omega)]
      exact h.red.tri.up r j h1 h2
    · rw [ii r j hjc]
      exact h.red.tri.up r j h1 h2
  · by_cases hrc : r = c
    · rw [lo r r (by omega)]
      exact h.red.dia r hr
    · rw [ii r r hrc]
      exact h.red.dia r hr
  · rw [lo r n h1, lo r r h1]
    refine ⟨(h.red.row r h1 h2).1, fun k hk => ?_⟩
    rw [lo r k h1]
    exact (h.red.row r h1 h2).2 k hk
  · rw [ii i i (fun z => cn z.symm)]
    by_cases hkc : k = c
    · subst hkc
      rw [opC_eq (n := n) hu, Int.mul_comm]
      have q := Int.mul_fdiv_add_fmod (e i k) (e i i)
      have q1 := Int.fmod_lt_of_pos (e i k) p
      have q2 := Int.fmod_nonneg_of_pos (e i k) p
      omega
    · rw [ii i k hkc]
      exact h.col k (hk.resolve_right hkc)
theorem Mid.done {n i : Nat} {d : Nat → Prop} {e0 e : Mt} (h : Mid n i d e0 e) (hd : ∀ c, c < i ∨ c = n → d c) : Red n (i + 1) e0 e := by
  refine ⟨h.red.tri, h.red.lat, h.red.dia, fun r h1 h2 => ?_⟩
  by_cases hr : r = i
  · subst hr
    exact ⟨h.col n (hd n (.inr rfl)), fun c hc => h.col c (hd c (.inl hc))⟩
  · exact h.red.row r (by omega) h2
end K13
namespace K13
open PySem PySem.Spec PyProof.Rows L2 Vk
abbrev s_led : Stmt := topS 3
theorem sc_led : FnScope ["form", "forms", "n", "total", "factor", "inner", "a", "b"] ["form", "forms", "n"] (defScope s_led) := ⟨rfl, rfl, rfl, by decide +kernel, rfl, by decide +kernel, by decide +kernel⟩
abbrev s_putin : Stmt := topS 4
theorem sc_putin : FnScope ["form", "forms", "n"] ["form", "forms", "n"] (defScope s_putin) := ⟨rfl, rfl, rfl, by decide +kernel, rfl, by decide +kernel, by decide +kernel⟩
abbrev s_gforms : Stmt := topS 8
theorem sc_gforms : FnScope ["grid", "table", "s", "start", "row"] ["grid"] (defScope s_gforms) := ⟨rfl, rfl, rfl, by decide +kernel, rfl, by decide +kernel, by decide +kernel⟩
abbrev s_pat : Stmt := topS 9
theorem sc_pat : FnScope ["grid", "y", "form"] ["grid", "y"] (defScope s_pat) := ⟨rfl, rfl, rfl, by decide +kernel, rfl, by decide +kernel, by decide +kernel⟩
/-- a comprehension that makes a new thing for each place -/
theorem lc_objs {J : It} {n : Nat} {G : Hp → Prop} {Y : Nat → Hp → V → Hp → Prop} (w : Walk J n G Y) {g : TG} {te : TE} {vs : List Nat} {σ : L2.St} {H1 : Hp} {D : Addr} {Qd : Hp → Prop} (o : Nat → HO) (hz : n < sizeLine) (nD : H1 D = none)
    (hG : ∀ H, Same H1 H → G H)
    (hs : ∀ (i : Nat) (x : V) (H H' : Hp) (Qy : VK), i < n → Same H1 H → Y i H x H' → (∀ p H4, Same H H4 → H p = none → H4 p = some (o i) → Qy (.ref p) H4) → g x (wipe σ vs) H' fun σ2 H2 => wipe σ2 vs = wipe σ vs ∧ te σ2 H2 Qy)
    (hd : ∀ H (ps : List Addr), Same H1 H → H D = some (.lst (ps.map V.ref)) → ps.length = n → ps.Nodup → (∀ p ∈ ps, H1 p = none) → (∀ (i : Nat) (p : Addr), ps[i]? = some p → H p = some (o i)) → Qd H) :
    ∃ W : Nat → Nat → Hp → Prop, (∃ m, W 0 m (upd H1 D (.lst []))) ∧ ∀ i m H, W i m H →
      (J.stop i H ∧ Qd H) ∨ (J.go i H ∧ ∃ Nx : Hp → Prop, (∀ H', Nx H' → ∃ m', m' < m ∧ W (i + 1) m' H') ∧ ∀ x H', J.yld i H x H' → g x (wipe σ vs) H' fun σ2 H2 => wipe σ2 vs = wipe σ vs ∧ tYes σ2 H2 fun b H3 =>
        if b = true then te σ2 H3 fun y H4 => ∃ acc, H4 D = some (.lst acc) ∧ acc.length < sizeLine ∧ Nx (upd H4 D (.lst (acc ++ [y]))) else Nx H3) := by
  refine lc_it w (tt := tYes) (fun i H => ∃ ps : List Addr, Same H1 H ∧ H D = some (.lst (ps.map V.ref)) ∧ ps.length = i ∧ ps.Nodup ∧ (∀ p ∈ ps, H1 p = none ∧ p ≠ D) ∧ ∀ (j : Nat) (p : Addr), ps[j]? = some p → H p = some (o j))
    ⟨[], same_new nD, upd_same, rfl, List.nodup_nil, fun p hp => (by cases hp), fun j p h => by cases h⟩ (fun i H _ p => by obtain ⟨_, s, _⟩ := p; exact hG H s) ?_ ?_
  · rintro i x H H' hi ⟨ps, s, d, l, nd, fr, ob⟩ y
    refine hs i x H H' (fun y H4 => ∃ acc, H4 D = some (.lst acc) ∧ acc.length < sizeLine ∧ ∃ ps : List Addr, Same H1 (upd H4 D (.lst (acc ++ [y]))) ∧ upd H4 D (.lst (acc ++ [y])) D = some (.lst (ps.map V.ref)) ∧ ps.length = i + 1 ∧ ps.Nodup ∧ (∀ p ∈ ps, H1 p = none ∧ p ≠ D) ∧ ∀ (j : Nat) (p : Addr), ps[j]? = some p → upd H4 D (.lst (acc ++ [y])) p = some (o j)) hi s y fun p H4 s4 np hp => ?_
    have pD : p ≠ D := Ne.symm (ne_of_none d np)
    refine ⟨ps.map V.ref, s4 _ _ d, by rw [List.length_map]; omega, ps ++ [p], same_put (s.trans s4) nD, by rw [upd_same, List.map_append]; rfl, by rw [List.length_append, l]; rfl, ?_, ?_, ?_⟩
    · rw [List.nodup_append]
      refine ⟨nd, List.nodup_cons.mpr ⟨List.not_mem_nil, List.nodup_nil⟩, fun a ha b hb => ?_⟩
      rw [List.mem_singleton] at hb
      subst hb
      rintro rfl
      obtain ⟨j, hj⟩ := List.getElem?_of_mem ha
      have := ob j a hj
      rw [np] at this
      cases this
    · intro a ha
      rcases List.mem_append.mp ha with h | h
      · exact fr a h
      · rw [List.mem_singleton] at h
        subst h
        exact ⟨s.free np, pD⟩
    · intro j a ha
      by_cases hj : j < ps.length
      · rw [List.getElem?_append_left hj] at ha
        rw [upd_ne (fr a (List.mem_of_getElem? ha)).2]
        exact s4 _ _ (ob j a ha)
      · have hj2 := (List.getElem?_eq_some_iff.mp ha).1
        rw [List.length_append] at hj2
        have hj3 : j = ps.length := by
          simp only [List.length_cons, List.length_nil] at hj2
          omega
        subst hj3
        rw [List.getElem?_append_right (Nat.le_refl _), Nat.sub_self] at ha
        obtain rfl := Option.some.inj ha
        rw [upd_ne pD, l]
        exact hp
  · rintro H ⟨ps, s, d, l, nd, fr, ob⟩
    exact hd H ps s d l nd (fun p hp => (fr p hp).1) ob
/-- a grid that stands in the heap -/
def Gr (H : Hp) (g : Addr) (B : List (List Int)) (s : List Int) : Prop := ∃ tb ts ps, Tp H g [.ref tb, .ref ts] ∧ Tp H tb (ps.map V.ref) ∧ Rws H ps B B.length ∧ Row H ts s ∧ s.length = B.length
theorem Gr.same {H H' : Hp} {g : Addr} {B : List (List Int)} {s : List Int} (h : Gr H g B s) (e : Same H H') : Gr H' g B s := by
  obtain ⟨tb, ts, ps, h1, h2, h3, h4, h5⟩ := h
  exact ⟨tb, ts, ps, h1.same e, h2.same e, h3.same e, h4.same e, h5⟩
/-- several forms in a tuple -/
def Fs (H : Hp) (a : Addr) (fs : List (List Int)) (n : Nat) : Prop := ∃ ps, Tp H a (ps.map V.ref) ∧ Rws H ps fs n
theorem Fs.same {H H' : Hp} {a : Addr} {fs : List (List Int)} {n : Nat} (h : Fs H a fs n) (s : Same H H') : Fs H' a fs n := by
  obtain ⟨ps, h1, h2⟩ := h
  exact ⟨ps, h1.same s, h2.same s⟩
def gforms (B : List (List Int)) (s : List Int) : List (List Int) := List.zipWith (fun a r => a :: r) s B
theorem gforms_len {B : List (List Int)} {s : List Int} (h : s.length = B.length) : (gforms B s).length = B.length := by
  unfold gforms
  rw [List.length_zipWith, h, Nat.min_self]
theorem gforms_get {B : List (List Int)} {s : List Int} {i : Nat} {r : List Int} (h : (gforms B s)[i]? = some r) : ∃ a b, s[i]? = some a ∧ B[i]? = some b ∧ r = a :: b := by
  unfold gforms at h
  rw [List.getElem?_zipWith] at h
  cases h1 : s[i]? with
  | none => rw [h1] at h; cases h
  | some a =>
    cases h2 : B[i]? with
    | none => rw [h1, h2] at h; cases h
    | some b =>
      rw [h1, h2] at h
      exact ⟨a, b, rfl, rfl, (Option.some.inj h).symm⟩
def spGforms : Sp := fun vs H Q _ => ∃ (g : Addr) (B : List (List Int)) (s : List Int), vs = [.ref g] ∧ Gr H g B s ∧ B.length ≤ 9 ∧ ∀ r H', Same H H' → Fs H' r (gforms B s) (B.length + 1) → Q (.ref r) H'
section
variable {P : Program} {w : World} {K : PySem.W.Frag} {mg : Str → Option Value} {base : Heap}
theorem ok_gforms {f : Addr} {fd : FuncData} (F : Fun K "grid_forms" "grid_forms" s_gforms f fd) (m_tuple : mg "tuple" = none) (m_zip : mg "zip" = none) : FnOk P w K mg base CX0 1 f fd ["grid"] spGforms := by
  have sc := sc_gforms
  refine F.ok sc (fun vs H Q E h => ?_) (fun cdv A outer s H vs Q E hr h => ?_)
  · obtain ⟨g, B, s, rfl, _⟩ := h
    rfl
  · obtain ⟨g, B, s, rfl, ⟨tb, ts, ps, h1, h2, h3, h4, h5⟩, hl, q⟩ := h
    refine ⟨_, (pss_cons (ps_asg (pv 0) (pg_tup (n := 2) (by rfl) (pgs_cons (pg_name (i := 1) sc.nd rfl (Or.inl rfl)) (pgs_cons (pg_name (i := 2) sc.nd rfl (Or.inl rfl)) pgs_nil))))
    (pss_one (ps_ret (pe_callTy call_tuple_of (by rfl) m_tuple (by decide +kernel) (pa_cons (pe_lc (own := [("start", 3), ("row", 4)]) (g := gTup K 2 (gCons (gName 3) (gCons (gName 4) gNil))) (by rfl) sc.nd (pi_zipK (by rfl) m_zip (pa_cons (pv 2) (pa_cons (pv 1) pa_nil))) (blkOk_by (own := [("start", 3), ("row", 4)]) (N := ["grid", "table", "s", "start", "row"]) (sc := defScope s_gforms) (by decide +kernel)) (fun _ _ _ _ _ => pg_tup (n := 2) (by rfl) (pgs_cons (pg_name (i := 3) sc.nd rfl (Or.inl rfl)) (pgs_cons (pg_name (i := 4) sc.nd rfl (Or.inl rfl)) pgs_nil))) (fun _ _ _ _ _ => pts_nil) (fun _ _ _ _ _ => (pe_tup (pa_cons (pv 3) (pa_starK (K := K) rfl (pv 4) pa_nil))))) pa_nil))))), ?_⟩
    refine ⟨.ref g, rfl, g, _, rfl, h1.t, rfl, .ref tb, [.ref ts], rfl, .ref ts, [], rfl, rfl, ?_⟩
    refine ⟨.ref ts, rfl, .ref tb, rfl, false, false, ts, tb, s.map V.int, ps.map V.ref, rfl, h4.1.t, h2.t, fun D nD => ?_⟩
    refine lc_objs (walk_zipK (n := B.length) (by rw [List.length_map, List.length_map, h3.1]; omega)) (fun i => .tup (((gforms B s).getD i []).map V.int)) (small (by omega)) nD (fun H' s => ⟨(h4.1.same s).t, (h2.same s).t⟩) ?_ ?_
    · rintro i x H0 H1 Qy hi s0 ⟨T, u, v, rfl, nT, rfl, hu, hv⟩ hq
      obtain ⟨c, hc, rfl⟩ := map_get hu
      obtain ⟨p, hp, rfl⟩ := map_get hv
      obtain ⟨r, hr⟩ : ∃ r, B[i]? = some r := ⟨_, List.getElem?_eq_getElem hi⟩
      obtain ⟨R, lr⟩ := h3.2 i p r hp hr
      have eg : (gforms B s).getD i [] = c :: r := by
        rw [List.getD_eq_getElem?_getD]
        unfold gforms
        rw [List.getElem?_zipWith, hc, hr]
        rfl
      rw [eg] at hq
      have s1 : Same H0 (upd H0 T (.tup [.int c, .ref p])) := same_new nT
      refine ⟨T, [.int c, .ref p], rfl, SqT.of upd_same, rfl, .int c, [.ref p], rfl, .ref p, [], rfl, rfl, rfl, .int c, rfl, .ref p, rfl, ?_⟩
      refine ⟨p, _, rfl, .inl ((R.1.same s0).same s1).t, ?_⟩
      refine ⟨by show (_ :: _).length ≤ _; rw [List.length_cons, List.length_append, List.length_map]; exact Nat.le_of_lt (small (by show r.length + 0 + 1 ≤ 100; omega)), fun T2 nT2 => ?_⟩
      refine hq T2 _ (s1.trans (same_new nT2)) (s1.free nT2) ?_
      rw [upd_same, List.append_nil]
      rfl
    · intro H' qs s1 d l nd fr ob
      refine ⟨D, _, rfl, .inl ⟨SqL.of d, fun T nT => ?_⟩⟩
      have s2 := same_new (o := .tup (qs.map V.ref)) nT
      refine q T _ (s1.trans s2) ⟨qs, upd_same, ⟨by rw [l, gforms_len h5], fun i p r hp hr => ?_⟩⟩
      obtain ⟨c, b, hc, hb, rfl⟩ := gforms_get hr
      have ho := ob i p hp
      have eg : (gforms B s).getD i [] = c :: b := by
        rw [List.getD_eq_getElem?_getD, hr]
        rfl
      rw [eg] at ho
      have hi : i < ps.length := by
        rw [h3.1]
        exact (List.getElem?_eq_some_iff.mp hb).1
      obtain ⟨R, lr⟩ := h3.2 i ps[i] b (List.getElem?_eq_getElem hi) hb
      refine ⟨⟨s2 _ _ ho, by rw [List.length_cons]; omega, fun x hx => ?_⟩, by rw [List.length_cons, lr]⟩
      rcases List.mem_cons.mp hx with rfl | h
      · exact h4.2.2 _ (List.mem_of_getElem? hc)
      · exact R.2.2 x h
end
end K13
namespace K13
open PySem PySem.Spec PyProof.Rows L2 Vk
def putI (c : Int) (cs : List Int) (rows : List (List Int)) (n : Nat) : Nat → List Int
  | 0 => c :: List.replicate n 0
  | i + 1 => List.zipWith (fun a b => a + cs.getD i 0 * b) (putI c cs rows n i) (rows.getD i [])
theorem putI_len {c : Int} {cs : List Int} {rows : List (List Int)} {n : Nat} (h : ∀ (i : Nat) (r : List Int), rows[i]? = some r → r.length = n + 1) : ∀ i, i ≤ rows.length → (putI c cs rows n i).length = n + 1
  | 0, _ => by simp [putI]
  | i + 1, hi => by
    have e := putI_len (c := c) (cs := cs) h i (by omega)
    have hr : rows[i]? = some rows[i] := List.getElem?_eq_getElem (by omega)
    have e2 := h i _ hr
    unfold putI
    rw [List.length_zipWith, e, List.getD_eq_getElem?_getD, hr]
    show min (n + 1) (rows[i].length) = n + 1
    omega
def spPutin : Sp := fun vs H Q _ => ∃ (a b : Addr) (n : Nat) (c : Int) (cs : List Int) (ps : List Addr) (rows : List (List Int)), vs = [.ref a, .ref b, .int n] ∧ n ≤ 90 ∧ Row H a (c :: cs) ∧ Tp H b (ps.map V.ref) ∧ Rws H ps rows (n + 1) ∧ cs.length = rows.length ∧
  ∀ r H', Same H H' → Tp H' r ((putI c cs rows n cs.length).map V.int) → Q (.ref r) H'
theorem flat1 (n : Nat) (x : V) : (List.replicate n [x]).flatten = List.replicate n x := by
  induction n with
  | zero => rfl
  | succ n ih => rw [List.replicate_succ, List.flatten_cons, ih]; rfl
theorem zip_len (l1 l2 : List V) (n : Nat) (h1 : l1.length = n) (h2 : l2.length = n) : n = min l1.length l2.length := by omega
section
variable {P : Program} {w : World} {K : PySem.W.Frag} {mg : Str → Option Value} {base : Heap}
theorem ok_led {f : Addr} {fd : FuncData} (F : Fun K "led_form" "led_form" s_led f fd) (m_tuple : mg "tuple" = none) (m_zip : mg "zip" = none) : FnOk P w K mg base CX0 1 f fd ["form", "forms", "n"] spPutin := by
  have sc := sc_led
  refine F.ok sc (fun vs H Q E h => ?_) (fun cdv A outer s H vs Q E hr h => ?_)
  · obtain ⟨a, b, n, c, cs, ps, rows, rfl, _⟩ := h
    rfl
  · obtain ⟨a, b, n, c, cs, ps, rows, rfl, hn, ha, hb, hR, hl, q⟩ := h
    refine ⟨_, (pss_cons (ps_set (i := 3) sc.nd rfl (Or.inl rfl) (pe_op op_cat (pe_lst (pa_cons (pe_ix ix_tup (pv 0) pe_int (fun _ _ => rfl)) pa_nil)) (pe_op op_rep (pe_lst (pa_cons pe_int pa_nil)) (pv 2))))
    (pss_cons (ps_for PassesOwn.never rfl (pi_zipK (by rfl) m_zip (pa_cons (pe_slice sl_tupA (pv 0) (po_some pe_int) po_none) (pa_cons (pv 1) pa_nil))) (pg_tup (n := 2) (by rfl) (pgs_cons (pg_name (i := 4) sc.nd rfl (Or.inr rfl)) (pgs_cons (pg_name (i := 5) sc.nd rfl (Or.inl rfl)) pgs_nil)))
      (pss_one (ps_if (pt_cmpR op_ne (pv 4) pe_int (nomark _))
      (pss_one (ps_setLc (i := 3) (own := [("a", 6), ("b", 7)]) (g := gTup K 2 (gCons (gName 6) (gCons (gName 7) gNil))) (by rfl) sc.nd rfl rfl (sw_true rfl rfl rfl (by decide +kernel)) (pi_zipK (by rfl) m_zip (pa_cons (pv 3) (pa_cons (pv 5) pa_nil))) (blkOk_by (own := [("a", 6), ("b", 7)]) (N := ["form", "forms", "n", "total", "factor", "inner", "a", "b"]) (sc := defScope s_led) (by decide +kernel)) (fun _ _ _ _ _ => pg_tup (n := 2) (by rfl) (pgs_cons (pg_name (i := 6) sc.nd rfl (Or.inl rfl)) (pgs_cons (pg_name (i := 7) sc.nd rfl (Or.inl rfl)) pgs_nil))) (fun _ _ _ _ _ => pts_nil) (fun _ _ _ _ _ => (pe_op op_add (pv 6) (pe_op op_mulW (pv 4) (pv 7))))))
      pss_nil)))
    (pss_one (ps_ret (pe_callTy call_tuple_of (by rfl) m_tuple (by decide +kernel) (pa_cons (pv 3) pa_nil)))))), ?_⟩
    have hrl : ∀ (i : Nat) (r : List Int), rows[i]? = some r → r.length = n + 1 := fun i r hr => by
      have hi : i < rows.length := (List.getElem?_eq_some_iff.mp hr).1
      have hp : i < ps.length := by rw [hR.1]; exact hi
      exact (hR.2 i ps[i] r (List.getElem?_eq_getElem hp) hr).2
    refine ⟨.ref a, rfl, a, _, 0, .int c, rfl, rfl, ha.1.t, atI_nat (j := 0) rfl, by show 1 ≤ sizeLine; decide, fun p1 n1 => ?_⟩
    have s1 : Same H (upd H p1 (.lst [.int c])) := same_new n1
    have g1 : upd H p1 (.lst [.int c]) p1 = some (.lst [.int c]) := upd_same
    generalize upd H p1 (.lst [.int c]) = H1 at s1 g1 ⊢
    refine ⟨by show 1 ≤ sizeLine; decide, fun p2 n2 => ?_⟩
    have s2 : Same H1 (upd H1 p2 (.lst [.int 0])) := same_new n2
    have g2 : upd H1 p2 (.lst [.int 0]) p2 = some (.lst [.int 0]) := upd_same
    generalize upd H1 p2 (.lst [.int 0]) = H2 at s2 g2 ⊢
    refine ⟨.int n, rfl, p2, n, [.int 0], rfl, rfl, g2, by omega, by omega, Nat.le_of_lt (small (by show 1 * n ≤ 100; omega)), fun p3 n3 => ?_⟩
    have e3 : (List.replicate (n : Int).toNat [V.int 0]).flatten = (List.replicate n (0 : Int)).map V.int := by
      rw [Int.toNat_natCast, flat1, List.map_replicate]
    rw [e3]
    have s3 : Same H2 (upd H2 p3 (.lst ((List.replicate n (0 : Int)).map V.int))) := same_new n3
    have g3 : upd H2 p3 (.lst ((List.replicate n (0 : Int)).map V.int)) p3 = some (.lst ((List.replicate n (0 : Int)).map V.int)) := upd_same
    generalize upd H2 p3 (.lst ((List.replicate n (0 : Int)).map V.int)) = H3 at s3 g3 ⊢
    refine ⟨p1, p3, [.int c], _, rfl, rfl, s3 _ _ (s2 _ _ g1), g3, Nat.le_of_lt (small (by rw [List.length_map, List.length_replicate]; show 1 + n ≤ 100; omega)), fun D0 nD0 => ?_⟩
    have s4 : Same H3 (upd H3 D0 (.lst ([.int c] ++ (List.replicate n (0 : Int)).map V.int))) := same_new nD0
    have g4 : upd H3 D0 (.lst ([.int c] ++ (List.replicate n (0 : Int)).map V.int)) D0 = some (.lst ((putI c cs rows n 0).map V.int)) := upd_same
    generalize upd H3 D0 (.lst ([.int c] ++ (List.replicate n (0 : Int)).map V.int)) = H4 at s4 g4 ⊢
    have s04 := ((s1.trans s2).trans s3).trans s4
    clear s1 s2 s3 s4 g1 g2 g3 n1 n2 n3 nD0
    refine ⟨.ref a, rfl, 1, rfl, ?_⟩
    unfold tNoPart
    refine slice_tp (ha.1.same s04) fun r H5 s5 hr5 => ?_
    rw [List.map_cons, cut1] at hr5
    refine ⟨.ref b, rfl, false, false, r, b, cs.map V.int, ps.map V.ref, rfl, hr5.t, (hb.same (s04.trans s5)).t, ?_⟩
    have s05 := s04.trans s5
    have g5 := s5 _ _ g4
    refine for_it (walk_zipK (n := cs.length) (zip_len _ _ _ (List.length_map ..) (by rw [List.length_map, hR.1, hl])))
      (fun i σ H' => (∃ D y4 y5 y6 y7, σ = [some (.ref a), some (.ref b), some (.int n), some (.ref D), y4, y5, y6, y7] ∧ H' D = some (.lst ((putI c cs rows n i).map V.int))) ∧ Same H5 H')
      ⟨⟨D0, none, none, none, none, rfl, g5⟩, Same.refl _⟩ (fun i σ H' _ p => ⟨(hr5.same p.2).t, (hb.same (s05.trans p.2)).t⟩) ?_ ?_
    · rintro i x σ H' H6 hi ⟨⟨D, y4, y5, y6, y7, rfl, gD⟩, sH⟩ ⟨T, u, v, rfl, nT, rfl, hu, hv⟩
      obtain ⟨fc, hf, rfl⟩ := map_get hu
      obtain ⟨p, hp, rfl⟩ := map_get hv
      have hir : i < rows.length := by omega
      have hrow : rows[i]? = some rows[i] := List.getElem?_eq_getElem hir
      obtain ⟨Rp, lp⟩ := hR.2 i p _ hp hrow
      have sT : Same H' (upd H' T (.tup [.int fc, .ref p])) := same_new nT
      have s06 := (s05.trans sH).trans sT
      refine ⟨T, [.int fc, .ref p], rfl, SqT.of upd_same, rfl, .int fc, [.ref p], rfl, .ref p, [], rfl, rfl, ?_⟩
      have sH6 := sH.trans sT
      have gD := sT _ _ gD
      generalize upd H' T (.tup [.int fc, .ref p]) = H6 at sT s06 sH6 gD ⊢
      have step : putI c cs rows n (i + 1) = List.zipWith (fun a b => a + fc * b) (putI c cs rows n i) rows[i] := by
        show List.zipWith (fun a b => a + cs.getD i 0 * b) (putI c cs rows n i) (rows.getD i []) = _
        rw [List.getD_eq_getElem?_getD, List.getD_eq_getElem?_getD, hf, hrow]
        rfl
      have lI : (putI c cs rows n i).length = n + 1 := putI_len hrl i (by omega)
      refine ⟨.int fc, rfl, rfl, _, rfl, ite2 (fun e => ?_) (fun e => ?_)⟩
      · refine ⟨.ref D, rfl, .ref p, rfl, true, false, D, p, _, _, rfl, SqL.of gD, (Rp.same s06).1.t, fun E nE => ?_⟩
        refine lc_to (walk_zipK (n := n + 1) (zip_len _ _ _ (by rw [List.length_map, lI]) (by rw [List.length_map, lp]))) ((putI c cs rows n (i + 1)).map V.int) (by rw [List.length_map, step, List.length_zipWith, lI, lp]; omega) (small (by omega)) nE (fun H7 s7 => ⟨SqL.of (s7 _ _ gD), ((Rp.same s06).1.same s7).t⟩) ?_ ?_
        · rintro j x y H7 H8 Qy hy hj s7 ⟨T2, u2, v2, rfl, nT2, rfl, hu2, hv2⟩ hq
          obtain ⟨z, hz, rfl⟩ := map_get hy
          rw [step] at hz
          obtain ⟨a1, b1, ha1, hb1, rfl⟩ := zipW_get hz
          obtain ⟨a2, ha2, rfl⟩ := map_get hu2
          obtain ⟨b2, hb2, rfl⟩ := map_get hv2
          obtain rfl := Option.some.inj (ha1.symm.trans ha2)
          obtain rfl := Option.some.inj (hb1.symm.trans hb2)
          refine ⟨T2, [.int a1, .int b1], rfl, SqT.of upd_same, rfl, .int a1, [.int b1], rfl, .int b1, [], rfl, rfl, rfl, .int a1, rfl, .int fc, rfl, .int b1, rfl, fc, b1, rfl, rfl, ?_, _, _, rfl, rfl, hq _ (same_new nT2)⟩
          exact Nat.lt_trans (wide (ha.tail.2 _ (List.mem_of_getElem? hf)) (Rp.2.2 _ (List.mem_of_getElem? hb1))) (by decide)
        · intro H7 s7 d7
          exact ⟨⟨E, _, _, _, _, rfl, d7⟩, sH6.trans s7⟩
      · have f0 : fc = 0 := by
          by_cases z : fc = 0
          · exact z
          · refine absurd ?_ e
            rw [decide_eq_false (fun y => z (V.int.inj y))]
            rfl
        refine ⟨⟨D, _, _, _, _, rfl, ?_⟩, sH6⟩
        have e0 : putI c cs rows n (i + 1) = putI c cs rows n i := by
          rw [step, f0]
          apply List.ext_getElem?
          intro j
          rw [List.getElem?_zipWith]
          by_cases hj : j < n + 1
          · rw [List.getElem?_eq_getElem (by omega : j < (putI c cs rows n i).length), List.getElem?_eq_getElem (by omega : j < rows[i].length)]
            simp
          · rw [List.getElem?_eq_none (by omega : (putI c cs rows n i).length ≤ j)]
        rw [e0]
        exact gD
    · rintro σ H' ⟨⟨D, y4, y5, y6, y7, rfl, gD⟩, sH⟩
      exact ⟨.ref D, rfl, D, _, rfl, .inl ⟨SqL.of gD, fun l nl => q l _ ((s05.trans sH).trans (same_new nl)) upd_same⟩⟩

theorem ok_putin {f : Addr} {fd : FuncData} (F : Fun K "put_in" "put_in" s_putin f fd) (C_led_form : Cal P w K mg base 1 "led_form" ["form", "forms", "n"] spPutin) : FnOk P w K mg base CX0 2 f fd ["form", "forms", "n"] spPutin := by
  have sc := sc_putin
  refine F.ok sc (fun vs H Q E h => ?_) (fun cdv A outer s H vs Q E hr h => ?_)
  · obtain ⟨a, b, n, c, cs, ps, rows, rfl, _⟩ := h
    rfl
  · obtain ⟨a, b, n, c, cs, ps, rows, rfl, hn, ha, hb, hR, hl, q⟩ := h
    refine ⟨_, (pss_one (ps_ret (call_ C_led_form (hr.mono (by decide)) (by rfl) (pa_cons (pv 0) (pa_cons (pv 1) (pa_cons (pv 2) pa_nil)))))), ?_⟩
    exact ⟨.ref a, rfl, .ref b, rfl, .int n, rfl, a, b, n, c, cs, ps, rows, rfl, hn, ha, hb, hR, hl, q⟩
end
end K13
namespace K13
open PySem PySem.Spec PyProof.Rows L2 Vk
abbrev s_unw : Stmt := topS 10
theorem sc_unw : FnScope ["table", "column", "y", "i", "row", "rest"] ["table", "column"] (defScope s_unw) := ⟨rfl, rfl, rfl, by decide +kernel, rfl, by decide +kernel, by decide +kernel⟩
abbrev s_pin : Stmt := topS 11
theorem sc_pin : FnScope ["grid", "t", "table", "s", "a", "b"] ["grid", "t"] (defScope s_pin) := ⟨rfl, rfl, rfl, by decide +kernel, rfl, by decide +kernel, by decide +kernel⟩
def dg (B : List (List Int)) (i : Nat) : Int := (B.getD i []).getD i 0
theorem row_at {H : Hp} {ps : List Addr} {B : List (List Int)} (hR : Rws H ps B B.length) {i : Nat} (hi : i < B.length) : ∃ p, ps[i]? = some p ∧ Row H p (B.getD i []) ∧ (B.getD i []).length = B.length ∧ (B.getD i [])[i]? = some (dg B i) := by
  have hrow : B[i]? = some B[i] := List.getElem?_eq_getElem hi
  have hp : i < ps.length := by rw [hR.1]; exact hi
  have e1 : B.getD i [] = B[i] := by
    rw [List.getD_eq_getElem?_getD, hrow]
    rfl
  obtain ⟨Rp, lp⟩ := hR.2 i ps[i] _ (List.getElem?_eq_getElem hp) hrow
  refine ⟨ps[i], List.getElem?_eq_getElem hp, by rw [e1]; exact Rp, by rw [e1]; exact lp, ?_⟩
  have e : B[i][i]? = some B[i][i] := List.getElem?_eq_getElem (by omega)
  unfold dg
  rw [e1, e]
  congr 1
  rw [List.getD_eq_getElem?_getD, e]
  rfl
/-- the place of v, step by step -/
def unwI (B : List (List Int)) (v : List Int) : Nat → Option (List Int)
  | 0 => some []
  | i + 1 => (unwI B v i).bind fun y => if (v.getD i 0 - dot (B.getD i []) y).fmod (dg B i) = 0 then some (y ++ [(v.getD i 0 - dot (B.getD i []) y).fdiv (dg B i)]) else none
theorem unwI_len {B : List (List Int)} {v : List Int} : ∀ i y, unwI B v i = some y → y.length = i
  | 0, y, h => by
    obtain rfl := Option.some.inj h
    rfl
  | i + 1, y, h => by
    have h : (unwI B v i).bind _ = some y := h
    cases e : unwI B v i with
    | none => rw [e] at h; cases h
    | some z =>
      rw [e] at h
      have h : (if (v.getD i 0 - dot (B.getD i []) z).fmod (dg B i) = 0 then some (z ++ [(v.getD i 0 - dot (B.getD i []) z).fdiv (dg B i)]) else none) = some y := h
      split at h
      · obtain rfl := Option.some.inj h
        rw [List.length_append, unwI_len i z e]
        rfl
      · cases h
theorem unwI_none {B : List (List Int)} {v : List Int} {i : Nat} (h : unwI B v i = none) : ∀ k, i ≤ k → unwI B v k = none := by
  intro k
  induction k with
  | zero =>
    intro hk
    obtain rfl : i = 0 := by omega
    exact h
  | succ k ih =>
    intro hk
    by_cases e : i = k + 1
    · subst e
      exact h
    · show (unwI B v k).bind _ = none
      rw [ih (by omega)]
      rfl
def spPsumL : Sp := fun vs H Q _ => ∃ (a b : Addr) (xs ys : List Int), vs = [.ref a, .ref b] ∧ Row H a xs ∧ H b = some (.lst (ys.map V.int)) ∧ ys.length ≤ 100 ∧ (∀ y ∈ ys, SmZ 300 y) ∧ ∀ H', Same H H' → Q (.int (dot xs ys)) H'
def spUnw (K : PySem.W.Frag) : Sp := fun vs H Q _ => ∃ (tb a : Addr) (kind : Bool) (ps : List Addr) (B : List (List Int)) (v : List Int), vs = [.ref tb, .ref a] ∧ Tp H tb (ps.map V.ref) ∧ Rws H ps B B.length ∧ (∀ H', Same H H' → SqK kind K H' a (v.map V.int)) ∧ v.length = B.length ∧ B.length ≤ 9 ∧ (∀ i, i < B.length → 0 < dg B i) ∧ (∀ i y, i ≤ B.length → unwI B v i = some y → ∀ x ∈ y, SmZ 300 x) ∧
  (unwI B v B.length = none → ∀ H', Same H H' → Q .non H') ∧ ∀ y, unwI B v B.length = some y → ∀ r H', Same H H' → Row H' r y → Q (.ref r) H'
section
variable {P : Program} {w : World} {K : PySem.W.Frag} {mg : Str → Option Value} {base : Heap}
theorem ok_psumL {f : Addr} {fd : FuncData} (F : Fun K "product_sum" "product_sum" s_psum f fd) (m_sum : mg "sum" = none) (m_zip : mg "zip" = none) : FnOk P w K mg base CX0 1 f fd ["one", "other"] spPsumL := by
  have sc := sc_psum
  refine F.ok sc (fun vs H Q E h => ?_) (fun cdv A outer s H vs Q E hr h => ?_)
  · obtain ⟨a, b, xs, ys, rfl, _⟩ := h
    rfl
  · obtain ⟨a, b, xs, ys, rfl, ha, hb, hl, hz, q⟩ := h
    refine ⟨_, (pss_one (ps_ret (pe_callB (cr_sum rfl) (by rfl) m_sum (by decide +kernel) (pa_cons (pe_lc (own := [("a", 2), ("b", 3)]) (g := gTup K 2 (gCons (gName 2) (gCons (gName 3) gNil))) (by rfl) sc.nd (pi_zipK (by rfl) m_zip (pa_cons (pv 0) (pa_cons (pv 1) pa_nil))) (blkOk_by (own := [("a", 2), ("b", 3)]) (N := ["one", "other", "a", "b"]) (sc := defScope s_psum) (by decide +kernel)) (fun _ _ _ _ _ => pg_tup (n := 2) (by rfl) (pgs_cons (pg_name (i := 2) sc.nd rfl (Or.inl rfl)) (pgs_cons (pg_name (i := 3) sc.nd rfl (Or.inl rfl)) pgs_nil))) (fun _ _ _ _ _ => pts_nil) (fun _ _ _ _ _ => (pe_op op_mulW (pv 2) (pv 3)))) pa_nil)))), ?_⟩
    refine ⟨.ref a, rfl, .ref b, rfl, false, true, a, b, xs.map V.int, ys.map V.int, rfl, ha.1.t, SqL.of hb, fun D nD => ?_⟩
    refine lc_to (walk_zipK (n := min xs.length ys.length) (by rw [List.length_map, List.length_map])) ((List.zipWith (· * ·) xs ys).map V.int) (by rw [List.length_map, List.length_zipWith]) (small (by have := ha.2.1; omega)) nD (fun H' s => ⟨(ha.1.same s).t, SqL.of (s _ _ hb)⟩) ?_ ?_
    · rintro i x y H0 H1 Qy hy hi s0 ⟨T, u, v, rfl, nT, rfl, hu, hv⟩ hq
      obtain ⟨z, hz', rfl⟩ := map_get hy
      obtain ⟨p, r, hp, hr', rfl⟩ := zipW_get hz'
      obtain ⟨p', hp', rfl⟩ := map_get hu
      obtain ⟨r', hr'', rfl⟩ := map_get hv
      obtain rfl := Option.some.inj (hp.symm.trans hp')
      obtain rfl := Option.some.inj (hr'.symm.trans hr'')
      refine ⟨T, [.int p, .int r], rfl, SqT.of upd_same, rfl, .int p, [.int r], rfl, .int r, [], rfl, rfl, rfl, .int p, rfl, .int r, rfl, p, r, rfl, rfl, ?_, hq _ (same_new nT)⟩
      exact Nat.lt_trans (wide (ha.2.2 _ (List.mem_of_getElem? hp)) (hz _ (List.mem_of_getElem? hr'))) (by decide)
    · intro H' s d
      exact ⟨D, List.zipWith (· * ·) xs ys, rfl, SqL.of d, q H' s⟩
theorem ok_unw {f : Addr} {fd : FuncData} (F : Fun K "_unwound" "_unwound" s_unw f fd) (C_product_sum : Cal P w K mg base 1 "product_sum" ["one", "other"] spPsumL) (m_enumerate : mg "enumerate" = none) (m_tuple : mg "tuple" = none) : FnOk P w K mg base CX0 2 f fd ["table", "column"] (spUnw K) := by
  have sc := sc_unw
  refine F.ok sc (fun vs H Q E h => ?_) (fun cdv A outer s H vs Q E hr h => ?_)
  · obtain ⟨tb, a, kind, ps, B, v, rfl, _⟩ := h
    rfl
  · obtain ⟨tb, a, kind, ps, B, v, rfl, h1, hR, hv, lv, hB, hd, zy, qn, qs⟩ := h
    refine ⟨_, (pss_cons (ps_set (i := 2) sc.nd rfl (Or.inl rfl) (pe_lst pa_nil))
    (pss_cons (ps_for PassesOwn.never rfl (pi_enumK (by rfl) m_enumerate (pa_cons (pv 0) pa_nil)) (pg_tup (n := 2) (by rfl) (pgs_cons (pg_name (i := 3) sc.nd rfl (Or.inl rfl)) (pgs_cons (pg_name (i := 4) sc.nd rfl (Or.inl rfl)) pgs_nil)))
      (pss_cons (ps_set (i := 5) sc.nd rfl (Or.inl rfl) (pe_op op_sub (pe_ix (ix_list.or ix_tup) (pv 1) (pv 3) (fun _ _ => rfl)) (call_ C_product_sum (hr.mono (by decide)) (by rfl) (pa_cons (pv 4) (pa_cons (pv 2) pa_nil)))))
    (pss_cons (ps_if (pt_cmpR op_ne (pe_op op_modN (pv 5) (pe_ix ix_tup (pv 4) (pv 3) (fun _ _ => rfl))) pe_int (nomark _))
      (pss_one (ps_ret pe_non))
      pss_nil)
    (pss_one (ps_expr (pe_bm PySem.F.plainAttrs_list PySem.F.slot_list_append PySem.F.type_list_append mt_append (pv 2) (pa_cons (pe_op op_fdivX (pv 5) (pe_ix ix_tup (pv 4) (pv 3) (fun _ _ => rfl))) pa_nil)))))))
    (pss_one (ps_ret (pe_callTy call_tuple_of (by rfl) m_tuple (by decide +kernel) (pa_cons (pv 2) pa_nil)))))), ?_⟩
    refine ⟨by show 0 ≤ sizeLine; decide, fun D nD => ?_⟩
    have s1 : Same H (upd H D (.lst [])) := same_new nD
    have g1 : upd H D (.lst []) D = some (.lst ([] : List V)) := upd_same
    have lp : (ps.map V.ref).length = B.length := by rw [List.length_map, hR.1]
    refine ⟨.ref tb, rfl, false, tb, ps.map V.ref, rfl, (h1.same s1).t, ?_⟩
    refine for_it (walk_enumK (K := K) (b := false) (a := tb) (xs := ps.map V.ref)) (fun i σ H' => ∃ y, unwI B v i = some y ∧ (∃ y3 y4 y5, σ = [some (.ref tb), some (.ref a), some (.ref D), y3, y4, y5]) ∧ Same H H' ∧ H' D = some (.lst (y.map V.int))) ⟨[], rfl, ⟨none, none, none, rfl⟩, s1, g1⟩ (fun i σ H' _ p => by obtain ⟨_, _, _, s, _⟩ := p; exact (h1.same s).t) ?_ ?_
    · rintro i x σ H' H2 hi ⟨y, hy, ⟨y3, y4, y5, rfl⟩, sH, gD⟩ ⟨T, u, w, rfl, nT, rfl, hu, hw⟩
      obtain rfl := Option.some.inj hu
      obtain ⟨p, hp, rfl⟩ := map_get hw
      have hi : i < B.length := by omega
      have ly := unwI_len i y hy
      obtain ⟨p', hp', Rp, lp', hdi⟩ := row_at hR hi
      obtain rfl := Option.some.inj (hp.symm.trans hp')
      have gV := getD_at (xs := v) (i := i) (by omega)
      have sT : Same H' (upd H' T (.tup [.int (i : Nat), .ref p])) := same_new nT
      have sx := sH.trans sT
      refine ⟨T, [.int (i : Nat), .ref p], rfl, SqT.of upd_same, rfl, .int (i : Nat), [.ref p], rfl, .ref p, [], rfl, rfl, ?_⟩
      have gD := sT _ _ gD
      generalize upd H' T (.tup [.int (i : Nat), .ref p]) = H2 at sT sx gD ⊢
      refine ⟨.ref a, rfl, .int (i : Nat), rfl, ?_⟩
      have ixv : ∀ Q : VK, Q (.int (v.getD i 0)) H2 → (rIxL K (.ref a) (.int (i : Nat)) H2 Q ∨ rIxT K (.ref a) (.int (i : Nat)) H2 Q) := fun Q q => by
        have hs := hv H2 sx
        cases kind with
        | true => exact .inl ⟨a, _, (i : Nat), .int (v.getD i 0), rfl, rfl, hs, atI_at rfl (get_map gV), q⟩
        | false => exact .inr ⟨a, _, (i : Nat), .int (v.getD i 0), rfl, rfl, hs, atI_at rfl (get_map gV), q⟩
      refine ixv _ ?_
      refine ⟨.ref p, rfl, .ref D, rfl, p, D, _, y, rfl, Rp.same sx, gD, by omega, zy i y (by omega) hy, fun H3 s3 => ?_⟩
      refine ⟨_, _, rfl, rfl, ?_⟩
      have sx3 := sx.trans s3
      have gD3 := s3 _ _ gD
      have hpos := hd i hi
      have zd : SmZ 300 (dg B i) := Rp.2.2 _ (List.mem_of_getElem? hdi)
      obtain ⟨lf, hlf⟩ : ∃ lf, lf = v.getD i 0 - dot (B.getD i []) y := ⟨_, rfl⟩
      show gName 5 (.int (v.getD i 0 - dot (B.getD i []) y)) _ H3 _
      rw [← hlf]
      have step : unwI B v (i + 1) = if lf.fmod (dg B i) = 0 then some (y ++ [lf.fdiv (dg B i)]) else none := by
        rw [hlf]
        show (unwI B v i).bind _ = _
        rw [hy]
        rfl
      refine ⟨.int lf, rfl, .ref p, rfl, .int (i : Nat), rfl, p, _, (i : Nat), .int (dg B i), rfl, rfl, (Rp.same sx3).1.t, atI_at rfl (get_map hdi), lf, dg B i, rfl, rfl, (by show dg B i ≠ 0; omega), rfl, _, rfl, ite2 (fun hne => ?_) (fun hne => ?_)⟩
      · have hne : (!decide (V.int (lf.fmod (dg B i)) = V.int 0)) = true := hne
        have m0 : lf.fmod (dg B i) ≠ 0 := fun z => by
          rw [z] at hne
          exact absurd hne (by decide)
        rw [if_neg m0] at step
        exact qn (unwI_none step _ (by omega)) H3 sx3
      · have m0 : lf.fmod (dg B i) = 0 := by
          by_cases z : lf.fmod (dg B i) = 0
          · exact z
          · refine absurd ?_ hne
            rw [decide_eq_false (fun w => z (V.int.inj w))]
            rfl
        rw [if_pos m0] at step
        refine ⟨.ref D, rfl, .inl ⟨rfl, _, SqL.of gD3⟩, .int lf, rfl, .ref p, rfl, .int (i : Nat), rfl, p, _, (i : Nat), .int (dg B i), rfl, rfl, (Rp.same sx3).1.t, atI_at rfl (get_map hdi), lf, dg B i, rfl, rfl, ⟨by omega, Nat.lt_trans (PySem.Flt.log2_lt_of (by decide) zd) (by decide)⟩, D, _, _, rfl, rfl, gD3, ?_, ?_⟩
        · rw [List.length_map]
          exact small (by omega)
        · refine ⟨_, step, ⟨_, _, _, rfl⟩, same_put sx3 nD, ?_⟩
          rw [upd_same, List.map_append]
          rfl
    · rintro σ H' ⟨y, hy, ⟨y3, y4, y5, rfl⟩, sH, gD⟩
      rw [lp] at hy
      exact ⟨.ref D, rfl, D, _, rfl, .inl ⟨SqL.of gD, fun l nl => qs y hy l _ (sH.trans (same_new nl)) ⟨upd_same, by rw [unwI_len _ y hy]; omega, zy _ y (Nat.le_refl _) hy⟩⟩⟩
end
end K13
namespace K13
open PySem PySem.Spec PyProof.Rows L2 Vk
abbrev s_fon : Stmt := topS 12
theorem sc_fon : FnScope ["grid", "form"] ["grid", "form"] (defScope s_fon) := ⟨rfl, rfl, rfl, by decide +kernel, rfl, by decide +kernel, by decide +kernel⟩
def subL (t s : List Int) : List Int := List.zipWith (· - ·) t s
/-- the point at y -/
def ptI (B : List (List Int)) (s y : List Int) : List Int := (gforms B s).map fun f => f.headD 0 + dot f.tail y
def spPin : Sp := fun vs H Q _ => ∃ (g a : Addr) (B : List (List Int)) (s t : List Int), vs = [.ref g, .ref a] ∧ Gr H g B s ∧ Row H a t ∧ t.length = B.length ∧ B.length ≤ 9 ∧ (∀ i, i < B.length → 0 < dg B i) ∧ (∀ i y, i ≤ B.length → unwI B (subL t s) i = some y → ∀ x ∈ y, SmZ 300 x) ∧
  (unwI B (subL t s) B.length = none → ∀ H', Same H H' → Q .non H') ∧ ∀ y, unwI B (subL t s) B.length = some y → ∀ r H', Same H H' → Row H' r y → Q (.ref r) H'
def spPat : Sp := fun vs H Q _ => ∃ (g a : Addr) (B : List (List Int)) (s y : List Int), vs = [.ref g, .ref a] ∧ Gr H g B s ∧ B.length ≤ 9 ∧ Row H a y ∧ y.length = B.length ∧ ∀ r H', Same H H' → Tp H' r ((ptI B s y).map V.int) → Q (.ref r) H'
def spFon : Sp := fun vs H Q _ => ∃ (g a : Addr) (B : List (List Int)) (s : List Int) (c : Int) (cs : List Int), vs = [.ref g, .ref a] ∧ Gr H g B s ∧ B.length ≤ 9 ∧ Row H a (c :: cs) ∧ cs.length = B.length ∧ ∀ r H', Same H H' → Tp H' r ((putI c cs (gforms B s) B.length B.length).map V.int) → Q (.ref r) H'
section
variable {P : Program} {w : World} {K : PySem.W.Frag} {mg : Str → Option Value} {base : Heap}
theorem ok_pin {f : Addr} {fd : FuncData} (F : Fun K "place_in" "place_in" s_pin f fd) (C__unwound : Cal P w K mg base 2 "_unwound" ["table", "column"] (spUnw K)) (m_zip : mg "zip" = none) : FnOk P w K mg base CX0 3 f fd ["grid", "t"] spPin := by
  have sc := sc_pin
  refine F.ok sc (fun vs H Q E h => ?_) (fun cdv A outer s H vs Q E hr h => ?_)
  · obtain ⟨g, a, B, s, t, rfl, _⟩ := h
    rfl
  · obtain ⟨g, a, B, st, t, rfl, ⟨tb, ts, ps, h1, h2, hR, h4, h5⟩, ht, lt, hB, hd, zy, qn, qs⟩ := h
    refine ⟨_, (pss_cons (ps_asg (pv 0) (pg_tup (n := 2) (by rfl) (pgs_cons (pg_name (i := 2) sc.nd rfl (Or.inl rfl)) (pgs_cons (pg_name (i := 3) sc.nd rfl (Or.inl rfl)) pgs_nil))))
    (pss_one (ps_ret (call_ C__unwound (hr.mono (by decide)) (by rfl) (pa_cons (pv 2) (pa_cons (pe_lc (own := [("a", 4), ("b", 5)]) (g := gTup K 2 (gCons (gName 4) (gCons (gName 5) gNil))) (by rfl) sc.nd (pi_zipK (by rfl) m_zip (pa_cons (pv 1) (pa_cons (pv 3) pa_nil))) (blkOk_by (own := [("a", 4), ("b", 5)]) (N := ["grid", "t", "table", "s", "a", "b"]) (sc := defScope s_pin) (by decide +kernel)) (fun _ _ _ _ _ => pg_tup (n := 2) (by rfl) (pgs_cons (pg_name (i := 4) sc.nd rfl (Or.inl rfl)) (pgs_cons (pg_name (i := 5) sc.nd rfl (Or.inl rfl)) pgs_nil))) (fun _ _ _ _ _ => pts_nil) (fun _ _ _ _ _ => (pe_op op_sub (pv 4) (pv 5)))) pa_nil)))))), ?_⟩
    refine ⟨.ref g, rfl, g, _, rfl, h1.t, rfl, .ref tb, [.ref ts], rfl, .ref ts, [], rfl, rfl, ?_⟩
    refine ⟨.ref tb, rfl, .ref a, rfl, .ref ts, rfl, false, false, a, ts, t.map V.int, st.map V.int, rfl, ht.1.t, h4.1.t, fun D nD => ?_⟩
    refine lc_to (walk_zipK (n := t.length) (by rw [List.length_map, List.length_map]; omega)) ((subL t st).map V.int) (by unfold subL; rw [List.length_map, List.length_zipWith]; omega) (small ht.2.1) nD (fun H' s => ⟨(ht.1.same s).t, (h4.1.same s).t⟩) ?_ ?_
    · rintro i x y H0 H1 Qy hy hi s0 ⟨T, u, v, rfl, nT, rfl, hu, hv⟩ hq
      obtain ⟨z, hz', rfl⟩ := map_get hy
      obtain ⟨p, r, hp, hr', rfl⟩ := zipW_get hz'
      obtain ⟨p', hp', rfl⟩ := map_get hu
      obtain ⟨r', hr'', rfl⟩ := map_get hv
      obtain rfl := Option.some.inj (hp.symm.trans hp')
      obtain rfl := Option.some.inj (hr'.symm.trans hr'')
      exact ⟨T, [.int p, .int r], rfl, SqT.of upd_same, rfl, .int p, [.int r], rfl, .int r, [], rfl, rfl, rfl, .int p, rfl, .int r, rfl, p, r, rfl, rfl, hq _ (same_new nT)⟩
    · intro H' s d
      exact ⟨tb, D, true, ps, B, subL t st, rfl, h2.same s, hR.same s, fun H2 s2 => SqL.of (s2 _ _ d), by unfold subL; rw [List.length_zipWith]; omega, hB, hd, zy, fun e H2 s2 => qn e H2 (s.trans s2), fun y e r H2 s2 hr => qs y e r H2 (s.trans s2) hr⟩
theorem ok_pat {f : Addr} {fd : FuncData} (F : Fun K "point_at" "point_at" s_pat f fd) (C_grid_forms : Cal P w K mg base 1 "grid_forms" ["grid"] spGforms) (C_form_value : Cal P w K mg base 2 "form_value" ["form", "t"] spFval) (m_tuple : mg "tuple" = none) : FnOk P w K mg base CX0 3 f fd ["grid", "y"] spPat := by
  have sc := sc_pat
  refine F.ok sc (fun vs H Q E h => ?_) (fun cdv A outer s H vs Q E hr h => ?_)
  · obtain ⟨g, a, B, s, y, rfl, _⟩ := h
    rfl
  · obtain ⟨g, a, B, st, y, rfl, hG, hB, ha, ly, q⟩ := h
    refine ⟨_, (pss_one (ps_ret (pe_callTy call_tuple_of (by rfl) m_tuple (by decide +kernel) (pa_cons (pe_lc (own := [("form", 2)]) (g := gName 2) (by rfl) sc.nd (pi_tup (call_ C_grid_forms (hr.mono (by decide)) (by rfl) (pa_cons (pv 0) pa_nil))) (blkOk_by (own := [("form", 2)]) (N := ["grid", "y", "form"]) (sc := defScope s_pat) (by decide +kernel)) (fun _ _ _ _ _ => pg_name (i := 2) sc.nd rfl (Or.inl rfl)) (fun _ _ _ _ _ => pts_nil) (fun _ _ _ _ _ => (call_ C_form_value (hr.mono (by decide)) (by rfl) (pa_cons (pv 2) (pa_cons (pv 1) pa_nil))))) pa_nil)))), ?_⟩
    have hs5 : st.length = B.length := by
      obtain ⟨_, _, _, _, _, _, _, h5⟩ := hG
      exact h5
    refine ⟨.ref g, rfl, g, B, st, rfl, hG, hB, fun r H1 s1 hF => ?_⟩
    obtain ⟨qs, g1, R1⟩ := hF
    have lq : qs.length = B.length := by rw [R1.1, gforms_len hs5]
    have ha1 := ha.same s1
    refine ⟨r, rfl, ⟨_, g1.t⟩, fun D nD => ?_⟩
    refine lc_to (walk_tup (K := K) (a := r) (xs := qs.map V.ref)) ((ptI B st y).map V.int) (by unfold ptI; rw [List.length_map, List.length_map, List.length_map, gforms_len hs5, lq]) (by rw [List.length_map]; exact small (by omega)) nD (fun H' s => (g1.same s).t) ?_ ?_
    · rintro i x z H0 H0' Qy hz hi s0 ⟨rfl, hx⟩ hq
      obtain ⟨p, hp, rfl⟩ := map_get hx
      obtain ⟨v, hv, rfl⟩ := map_get hz
      obtain ⟨fm, hf, rfl⟩ := map_get hv
      obtain ⟨Rp, lp⟩ := R1.2 i p fm hp hf
      obtain ⟨c, b, hc, hb, rfl⟩ := gforms_get hf
      rw [List.length_cons] at lp
      exact ⟨rfl, .ref p, rfl, .ref a, rfl, p, a, c, b, y, rfl, Rp.same s0, ha1.same s0, by omega, fun H2 s2 => hq H2 s2⟩
    · intro H2 s2 d2
      exact ⟨D, _, rfl, .inl ⟨SqL.of d2, fun T nT => q T _ ((s1.trans s2).trans (same_new nT)) upd_same⟩⟩
theorem ok_fon {f : Addr} {fd : FuncData} (F : Fun K "form_on" "form_on" s_fon f fd) (C_put_in : Cal P w K mg base 2 "put_in" ["form", "forms", "n"] spPutin) (C_grid_forms : Cal P w K mg base 1 "grid_forms" ["grid"] spGforms) (m_len : mg "len" = none) : FnOk P w K mg base CX0 3 f fd ["grid", "form"] spFon := by
  have sc := sc_fon
  refine F.ok sc (fun vs H Q E h => ?_) (fun cdv A outer s H vs Q E hr h => ?_)
  · obtain ⟨g, a, B, s, c, cs, rfl, _⟩ := h
    rfl
  · obtain ⟨g, a, B, st, c, cs, rfl, hG, hB, ha, lc, q⟩ := h
    refine ⟨_, (pss_one (ps_ret (call_ C_put_in (hr.mono (by decide)) (by rfl) (pa_cons (pv 1) (pa_cons (call_ C_grid_forms (hr.mono (by decide)) (by rfl) (pa_cons (pv 0) pa_nil)) (pa_cons (pe_callB call_len_seq (by rfl) m_len (by decide +kernel) (pa_cons (pe_ix ix_tup (pv 0) pe_int (fun _ _ => rfl)) pa_nil)) pa_nil)))))), ?_⟩
    have hG0 := hG
    obtain ⟨tb, ts, ps, h1, h2, hR, h4, h5⟩ := hG
    refine ⟨.ref a, rfl, .ref g, rfl, g, B, st, rfl, hG0, hB, fun r H1 s1 hF => ?_⟩
    obtain ⟨qs, g1, R1⟩ := hF
    refine ⟨.ref g, rfl, g, _, 1, .ref ts, rfl, rfl, (h1.same s1).t, atI_nat (j := 1) rfl, ts, _, rfl, .inr (h4.1.same s1).t, ?_⟩
    rw [List.length_map, h5]
    refine ⟨a, r, B.length, c, cs, qs, gforms B st, rfl, by omega, ha.same s1, g1, R1, by rw [gforms_len h5, lc], fun r2 H2 s2 g2 => q r2 H2 (s1.trans s2) ?_⟩
    rw [lc] at g2
    exact g2
end
end K13
namespace K13
open PySem PySem.Spec PyProof.Rows L2 Vk
abbrev s_turned : Stmt := topS 6
theorem sc_turned : FnScope ["rows", "width", "j", "row"] ["rows", "width"] (defScope s_turned) := ⟨rfl, rfl, rfl, by decide +kernel, rfl, by decide +kernel, by decide +kernel⟩
abbrev s_lpoint : Stmt := topS 26
theorem sc_lpoint : FnScope ["grid_so", "y", "table", "s", "i", "j"] ["grid_so", "y"] (defScope s_lpoint) := ⟨rfl, rfl, rfl, by decide +kernel, rfl, by decide +kernel, by decide +kernel⟩
abbrev s_place : Stmt := topS 27
theorem sc_place : FnScope ["grid_so", "t", "found", "i", "table", "s", "left", "j"] ["grid_so", "t"] (defScope s_place) := ⟨rfl, rfl, rfl, by decide +kernel, rfl, by decide +kernel, by decide +kernel⟩
abbrev s_drawn : Stmt := topS 29
theorem sc_drawn : FnScope ["m", "size_so", "most", "k"] ["m", "size_so", "most"] (defScope s_drawn) := ⟨rfl, rfl, rfl, by decide +kernel, rfl, by decide +kernel, by decide +kernel⟩
abbrev s_value : Stmt := topS 30
theorem sc_value : FnScope ["form", "t", "i"] ["form", "t"] (defScope s_value) := ⟨rfl, rfl, rfl, by decide +kernel, rfl, by decide +kernel, by decide +kernel⟩
/-- the columns of a table -/
def colsI (rows : List (List Int)) (n : Nat) : List (List Int) := (List.range n).map fun j => rows.map fun r => r.getD j 0
theorem colsI_get {rows : List (List Int)} {n j : Nat} {z : List Int} (h : (colsI rows n)[j]? = some z) : z = rows.map fun r => r.getD j 0 := by
  unfold colsI at h
  rw [List.getElem?_map] at h
  cases e : (List.range n)[j]? with
  | none => rw [e] at h; cases h
  | some k =>
    rw [e] at h
    have hk : k = j := by
      have := List.getElem?_eq_some_iff.mp e
      obtain ⟨hj, hk⟩ := this
      rw [List.getElem_range] at hk
      exact hk.symm
    subst hk
    exact (Option.some.inj h).symm
theorem getD_of {xs : List Int} {i : Nat} {x : Int} (h : xs[i]? = some x) : xs.getD i 0 = x := by
  rw [List.getD_eq_getElem?_getD, h]
  rfl
theorem call_tuple_ofK {X : Cx} {K : PySem.W.Frag} (h : X.K = K) : CallR X (.type "tuple") (fun xs H Q => ∃ p ys, xs = [.ref p] ∧ ((SqL K H p ys ∧ ∀ l, H l = none → Q (.ref l) (upd H l (.tup ys))) ∨ (SqT K H p ys ∧ Q (.ref p) H))) := by
  subst h
  exact call_tuple_of
theorem pi_tupK {X : Cx} {K : PySem.W.Frag} {tg l : Expr} {tl : TE} (h : X.K = K) (hl : PE X l tl) : PI X tg l (iTup K tl) := by
  subst h
  exact pi_tup hl
theorem pi_listK {X : Cx} {K : PySem.W.Frag} {tg l : Expr} {tl : TE} (h : X.K = K) (hl : PE X l tl) : PI X tg l (iList K tl) := by
  subst h
  exact pi_list hl
/-- the place of t, step by step -/
def placeI (B : List (List Int)) (s t : List Int) : Nat → Option (List Int)
  | 0 => some []
  | i + 1 => (placeI B s t i).bind fun y => if (t.getD i 0 - s.getD i 0 - dot (B.getD i []) y).fmod (dg B i) = 0 then some (y ++ [(t.getD i 0 - s.getD i 0 - dot (B.getD i []) y).fdiv (dg B i)]) else none
def spPlace : Sp := fun vs H Q _ => ∃ (g a : Addr) (B : List (List Int)) (s t : List Int), vs = [.ref g, .ref a] ∧ Gr H g B s ∧ Row H a t ∧ t.length = B.length ∧ B.length ≤ 9 ∧ (∀ i, i < B.length → 0 < dg B i) ∧ (∀ i y, i ≤ B.length → placeI B s t i = some y → ∀ x ∈ y, SmZ 300 x) ∧
  (placeI B s t B.length = none → ∀ H', Same H H' → Q .non H') ∧ (∀ y, placeI B s t B.length = some y → ∀ r H', Same H H' → Row H' r y → Q (.ref r) H')
theorem placeI_len {B : List (List Int)} {s t : List Int} : ∀ i y, placeI B s t i = some y → y.length = i
  | 0, y, h => by
    cases h
    rfl
  | i + 1, y, h => by
    unfold placeI at h
    cases hp : placeI B s t i with
    | none =>
      rw [hp] at h
      cases h
    | some z =>
      rw [hp] at h
      have lz := placeI_len i z hp
      have h : (if (t.getD i 0 - s.getD i 0 - dot (B.getD i []) z).fmod (dg B i) = 0 then some (z ++ [(t.getD i 0 - s.getD i 0 - dot (B.getD i []) z).fdiv (dg B i)]) else none) = some y := h
      split at h
      · cases h
        rw [List.length_append, lz]
        rfl
      · cases h
theorem placeI_none {B : List (List Int)} {s t : List Int} {i : Nat} (h : placeI B s t i = none) : ∀ k, i ≤ k → placeI B s t k = none := by
  intro k hk
  induction k with
  | zero =>
    obtain rfl : i = 0 := by omega
    exact h
  | succ k ih =>
    by_cases e : i = k + 1
    · rw [← e]
      exact h
    · unfold placeI
      rw [ih (by omega)]
      rfl
section
variable {P : Program} {w : World} {K : PySem.W.Frag} {mg : Str → Option Value} {base : Heap}
def spTurnedT : Sp := fun vs H Q _ => ∃ (a : Addr) (n : Nat) (ps : List Addr) (rows : List (List Int)), vs = [.ref a, .int n] ∧ Tp H a (ps.map V.ref) ∧ Rws H ps rows n ∧ rows.length ≤ 100 ∧ n ≤ 100 ∧ ∀ r qs H', Same H H' → Tp H' r (qs.map V.ref) → Rws H' qs (colsI rows n) rows.length → Q (.ref r) H'
theorem ok_turnedT {f : Addr} {fd : FuncData} (F : Fun K "turned" "turned" s_turned f fd) (m_tuple : mg "tuple" = none) (m_range : mg "range" = none) : FnOk P w K mg base CX0 1 f fd ["rows", "width"] spTurnedT := by
  have sc := sc_turned
  refine F.ok sc (fun vs H Q E h => ?_) (fun cdv A outer s H vs Q E hr h => ?_)
  · obtain ⟨a, n, ps, rows, rfl, _⟩ := h
    rfl
  · obtain ⟨a, n, ps, rows, rfl, ha, hR, hl, hn, q⟩ := h
    refine ⟨_, (pss_one (ps_ret (pe_callTy call_tuple_of (by rfl) m_tuple (by decide +kernel) (pa_cons (pe_lc (own := [("j", 2)]) (g := gName 2) (by rfl) sc.nd (pi_range1 rfl m_range (pa_cons (pv 1) pa_nil)) (blkOk_by (own := [("j", 2)]) (N := ["rows", "width", "j", "row"]) (sc := defScope s_turned) (by decide +kernel)) (fun _ _ _ _ _ => pg_name (i := 2) sc.nd rfl (Or.inr rfl)) (fun _ _ _ _ _ => pts_nil) (fun _ _ _ _ _ => (pe_callTy (call_tuple_ofK (K := K) rfl) (by rfl) m_tuple (by decide +kernel) (pa_cons (pe_lc (own := [("row", 3)]) (g := gName 3) (by rfl) sc.nd (pi_tupK (K := K) rfl (pv 0)) (blkOk_by (own := [("row", 3)]) (N := ["rows", "width", "j", "row"]) (sc := { kind := .function, names := [(".0", .local), ("j", .cell), ("tuple", .globalImplicit), ("rows", .cell)], isGenerator := false, isCoroutine := false }) (by decide +kernel)) (fun _ _ _ _ _ => pg_name (i := 3) sc.nd rfl (Or.inl rfl)) (fun _ _ _ _ _ => pts_nil) (fun _ _ _ _ _ => (pe_ix (ix_tupK (K := K) rfl) (pv 3) (pv 2) (fun _ _ => rfl)))) pa_nil)))) pa_nil)))), ?_⟩
    have lp : ps.length = rows.length := hR.1
    refine ⟨.int n, rfl, (n : Int), rfl, by omega, by omega, fun D nD => ?_⟩
    rw [Int.toNat_natCast]
    refine lc_objs (walk_range (lo := 0) (n := n)) (fun j => .tup ((rows.map fun r => r.getD j 0).map V.int)) (small hn) nD (fun H' s => True.intro) ?_ ?_
    · rintro j x H0 H0' Qy hj s0 ⟨rfl, rfl⟩ hq
      refine ⟨rfl, .ref a, rfl, a, rfl, ⟨_, (ha.same s0).t⟩, fun D2 nD2 => ?_⟩
      refine lc_to (walk_tup (K := K) (a := a) (xs := ps.map V.ref)) ((rows.map fun r => r.getD j 0).map V.int) (by rw [List.length_map, List.length_map, List.length_map, lp]) (by rw [List.length_map]; exact small (by omega)) nD2 (fun H' s => ((ha.same s0).same s).t) ?_ ?_
      · rintro i x z H1 H1' Qy hz hi s1 ⟨rfl, hx⟩ hq
        obtain ⟨p, hp, rfl⟩ := map_get hx
        obtain ⟨v, hv, rfl⟩ := map_get hz
        obtain ⟨r, hr', rfl⟩ := map_get hv
        obtain ⟨Rp, lr⟩ := hR.2 i p r hp hr'
        exact ⟨rfl, .ref p, rfl, .int (0 + j), rfl, p, _, 0 + j, .int (r.getD j 0), rfl, rfl, ((Rp.same s0).same s1).1.t, atI_at (i := j) (by omega) (get_map (getD_at (by omega))), hq _ (Same.refl _)⟩
      · intro H2 s2 d2
        exact ⟨D2, _, rfl, .inl ⟨SqL.of d2, fun T nT => hq T _ (s2.trans (same_new nT)) (s2.free nT) upd_same⟩⟩
    · intro H' qs s1 d l nd fr ob
      refine ⟨D, _, rfl, .inl ⟨SqL.of d, fun T nT => ?_⟩⟩
      have s2 := same_new (o := .tup (qs.map V.ref)) nT
      refine q T qs _ (s1.trans s2) upd_same ⟨by unfold colsI; rw [l, List.length_map, List.length_range], fun j p z hp hz => ?_⟩
      have ho := ob j p hp
      have hj : j < n := by
        have := (List.getElem?_eq_some_iff.mp hp).1
        omega
      obtain rfl := colsI_get hz
      refine ⟨⟨s2 _ _ ho, by rw [List.length_map]; exact hl, fun x hx => ?_⟩, by rw [List.length_map]⟩
      obtain ⟨r, hr', rfl⟩ := List.mem_map.mp hx
      obtain ⟨i, hi⟩ := List.getElem?_of_mem hr'
      have il : i < ps.length := by
        rw [lp]
        exact (List.getElem?_eq_some_iff.mp hi).1
      obtain ⟨Rp, lr⟩ := hR.2 i ps[i] r (List.getElem?_eq_getElem il) hi
      exact Rp.2.2 _ (List.mem_of_getElem? (getD_at (xs := r) (i := j) (by omega)))
def spTurnedL : Sp := fun vs H Q _ => ∃ (a : Addr) (n : Nat) (ps : List Addr) (rows : List (List Int)), vs = [.ref a, .int n] ∧ H a = some (.lst (ps.map V.ref)) ∧ Rws H ps rows n ∧ rows.length ≤ 100 ∧ n ≤ 100 ∧ ∀ r qs H', Same H H' → Tp H' r (qs.map V.ref) → Rws H' qs (colsI rows n) rows.length → Q (.ref r) H'
theorem ok_turnedL {f : Addr} {fd : FuncData} (F : Fun K "turned" "turned" s_turned f fd) (m_tuple : mg "tuple" = none) (m_range : mg "range" = none) : FnOk P w K mg base CX0 1 f fd ["rows", "width"] spTurnedL := by
  have sc := sc_turned
  refine F.ok sc (fun vs H Q E h => ?_) (fun cdv A outer s H vs Q E hr h => ?_)
  · obtain ⟨a, n, ps, rows, rfl, _⟩ := h
    rfl
  · obtain ⟨a, n, ps, rows, rfl, ha, hR, hl, hn, q⟩ := h
    refine ⟨_, (pss_one (ps_ret (pe_callTy call_tuple_of (by rfl) m_tuple (by decide +kernel) (pa_cons (pe_lc (own := [("j", 2)]) (g := gName 2) (by rfl) sc.nd (pi_range1 rfl m_range (pa_cons (pv 1) pa_nil)) (blkOk_by (own := [("j", 2)]) (N := ["rows", "width", "j", "row"]) (sc := defScope s_turned) (by decide +kernel)) (fun _ _ _ _ _ => pg_name (i := 2) sc.nd rfl (Or.inr rfl)) (fun _ _ _ _ _ => pts_nil) (fun _ _ _ _ _ => (pe_callTy (call_tuple_ofK (K := K) rfl) (by rfl) m_tuple (by decide +kernel) (pa_cons (pe_lc (own := [("row", 3)]) (g := gName 3) (by rfl) sc.nd (pi_listK (K := K) rfl (pv 0)) (blkOk_by (own := [("row", 3)]) (N := ["rows", "width", "j", "row"]) (sc := { kind := .function, names := [(".0", .local), ("j", .cell), ("tuple", .globalImplicit), ("rows", .cell)], isGenerator := false, isCoroutine := false }) (by decide +kernel)) (fun _ _ _ _ _ => pg_name (i := 3) sc.nd rfl (Or.inl rfl)) (fun _ _ _ _ _ => pts_nil) (fun _ _ _ _ _ => (pe_ix (ix_tupK (K := K) rfl) (pv 3) (pv 2) (fun _ _ => rfl)))) pa_nil)))) pa_nil)))), ?_⟩
    have lp : ps.length = rows.length := hR.1
    refine ⟨.int n, rfl, (n : Int), rfl, by omega, by omega, fun D nD => ?_⟩
    rw [Int.toNat_natCast]
    refine lc_objs (walk_range (lo := 0) (n := n)) (fun j => .tup ((rows.map fun r => r.getD j 0).map V.int)) (small hn) nD (fun H' s => True.intro) ?_ ?_
    · rintro j x H0 H0' Qy hj s0 ⟨rfl, rfl⟩ hq
      refine ⟨rfl, .ref a, rfl, a, rfl, ⟨_, SqL.of (s0 _ _ ha)⟩, fun D2 nD2 => ?_⟩
      refine lc_to (walk_list (K := K) (a := a) (xs := ps.map V.ref)) ((rows.map fun r => r.getD j 0).map V.int) (by rw [List.length_map, List.length_map, List.length_map, lp]) (by rw [List.length_map]; exact small (by omega)) nD2 (fun H' s => SqL.of ((s0.trans s) _ _ ha)) ?_ ?_
      · rintro i x z H1 H1' Qy hz hi s1 ⟨rfl, hx⟩ hq
        obtain ⟨p, hp, rfl⟩ := map_get hx
        obtain ⟨v, hv, rfl⟩ := map_get hz
        obtain ⟨r, hr', rfl⟩ := map_get hv
        obtain ⟨Rp, lr⟩ := hR.2 i p r hp hr'
        exact ⟨rfl, .ref p, rfl, .int (0 + j), rfl, p, _, 0 + j, .int (r.getD j 0), rfl, rfl, ((Rp.same s0).same s1).1.t, atI_at (i := j) (by omega) (get_map (getD_at (by omega))), hq _ (Same.refl _)⟩
      · intro H2 s2 d2
        exact ⟨D2, _, rfl, .inl ⟨SqL.of d2, fun T nT => hq T _ (s2.trans (same_new nT)) (s2.free nT) upd_same⟩⟩
    · intro H' qs s1 d l nd fr ob
      refine ⟨D, _, rfl, .inl ⟨SqL.of d, fun T nT => ?_⟩⟩
      have s2 := same_new (o := .tup (qs.map V.ref)) nT
      refine q T qs _ (s1.trans s2) upd_same ⟨by unfold colsI; rw [l, List.length_map, List.length_range], fun j p z hp hz => ?_⟩
      have ho := ob j p hp
      have hj : j < n := by
        have := (List.getElem?_eq_some_iff.mp hp).1
        omega
      obtain rfl := colsI_get hz
      refine ⟨⟨s2 _ _ ho, by rw [List.length_map]; exact hl, fun x hx => ?_⟩, by rw [List.length_map]⟩
      obtain ⟨r, hr', rfl⟩ := List.mem_map.mp hx
      obtain ⟨i, hi⟩ := List.getElem?_of_mem hr'
      have il : i < ps.length := by
        rw [lp]
        exact (List.getElem?_eq_some_iff.mp hi).1
      obtain ⟨Rp, lr⟩ := hR.2 i ps[i] r (List.getElem?_eq_getElem il) hi
      exact Rp.2.2 _ (List.mem_of_getElem? (getD_at (xs := r) (i := j) (by omega)))
theorem ok_place {f : Addr} {fd : FuncData} (F : Fun K "_law_place" "_law_place" s_place f fd) (m_len : mg "len" = none) (m_range : mg "range" = none) (m_sum : mg "sum" = none) (m_int : mg "int" = none) (m_tuple : mg "tuple" = none) : FnOk P w K mg base CX0 1 f fd ["grid_so", "t"] spPlace := by
  have sc := sc_place
  refine F.ok sc (fun vs H Q E h => ?_) (fun cdv A outer s H vs Q E hr h => ?_)
  · obtain ⟨g, a, B, s, t, rfl, _⟩ := h
    rfl
  · obtain ⟨g, a, B, st, t, rfl, ⟨tb, ts, ps, h1, h2, hR, h4, h5⟩, ht, lt, hB, hd, zy, qn, qs⟩ := h
    refine ⟨_, (pss_cons (ps_asg (pv 0) (pg_tup (n := 2) (by rfl) (pgs_cons (pg_name (i := 4) sc.nd rfl (Or.inr rfl)) (pgs_cons (pg_name (i := 5) sc.nd rfl (Or.inl rfl)) pgs_nil))))
    (pss_cons (ps_set (i := 2) sc.nd rfl (Or.inr rfl) (pe_lst pa_nil))
    (pss_cons (ps_for PassesOwn.never rfl (pi_range1 rfl m_range (pa_cons (pe_callB call_len_seq (by rfl) m_len (by decide +kernel) (pa_cons (pv 1) pa_nil)) pa_nil)) (pg_name (i := 3) sc.nd rfl (Or.inr rfl))
      (pss_cons (ps_set (i := 6) sc.nd rfl (Or.inl rfl) (pe_op op_sub (pe_op op_sub (pe_ix ix_tup (pv 1) (pv 3) (fun _ _ => rfl)) (pe_ix ix_tup (pv 5) (pv 3) (fun _ _ => rfl))) (pe_callB (cr_sum rfl) (by rfl) m_sum (by decide +kernel) (pa_cons (pe_lc (own := [("j", 7)]) (g := gName 7) (by rfl) sc.nd (pi_range1 rfl m_range (pa_cons (pv 3) pa_nil)) (blkOk_by (own := [("j", 7)]) (N := ["grid_so", "t", "found", "i", "table", "s", "left", "j"]) (sc := defScope s_place) (by decide +kernel)) (fun _ _ _ _ _ => pg_name (i := 7) sc.nd rfl (Or.inl rfl)) (fun _ _ _ _ _ => pts_nil) (fun _ _ _ _ _ => (pe_op op_mulW (pe_ix (ix_tupK (K := K) rfl) (pe_ix (ix_tupK (K := K) rfl) (pv 4) (pv 3) (fun _ _ => rfl)) (pv 7) (fun _ _ => rfl)) (pe_ix (ix_listK (K := K) rfl) (pv 2) (pv 7) (fun _ _ => rfl))))) pa_nil))))
    (pss_cons (ps_if (pt_cmpR op_ne (pe_op op_modN (pe_callTy call_int1 (by rfl) m_int (by decide +kernel) (pa_cons (pv 6) pa_nil)) (pe_ix ix_tup (pe_ix ix_tup (pv 4) (pv 3) (fun _ _ => rfl)) (pv 3) (fun _ _ => rfl))) pe_int (nomark _))
      (pss_one (ps_ret pe_non))
      pss_nil)
    (pss_one (ps_expr (pe_bm PySem.F.plainAttrs_list PySem.F.slot_list_append PySem.F.type_list_append mt_append (pv 2) (pa_cons (pe_op op_fdivX (pv 6) (pe_ix ix_tup (pe_ix ix_tup (pv 4) (pv 3) (fun _ _ => rfl)) (pv 3) (fun _ _ => rfl))) pa_nil)))))))
    (pss_one (ps_ret (pe_callTy call_tuple_of (by rfl) m_tuple (by decide +kernel) (pa_cons (pv 2) pa_nil))))))), ?_⟩
    refine ⟨.ref g, rfl, g, _, rfl, h1.t, rfl, .ref tb, [.ref ts], rfl, .ref ts, [], rfl, rfl, by show 0 ≤ sizeLine; decide, fun D nD => ?_⟩
    have s1 : Same H (upd H D (.lst [])) := same_new nD
    have g1 : upd H D (.lst []) D = some (.lst ([] : List V)) := upd_same
    refine ⟨.ref a, rfl, a, _, rfl, .inr (ht.same s1).1.t, ((t.map V.int).length : Int), rfl, by omega, ?_, ?_⟩
    · rw [List.length_map]
      omega
    have e0 : ((t.map V.int).length : Int).toNat = B.length := by
      rw [List.length_map]
      omega
    rw [e0]
    refine for_range (lo := 0) (n := B.length) (fun i σ H' => ∃ y, placeI B st t i = some y ∧ (∃ y3 y6 y7, σ = [some (.ref g), some (.ref a), some (.ref D), y3, some (.ref tb), some (.ref ts), y6, y7]) ∧ Same H H' ∧ H' D = some (.lst (y.map V.int))) ⟨[], rfl, ⟨none, none, none, rfl⟩, s1, g1⟩ ?_ ?_
    · rintro i σ H' hi ⟨y, hy, ⟨y3, y6, y7, rfl⟩, sH, gD⟩
      have ly := placeI_len i y hy
      obtain ⟨p, hp, Rp, lp, hdi⟩ := row_at hR hi
      have ei : (0 + (i : Int)) = ((i : Nat) : Int) := by omega
      have gT := getD_at (xs := t) (i := i) (by omega)
      have gS := getD_at (xs := st) (i := i) (by omega)
      refine ⟨.ref a, rfl, .int (0 + i), rfl, a, _, 0 + i, .int (t.getD i 0), rfl, rfl, (ht.same sH).1.t, atI_at ei (get_map gT), .ref ts, rfl, .int (0 + i), rfl, ts, _, 0 + i, .int (st.getD i 0), rfl, rfl, (h4.same sH).1.t, atI_at ei (get_map gS), _, _, rfl, rfl, .int (0 + i), rfl, 0 + i, rfl, by omega, by omega, fun D2 nD2 => ?_⟩
      have ei2 : (0 + (i : Int)).toNat = i := by omega
      rw [ei2]
      refine lc_to (walk_range (lo := 0) (n := i)) ((List.zipWith (· * ·) (B.getD i []) y).map V.int) (by rw [List.length_map, List.length_zipWith]; omega) (small (by omega)) nD2 (fun H' s => True.intro) ?_ ?_
      · rintro j x z H0 H1 Qy hz hj s0 ⟨rfl, rfl⟩ hq
        obtain ⟨zz, hzz, rfl⟩ := map_get hz
        obtain ⟨u, v, hu, hv, rfl⟩ := zipW_get hzz
        have ej : (0 + (j : Int)) = ((j : Nat) : Int) := by omega
        have sx := sH.trans s0
        refine ⟨rfl, .ref tb, rfl, .int (0 + i), rfl, tb, _, 0 + i, .ref p, rfl, rfl, (h2.same sx).t, atI_at ei (get_map hp), .int (0 + j), rfl, p, _, 0 + j, .int u, rfl, rfl, (Rp.same sx).1.t, atI_at ej (get_map hu), .ref D, rfl, .int (0 + j), rfl, D, _, 0 + j, .int v, rfl, rfl, SqL.of (s0 _ _ gD), atI_at ej (get_map hv), u, v, rfl, rfl, ?_, hq _ (Same.refl _)⟩
        exact Nat.lt_trans (wide (Rp.2.2 _ (List.mem_of_getElem? hu)) (zy i y (by omega) hy _ (List.mem_of_getElem? hv))) (by decide)
      intro H2 s2 d2
      have sx := sH.trans s2
      have hpos := hd i hi
      have zd : SmZ 300 (dg B i) := Rp.2.2 _ (List.mem_of_getElem? hdi)
      refine ⟨D2, List.zipWith (· * ·) (B.getD i []) y, rfl, SqL.of d2, _, _, rfl, rfl, ?_⟩
      have dd : dot (B.getD i []) y = (List.zipWith (· * ·) (B.getD i []) y).sum := rfl
      obtain ⟨lf, hlf⟩ : ∃ lf, lf = t.getD i 0 - st.getD i 0 - dot (B.getD i []) y := ⟨_, rfl⟩
      show gName 6 (.int (t.getD i 0 - st.getD i 0 - dot (B.getD i []) y)) _ H2 _
      rw [← hlf]
      have step : placeI B st t (i + 1) = if lf.fmod (dg B i) = 0 then some (y ++ [lf.fdiv (dg B i)]) else none := by
        rw [hlf]
        show (placeI B st t i).bind _ = _
        rw [hy]
        rfl
      refine ⟨.int lf, rfl, .inl ⟨lf, rfl, .ref tb, rfl, .int (0 + i), rfl, tb, _, 0 + i, .ref p, rfl, rfl, (h2.same sx).t, atI_at ei (get_map hp), .int (0 + i), rfl, p, _, 0 + i, .int (dg B i), rfl, rfl, (Rp.same sx).1.t, atI_at ei (get_map hdi), lf, dg B i, rfl, rfl, (by show dg B i ≠ 0; omega), rfl, _, rfl, ite2 (fun hne => ?_) (fun hne => ?_)⟩⟩
      · have hne : (!decide (V.int (lf.fmod (dg B i)) = V.int 0)) = true := hne
        have m0 : lf.fmod (dg B i) ≠ 0 := fun z => by
          rw [z] at hne
          exact absurd hne (by decide)
        rw [if_neg m0] at step
        exact qn (placeI_none step _ (by omega)) H2 sx
      · have m0 : lf.fmod (dg B i) = 0 := by
          by_cases z : lf.fmod (dg B i) = 0
          · exact z
          · refine absurd ?_ hne
            rw [decide_eq_false (fun w => z (V.int.inj w))]
            rfl
        rw [if_pos m0] at step
        refine ⟨.ref D, rfl, .inl ⟨rfl, _, SqL.of (s2 _ _ gD)⟩, .int lf, rfl, .ref tb, rfl, .int (0 + i), rfl, tb, _, 0 + i, .ref p, rfl, rfl, (h2.same sx).t, atI_at ei (get_map hp), .int (0 + i), rfl, p, _, 0 + i, .int (dg B i), rfl, rfl, (Rp.same sx).1.t, atI_at ei (get_map hdi), lf, dg B i, rfl, rfl, ⟨by omega, Nat.lt_trans (PySem.Flt.log2_lt_of (by decide) zd) (by decide)⟩, D, _, _, rfl, rfl, s2 _ _ gD, ?_, ?_⟩
        · rw [List.length_map]
          exact small (by omega)
        · refine ⟨_, step, ⟨_, _, _, rfl⟩, same_put sx nD, ?_⟩
          rw [upd_same, List.map_append]
          rfl
    · rintro σ H' ⟨y, hy, ⟨y3, y6, y7, rfl⟩, sH, gD⟩
      exact ⟨.ref D, rfl, D, _, rfl, .inl ⟨SqL.of gD, fun l nl => qs y hy l _ (sH.trans (same_new nl)) ⟨upd_same, by rw [placeI_len _ y hy]; omega, zy _ y (Nat.le_refl _) hy⟩⟩⟩
end
end K13
namespace K13
open PySem PySem.Spec PyProof.Rows L2 Vk
theorem call_len_seqK {X : Cx} {K : PySem.W.Frag} (h : X.K = K) : CallR X (.builtin "len") (fun xs H Q => ∃ p ys, xs = [.ref p] ∧ (SqL K H p ys ∨ SqT K H p ys) ∧ Q (.int ys.length) H) := by
  subst h
  exact call_len_seq
theorem cr_sumK {X : Cx} {K : PySem.W.Frag} (h : X.K = K) (hc : X.calm = true) : CallR X (.builtin "sum") (rSum K) := by
  subst h
  exact cr_sum hc
section
variable {P : Program} {w : World} {K : PySem.W.Frag} {mg : Str → Option Value} {base : Heap}
theorem ok_lpoint {f : Addr} {fd : FuncData} (F : Fun K "_law_point" "_law_point" s_lpoint f fd) (m_tuple : mg "tuple" = none) (m_range : mg "range" = none) (m_len : mg "len" = none) (m_sum : mg "sum" = none) : FnOk P w K mg base CX0 1 f fd ["grid_so", "y"] spPat := by
  have sc := sc_lpoint
  refine F.ok sc (fun vs H Q E h => ?_) (fun cdv A outer s H vs Q E hr h => ?_)
  · obtain ⟨g, a, B, s, y, rfl, _⟩ := h
    rfl
  · obtain ⟨g, a, B, st, y, rfl, ⟨tb, ts, ps, h1, h2, hR, h4, h5⟩, hB, ha, ly, q⟩ := h
    refine ⟨_, (pss_cons (ps_asg (pv 0) (pg_tup (n := 2) (by rfl) (pgs_cons (pg_name (i := 2) sc.nd rfl (Or.inr rfl)) (pgs_cons (pg_name (i := 3) sc.nd rfl (Or.inr rfl)) pgs_nil))))
    (pss_one (ps_ret (pe_callTy call_tuple_of (by rfl) m_tuple (by decide +kernel) (pa_cons (pe_lc (own := [("i", 4)]) (g := gName 4) (by rfl) sc.nd (pi_range1 rfl m_range (pa_cons (pe_callB call_len_seq (by rfl) m_len (by decide +kernel) (pa_cons (pv 1) pa_nil)) pa_nil)) (blkOk_by (own := [("i", 4)]) (N := ["grid_so", "y", "table", "s", "i", "j"]) (sc := defScope s_lpoint) (by decide +kernel)) (fun _ _ _ _ _ => pg_name (i := 4) sc.nd rfl (Or.inr rfl)) (fun _ _ _ _ _ => pts_nil) (fun _ _ _ _ _ => (pe_op op_add (pe_ix (ix_tupK (K := K) rfl) (pv 3) (pv 4) (fun _ _ => rfl)) (pe_callB (cr_sumK (K := K) rfl rfl) (by rfl) m_sum (by decide +kernel) (pa_cons (pe_lc (own := [("j", 5)]) (g := gName 5) (by rfl) sc.nd (pi_range1 rfl m_range (pa_cons (pe_callB (call_len_seqK (K := K) rfl) (by rfl) m_len (by decide +kernel) (pa_cons (pv 1) pa_nil)) pa_nil)) (blkOk_by (own := [("j", 5)]) (N := ["grid_so", "y", "table", "s", "i", "j"]) (sc := { kind := .function, names := [(".0", .local), ("i", .cell), ("sum", .globalImplicit), ("range", .globalImplicit), ("len", .globalImplicit), ("s", .cell), ("table", .cell), ("y", .cell)], isGenerator := false, isCoroutine := false }) (by decide +kernel)) (fun _ _ _ _ _ => pg_name (i := 5) sc.nd rfl (Or.inl rfl)) (fun _ _ _ _ _ => pts_nil) (fun _ _ _ _ _ => (pe_op op_mulW (pe_ix (ix_tupK (K := K) rfl) (pe_ix (ix_tupK (K := K) rfl) (pv 2) (pv 4) (fun _ _ => rfl)) (pv 5) (fun _ _ => rfl)) (pe_ix (ix_tupK (K := K) rfl) (pv 1) (pv 5) (fun _ _ => rfl))))) pa_nil))))) pa_nil))))), ?_⟩
    have gl : (gforms B st).length = B.length := gforms_len h5
    refine ⟨.ref g, rfl, g, _, rfl, h1.t, rfl, .ref tb, [.ref ts], rfl, .ref ts, [], rfl, rfl, ?_⟩
    refine ⟨.ref a, rfl, a, _, rfl, .inr ha.1.t, ((y.map V.int).length : Int), rfl, by omega, ?_, fun D nD => ?_⟩
    · rw [List.length_map]
      omega
    have e0 : ((y.map V.int).length : Int).toNat = B.length := by
      rw [List.length_map]
      omega
    rw [e0]
    refine lc_to (walk_range (lo := 0) (n := B.length)) ((ptI B st y).map V.int) (by unfold ptI; rw [List.length_map, List.length_map, gl]) (small (by omega)) nD (fun H' s => True.intro) ?_ ?_
    · rintro i x z H0 H0' Qy hz hi s0 ⟨rfl, rfl⟩ hq
      obtain ⟨v, hv, rfl⟩ := map_get hz
      obtain ⟨fm, hf, rfl⟩ := map_get hv
      obtain ⟨c, b, hc, hb, rfl⟩ := gforms_get hf
      have hp : i < ps.length := by
        rw [hR.1]
        exact hi
      obtain ⟨Rp, lb⟩ := hR.2 i ps[i] b (List.getElem?_eq_getElem hp) hb
      have ei : (0 + (i : Int)) = ((i : Nat) : Int) := by omega
      refine ⟨rfl, .ref ts, rfl, .int (0 + i), rfl, ts, _, 0 + i, .int c, rfl, rfl, (h4.same s0).1.t, atI_at ei (get_map hc), .ref a, rfl, a, _, rfl, .inr (ha.same s0).1.t, ((y.map V.int).length : Int), rfl, by omega, by rw [List.length_map]; omega, fun D2 nD2 => ?_⟩
      rw [e0]
      refine lc_to (walk_range (lo := 0) (n := B.length)) ((List.zipWith (· * ·) b y).map V.int) (by rw [List.length_map, List.length_zipWith]; omega) (small (by omega)) nD2 (fun H' s => True.intro) ?_ ?_
      · rintro j x w H1 H1' Qy hw hj s1 ⟨rfl, rfl⟩ hq
        obtain ⟨u, hu, rfl⟩ := map_get hw
        obtain ⟨p, r, hp', hr', rfl⟩ := zipW_get hu
        have ej : (0 + (j : Int)) = ((j : Nat) : Int) := by omega
        have s01 := s0.trans s1
        refine ⟨rfl, .ref tb, rfl, .int (0 + i), rfl, tb, _, 0 + i, .ref ps[i], rfl, rfl, (h2.same s01).t, atI_at ei (get_map (List.getElem?_eq_getElem hp)), .int (0 + j), rfl, ps[i], _, 0 + j, .int p, rfl, rfl, (Rp.same s01).1.t, atI_at ej (get_map hp'), .ref a, rfl, .int (0 + j), rfl, a, _, 0 + j, .int r, rfl, rfl, (ha.same s01).1.t, atI_at ej (get_map hr'), p, r, rfl, rfl, ?_, hq _ (Same.refl _)⟩
        exact Nat.lt_trans (wide (Rp.2.2 _ (List.mem_of_getElem? hp')) (ha.2.2 _ (List.mem_of_getElem? hr'))) (by decide)
      · intro H2 s2 d2
        exact ⟨D2, List.zipWith (· * ·) b y, rfl, SqL.of d2, c, dot b y, rfl, rfl, hq H2 s2⟩
    · intro H2 s2 d2
      exact ⟨D, _, rfl, .inl ⟨SqL.of d2, fun T nT => q T _ (s2.trans (same_new nT)) upd_same⟩⟩
theorem ok_value {f : Addr} {fd : FuncData} (F : Fun K "_law_value" "_law_value" s_value f fd) (m_sum : mg "sum" = none) (m_len : mg "len" = none) (m_range : mg "range" = none) : FnOk P w K mg base CX0 1 f fd ["form", "t"] spFval := by
  have sc := sc_value
  refine F.ok sc (fun vs H Q E h => ?_) (fun cdv A outer s H vs Q E hr h => ?_)
  · obtain ⟨a, b, c, xs, ys, rfl, _⟩ := h
    rfl
  · obtain ⟨a, b, c, xs, ys, rfl, ha, hb, hl, q⟩ := h
    refine ⟨_, (pss_one (ps_ret (pe_op op_add (pe_ix ix_tup (pv 0) pe_int (fun _ _ => rfl)) (pe_callB (cr_sum rfl) (by rfl) m_sum (by decide +kernel) (pa_cons (pe_lc (own := [("i", 2)]) (g := gName 2) (by rfl) sc.nd (pi_range1 rfl m_range (pa_cons (pe_callB call_len_seq (by rfl) m_len (by decide +kernel) (pa_cons (pv 1) pa_nil)) pa_nil)) (blkOk_by (own := [("i", 2)]) (N := ["form", "t", "i"]) (sc := defScope s_value) (by decide +kernel)) (fun _ _ _ _ _ => pg_name (i := 2) sc.nd rfl (Or.inl rfl)) (fun _ _ _ _ _ => pts_nil) (fun _ _ _ _ _ => (pe_op op_mulW (pe_ix (ix_tupK (K := K) rfl) (pv 0) (pe_op op_add pe_int (pv 2)) (fun _ _ => rfl)) (pe_ix (ix_tupK (K := K) rfl) (pv 1) (pv 2) (fun _ _ => rfl))))) pa_nil))))), ?_⟩
    refine ⟨.ref a, rfl, a, _, 0, .int c, rfl, rfl, ha.1.t, atI_nat (j := 0) rfl, .ref b, rfl, b, _, rfl, .inr hb.1.t, ((ys.map V.int).length : Int), rfl, by omega, ?_, fun D nD => ?_⟩
    · rw [List.length_map]
      have := hb.2.1
      omega
    have e0 : ((ys.map V.int).length : Int).toNat = ys.length := by
      rw [List.length_map]
      omega
    rw [e0]
    refine lc_to (walk_range (lo := 0) (n := ys.length)) ((List.zipWith (· * ·) xs ys).map V.int) (by rw [List.length_map, List.length_zipWith]; omega) (small hb.2.1) nD (fun H' s => True.intro) ?_ ?_
    · rintro i x y H0 H1 Qy hy hi s0 ⟨rfl, rfl⟩ hq
      obtain ⟨z, hz, rfl⟩ := map_get hy
      obtain ⟨p, r, hp, hr', rfl⟩ := zipW_get hz
      refine ⟨rfl, .ref a, rfl, .int (0 + i), rfl, 1, 0 + i, rfl, rfl, a, _, 1 + (0 + i), .int p, rfl, rfl, (ha.1.same s0).t, atI_at (i := i + 1) (by omega) (get_map (xs := c :: xs) hp), .ref b, rfl, .int (0 + i), rfl, b, _, 0 + i, .int r, rfl, rfl, (hb.1.same s0).t, atI_at (i := i) (by omega) (get_map hr'), p, r, rfl, rfl, ?_, hq _ (Same.refl _)⟩
      exact Nat.lt_trans (wide (ha.tail.2 _ (List.mem_of_getElem? hp)) (hb.2.2 _ (List.mem_of_getElem? hr'))) (by decide)
    · intro H' s d
      exact ⟨D, List.zipWith (· * ·) xs ys, rfl, SqL.of d, c, dot xs ys, rfl, rfl, q H' s⟩
def spDrawn : Sp := fun vs H Q _ => ∃ (m c : Addr) (q n : Nat) (b : Int), vs = [.ref m, .int n, .int b] ∧ MOk H m c q ∧ q ≤ 40000 ∧ n ≤ 10 ∧ 0 ≤ b ∧ b ≤ 1000 ∧ ∀ H' r xs, SameBut m H H' → MOk H' m c (q + 2 * n) → Row H' r xs → xs.length = n → (∀ x ∈ xs, -b ≤ x ∧ x ≤ b) → Q (.ref r) H'
theorem ok_drawn {f : Addr} {fd : FuncData} (F : Fun K "_law_drawn" "_law_drawn" s_drawn f fd) (C__law_signed : Cal P w K mg base 2 "_law_signed" ["m", "most"] spSigned) (m_tuple : mg "tuple" = none) (m_range : mg "range" = none) : FnOk P w K mg base CX0 3 f fd ["m", "size_so", "most"] spDrawn := by
  have sc := sc_drawn
  refine F.ok sc (fun vs H Q E h => ?_) (fun cdv A outer s H vs Q E hr h => ?_)
  · obtain ⟨m, c, q, n, b, rfl, _⟩ := h
    rfl
  · obtain ⟨m, c, q, n, b, rfl, hM, hq, hn, b0, b1, k⟩ := h
    refine ⟨_, (pss_one (ps_ret (pe_callTy call_tuple_of (by rfl) m_tuple (by decide +kernel) (pa_cons (pe_lc (own := [("k", 3)]) (g := gName 3) (by rfl) sc.nd (pi_range1 rfl m_range (pa_cons (pv 1) pa_nil)) (blkOk_by (own := [("k", 3)]) (N := ["m", "size_so", "most", "k"]) (sc := defScope s_drawn) (by decide +kernel)) (fun _ _ _ _ _ => pg_name (i := 3) sc.nd rfl (Or.inl rfl)) (fun _ _ _ _ _ => pts_nil) (fun _ _ _ _ _ => (call_ C__law_signed (hr.mono (by decide)) (by rfl) (pa_cons (pv 0) (pa_cons (pv 2) pa_nil))))) pa_nil)))), ?_⟩
    refine ⟨.int n, rfl, (n : Int), rfl, by omega, by omega, fun D nD => ?_⟩
    rw [Int.toNat_natCast]
    refine lc_dr (w := 2) (q := q) (m := m) (c := c) (fun _ x => -b ≤ x ∧ x ≤ b) (small (by omega)) hM nD ?_ ?_
    · intro e H8 Qy he _ M8 hQ
      exact ⟨rfl, .ref m, rfl, .int b, rfl, m, c, _, b, rfl, M8, by omega, b0, b1, fun H11 x b11 M11 x0 x1 => hQ H11 x b11 M11 ⟨x0, x1⟩⟩
    intro H8 xs b8 M8 d8 l8 bx
    have bx := all_of_get bx
    refine ⟨D, _, rfl, .inl ⟨SqL.of d8, fun T nT => ?_⟩⟩
    have s9 := same_new (o := .tup (xs.map V.int)) nT
    exact k _ T xs (b8.trans (SameBut.of s9)) (M8.same s9) ⟨upd_same, by omega, fun x hx => by
      have := bx x hx
      exact Nat.lt_of_le_of_lt (show x.natAbs ≤ 1000 by omega) (by decide)⟩ l8 bx
end
end K13
namespace K13
open PySem PySem.Spec PyProof.Rows L2 Vk
abbrev s_onew : Stmt := topS 13
theorem sc_onew : FnScope ["table", "s", "m", "rows", "i", "column", "times", "row", "start"] ["table", "s"] (defScope s_onew) := ⟨rfl, rfl, rfl, by decide +kernel, rfl, by decide +kernel, by decide +kernel⟩
/-- xs[j] of a list, by values -/
def rGetL (K : PySem.W.Frag) : V → V → Hp → VK → Prop := fun o i H Q => ∃ (p : Addr) (xs : List V) (j : Nat) (v : V), o = .ref p ∧ i = .int (j : Int) ∧ SqL K H p xs ∧ xs[j]? = some v ∧ xs.length ≤ 1000 ∧ Q v H
theorem pget_listK {X : Cx} {K : PySem.W.Frag} (h : X.K = K) : PGet X (rGetL K) := by
  subst h
  intro pins s σ H o i ov iv Q I ro ri h
  obtain ⟨p, xs, j, v, rfl, rfl, hq, he, hl, q⟩ := h
  cases ro
  obtain ⟨t, rfl⟩ := ri
  obtain ⟨its, r, pl, hz⟩ := I.list hq
  obtain ⟨w, ew, rw'⟩ := r.get he
  have hj := (List.getElem?_eq_some_iff.mp he).1
  exact wpAny_getItem_list pl.isList (by omega) (by omega) (by simpa using ew) ⟨v, H, I, rw', q⟩
/-- a list of lists, each its own -/
def Mh (H : Hp) (L : Addr) (ps : List Addr) (E : List (List Int)) : Prop := H L = some (.lst (ps.map V.ref)) ∧ ps.length = E.length ∧ ps.Nodup ∧ ∀ (r : Nat) (p : Addr) (row : List Int), ps[r]? = some p → E[r]? = some row → H p = some (.lst (row.map V.int))
theorem Mh.same {H H' : Hp} {L : Addr} {ps : List Addr} {E : List (List Int)} (h : Mh H L ps E) (s : Same H H') : Mh H' L ps E := ⟨s _ _ h.1, h.2.1, h.2.2.1, fun r p row h1 h2 => s _ _ (h.2.2.2 r p row h1 h2)⟩
theorem refs_ne {ps : List Addr} {row : List Int} (h : 0 < ps.length) : ps.map V.ref ≠ row.map V.int := by
  cases ps with
  | nil => cases h
  | cons p ps =>
    cases row with
    | nil => intro z; cases z
    | cons x row =>
      intro z
      rw [List.map_cons, List.map_cons] at z
      have := (List.cons.inj z).1
      cases this
/-- row r put in anew -/
theorem Mh.put {H : Hp} {L : Addr} {ps : List Addr} {E : List (List Int)} (h : Mh H L ps E) {r : Nat} {p : Addr} {row : List Int} (hp : ps[r]? = some p) : Mh (upd H p (.lst (row.map V.int))) L ps (E.set r row) := by
  obtain ⟨h1, h2, h3, h4⟩ := h
  have hr : r < ps.length := (List.getElem?_eq_some_iff.mp hp).1
  have hrE : r < E.length := by omega
  have old := h4 r p E[r] hp (List.getElem?_eq_getElem hrE)
  have ne : L ≠ p := by
    rintro rfl
    rw [h1] at old
    exact refs_ne (by omega) (HO.lst.inj (Option.some.inj old))
  refine ⟨by rw [upd_ne ne]; exact h1, by rw [List.length_set]; exact h2, h3, fun r' p' row' e1 e2 => ?_⟩
  by_cases hrr : r = r'
  · subst hrr
    obtain rfl := Option.some.inj (hp.symm.trans e1)
    rw [List.getElem?_set_self hrE] at e2
    obtain rfl := Option.some.inj e2
    exact upd_same
  · rw [List.getElem?_set_ne hrr] at e2
    have np : p' ≠ p := by
      rintro rfl
      have hr' : r' < ps.length := (List.getElem?_eq_some_iff.mp e1).1
      have g1 : ps[r] = p' := Option.some.inj ((List.getElem?_eq_getElem hr).symm.trans hp)
      have g2 : ps[r'] = p' := Option.some.inj ((List.getElem?_eq_getElem hr').symm.trans e1)
      exact hrr ((List.getElem_inj h3).mp (g1.trans g2.symm))
    rw [upd_ne np]
    exact h4 r' p' row' e1 e2
/-- the table's entries by their places -/
def mt (E : List (List Int)) : Mt := fun r k => (E.getD r []).getD k 0
/-- rows i to j - 1 with column c less t times column i -/
def part (E : List (List Int)) (i c : Nat) (t : Int) : Nat → List (List Int)
  | 0 => E
  | j + 1 => (part E i c t j).set (i + j) (((part E i c t j).getD (i + j) []).set c (((part E i c t j).getD (i + j) []).getD c 0 - t * ((part E i c t j).getD (i + j) []).getD i 0))
theorem part_len (E : List (List Int)) (i c : Nat) (t : Int) : ∀ j, (part E i c t j).length = E.length
  | 0 => rfl
  | j + 1 => by
    show ((part E i c t j).set _ _).length = _
    rw [List.length_set, part_len E i c t j]
theorem getD_set_ne {α : Type} {xs : List α} {i j : Nat} {a d : α} (h : i ≠ j) : (xs.set i a).getD j d = xs.getD j d := by
  rw [List.getD_eq_getElem?_getD, List.getD_eq_getElem?_getD, List.getElem?_set_ne h]
theorem getD_set_self {α : Type} {xs : List α} {i : Nat} {a d : α} (h : i < xs.length) : (xs.set i a).getD i d = a := by
  rw [List.getD_eq_getElem?_getD, List.getElem?_set_self h]
  rfl
theorem part_wide {E : List (List Int)} {i c : Nat} {t : Int} {n : Nat} (hE : ∀ r, r < E.length → (E.getD r []).length = n) : ∀ j r, r < E.length → ((part E i c t j).getD r []).length = n
  | 0, r, hr => hE r hr
  | j + 1, r, hr => by
    show (((part E i c t j).set _ _).getD r []).length = n
    by_cases h : i + j = r
    · subst h
      rw [getD_set_self (by rw [part_len]; exact hr), List.length_set]
      exact part_wide hE j _ hr
    · rw [getD_set_ne h]
      exact part_wide hE j r hr
theorem part_mt {E : List (List Int)} {i c : Nat} {t : Int} {n : Nat} (hE : ∀ r, r < E.length → (E.getD r []).length = n) (hc : c < n) : ∀ j, i + j ≤ E.length → ∀ r k, mt (part E i c t j) r k = if r < i + j then opC (mt E) i c t r k else mt E r k
  | 0, _, r, k => by
    show mt E r k = _
    split
    · unfold opC
      rw [if_neg (fun z => by omega)]
    · rfl
  | j + 1, hj, r, k => by
    have ih := part_mt (i := i) (t := t) hE hc j (by omega)
    have e : ∀ x, ((part E i c t j).getD (i + j) []).getD x 0 = mt E (i + j) x := fun x => by
      have := ih (i + j) x
      rw [if_neg (Nat.lt_irrefl _)] at this
      exact this
    show (((part E i c t j).set _ _).getD r []).getD k 0 = _
    by_cases h : i + j = r
    · subst h
      rw [getD_set_self (xs := part E i c t j) (i := i + j) (by rw [part_len]; omega), if_pos (by omega), e, e]
      unfold opC
      by_cases hk : k = c
      · subst hk
        rw [getD_set_self (by rw [part_wide hE j (i + j) (by omega)]; exact hc), if_pos ⟨rfl, by omega⟩]
      · rw [getD_set_ne (fun z => hk z.symm), if_neg (fun z => hk z.1)]
        exact e k
    · rw [getD_set_ne h]
      show mt (part E i c t j) r k = _
      rw [ih]
      by_cases h1 : r < i + j
      · rw [if_pos h1, if_pos (by omega)]
      · rw [if_neg h1, if_neg (by omega)]
theorem part_all {E : List (List Int)} {i c : Nat} {t : Int} {n : Nat} (hE : ∀ r, r < E.length → (E.getD r []).length = n) (hc : c < n) (hi : i ≤ E.length) : mt (part E i c t (E.length - i)) = opC (mt E) i c t := by
  funext r k
  rw [part_mt hE hc _ (by omega)]
  by_cases h : r < i + (E.length - i)
  · rw [if_pos h]
  · rw [if_neg h]
    have z : ∀ x, mt E r x = 0 := fun x => by
      have e : E.getD r [] = [] := by
        rw [List.getD_eq_getElem?_getD, List.getElem?_eq_none (by omega)]
        rfl
      unfold mt
      rw [e]
      rfl
    unfold opC
    split
    · rw [z, z, z, Int.mul_zero]
      rfl
    · rfl
theorem opC_zero (e : Mt) (i c : Nat) : opC e i c 0 = e := by
  funext r k
  unfold opC
  split
  · rename_i h
    rw [h.1, Int.zero_mul, Int.sub_zero]
  · rfl
theorem Mid.weaken {n i : Nat} {d d' : Nat → Prop} {e0 e : Mt} (h : Mid n i d e0 e) (w : ∀ k, d' k → d k) : Mid n i d' e0 e := ⟨h.red, fun c hc => h.col c (w c hc)⟩
end K13
namespace K13
open PySem PySem.Spec PyProof.Rows L2 Vk
theorem sl_listK {X : Cx} {K : PySem.W.Frag} (h : X.K = K) : SlR X (rSlL K) := by
  subst h
  exact sl_list
/-- the steps ahead of row i -/
def cnt : Nat → Nat
  | 0 => 0
  | i + 1 => cnt i + (i + 1)
theorem cnt_le : ∀ i, i ≤ 4 → cnt i ≤ 10 := by decide
def bd (n : Nat) : Nat := 16 * 2 ^ n - 1
theorem bd_succ (n : Nat) : 2 * bd n + 1 = bd (n + 1) := by
  unfold bd
  rw [Nat.pow_succ]
  have := Nat.two_pow_pos n
  omega
theorem bd_mono {a b : Nat} (h : a ≤ b) : bd a ≤ bd b := by
  unfold bd
  have := Nat.pow_le_pow_right (show 0 < 2 by decide) h
  omega
theorem mulB {k j : Nat} {x y : Int} (hk : 0 < k) (hj : 0 < j) (h1 : SmZ k x) (h2 : SmZ j y) (h : k + j ≤ 900000) : CMulW x y := by
  have a := smz_log hk h1
  have b := smz_log hj h2
  show x.natAbs.log2 + y.natAbs.log2 < 1000000
  omega
/-- entries of few bits -/
def Sml (E : List (List Int)) (b : Nat) : Prop := ∀ r ∈ E, ∀ x ∈ r, SmZ b x
theorem sml_step {b : Nat} {x t y : Int} (h1 : SmZ b x) (h2 : SmZ b t) (h3 : SmZ b y) : SmZ (2 * b + 1) (x - t * y) := by
  have h := smz_mul h2 h3
  unfold SmZ at *
  have e : (x - t * y).natAbs ≤ x.natAbs + (t * y).natAbs := by omega
  have p : (2 : Nat) ^ b ≤ 2 ^ (b + b) := Nat.pow_le_pow_right (by decide) (by omega)
  have q : (2 : Nat) ^ (2 * b + 1) = 2 ^ (b + b) * 2 := by
    rw [← Nat.pow_succ]
    congr 1
    omega
  omega
theorem part_sml {E : List (List Int)} {i c b : Nat} {t : Int} (h : Sml E b) (ht : SmZ b t) (hi : ∀ r ∈ E, i < r.length ∧ c < r.length) : ∀ j, Sml (part E i c t j) (2 * b + 1) ∧ ∀ r, i + j ≤ r → (part E i c t j).getD r [] = E.getD r []
  | 0 => ⟨fun r hr x hx => smz_mono (h r hr x hx) (by omega), fun r _ => rfl⟩
  | j + 1 => by
    obtain ⟨h1, h2⟩ := part_sml h ht hi j
    refine ⟨fun r hr x hx => ?_, fun r hr => ?_⟩
    · have hr : r ∈ (part E i c t j).set (i + j) (((part E i c t j).getD (i + j) []).set c (((part E i c t j).getD (i + j) []).getD c 0 - t * ((part E i c t j).getD (i + j) []).getD i 0)) := hr
      rcases List.mem_or_eq_of_mem_set hr with h' | rfl
      · exact h1 r h' x hx
      · rw [h2 _ (Nat.le_refl _)] at hx
        by_cases hl : i + j < E.length
        · have hm : E.getD (i + j) [] ∈ E := by
            rw [List.getD_eq_getElem?_getD, List.getElem?_eq_getElem hl]
            exact List.getElem_mem hl
          obtain ⟨l1, l2⟩ := hi _ hm
          rcases List.mem_or_eq_of_mem_set hx with h' | rfl
          · exact smz_mono (h _ hm x h') (by omega)
          · exact sml_step (h _ hm _ (List.mem_of_getElem? (getD_at l2))) ht (h _ hm _ (List.mem_of_getElem? (getD_at l1)))
        · have e : E.getD (i + j) [] = [] := by
            rw [List.getD_eq_getElem?_getD, List.getElem?_eq_none (by omega)]
            rfl
          rw [e] at hx
          cases hx
    · show ((part E i c t j).set _ _).getD r [] = _
      rw [getD_set_ne (by omega)]
      exact h2 r (by omega)
/-- a table with its start behind -/
def extI (T : List (List Int)) (s : List Int) : List (List Int) := List.zipWith (fun r a => r ++ [a]) T s
def spOnew : Sp := fun vs H Q _ => ∃ (a b : Addr) (ps : List Addr) (T : List (List Int)) (s : List Int), vs = [.ref a, .ref b] ∧ H a = some (.lst (ps.map V.ref)) ∧ Rws H ps T T.length ∧ H b = some (.lst (s.map V.int)) ∧ s.length = T.length ∧ T.length ≤ 4 ∧ Sml (extI T s) 15 ∧ Tri T.length (mt (extI T s)) ∧
  ∀ r T' s' H', Same H H' → Gr H' r T' s' → T'.length = T.length → Red T.length T.length (mt (extI T s)) (mt (extI T' s')) → Q (.ref r) H'
theorem cut_from {xs : List V} {i : Nat} : cutV xs (some (i : Int)) none = xs.drop i := by
  unfold cutV
  rw [HT.sIx_none, HT.sIx_nat]
  rw [List.take_of_length_le (by rw [List.length_drop]; omega)]
  by_cases h : i ≤ xs.length
  · rw [Nat.min_eq_left h]
  · rw [Nat.min_eq_right (by omega), List.drop_length, List.drop_eq_nil_of_le (by omega)]
theorem cut_to {xs : List V} {n : Nat} : cutV xs none (some (n : Int)) = xs.take n := by
  unfold cutV
  rw [HT.sIx_none, HT.sIx_nat, List.drop_zero, Nat.sub_zero]
  by_cases h : n ≤ xs.length
  · rw [Nat.min_eq_left h]
  · rw [Nat.min_eq_right (by omega), List.take_length, List.take_of_length_le (by omega)]
theorem extI_get {T : List (List Int)} {s : List Int} {i : Nat} {r : List Int} {c : Int} (h1 : T[i]? = some r) (h2 : s[i]? = some c) : (extI T s).getD i [] = r ++ [c] := by
  rw [List.getD_eq_getElem?_getD]
  unfold extI
  rw [List.getElem?_zipWith, h1, h2]
  rfl
theorem extI_len {T : List (List Int)} {s : List Int} (h : s.length = T.length) : (extI T s).length = T.length := by
  unfold extI
  rw [List.length_zipWith, h, Nat.min_self]
theorem ext_back {n : Nat} : ∀ E : List (List Int), (∀ r ∈ E, r.length = n + 1) → extI (E.map (List.take n)) (E.map fun r => r.getD n 0) = E
  | [], _ => rfl
  | r :: E, h => by
    have hr := h r (List.mem_cons_self ..)
    show (r.take n ++ [r.getD n 0]) :: extI (E.map (List.take n)) (E.map fun r => r.getD n 0) = r :: E
    rw [ext_back E fun x hx => h x (List.mem_cons_of_mem _ hx)]
    congr 1
    have e : r.getD n 0 = r[n]'(by omega) := by
      rw [List.getD_eq_getElem?_getD, List.getElem?_eq_getElem (by omega)]
      rfl
    rw [e, List.take_append_getElem, List.take_of_length_le (by omega)]
theorem wide_of {E : List (List Int)} {n : Nat} (h : ∀ r, r < E.length → (E.getD r []).length = n) : ∀ r ∈ E, r.length = n := fun r hr => by
  obtain ⟨i, hi⟩ := List.getElem?_of_mem hr
  have := h i (List.getElem?_eq_some_iff.mp hi).1
  rw [List.getD_eq_getElem?_getD, hi] at this
  exact this
section
variable {P : Program} {w : World} {K : PySem.W.Frag} {mg : Str → Option Value} {base : Heap}
theorem ok_onew {f : Addr} {fd : FuncData} (F : Fun K "_one_writing" "_one_writing" s_onew f fd) (m_len : mg "len" = none) (m_zip : mg "zip" = none) (m_range : mg "range" = none) (m_list : mg "list" = none) (m_tuple : mg "tuple" = none) : FnOk P w K mg base CX0 1 f fd ["table", "s"] spOnew := by
  have sc := sc_onew
  refine F.ok sc (fun vs H Q E h => ?_) (fun cdv A outer s H vs Q E hr h => ?_)
  · obtain ⟨a, b, ps, T, s, rfl, _⟩ := h
    rfl
  · obtain ⟨a, b, ps, T, st, rfl, ha, hR, hb, ls, l4, sm, tri, q⟩ := h
    refine ⟨_, (pss_cons (ps_set (i := 2) sc.nd rfl (Or.inr rfl) (pe_callB call_len_seq (by rfl) m_len (by decide +kernel) (pa_cons (pv 1) pa_nil)))
    (pss_cons (ps_setLc (i := 3) (own := [("row", 7), ("start", 8)]) (g := gTup K 2 (gCons (gName 7) (gCons (gName 8) gNil))) (by rfl) sc.nd rfl rfl (sw_true rfl rfl rfl (by decide +kernel)) (pi_zipK (by rfl) m_zip (pa_cons (pv 0) (pa_cons (pv 1) pa_nil))) (blkOk_by (own := [("row", 7), ("start", 8)]) (N := ["table", "s", "m", "rows", "i", "column", "times", "row", "start"]) (sc := defScope s_onew) (by decide +kernel)) (fun _ _ _ _ _ => pg_tup (n := 2) (by rfl) (pgs_cons (pg_name (i := 7) sc.nd rfl (Or.inl rfl)) (pgs_cons (pg_name (i := 8) sc.nd rfl (Or.inl rfl)) pgs_nil))) (fun _ _ _ _ _ => pts_nil) (fun _ _ _ _ _ => (pe_lst (pa_starK (K := K) rfl (pv 7) (pa_cons (pv 8) pa_nil)))))
    (pss_cons (ps_for PassesOwn.never rfl (pi_range1 rfl m_range (pa_cons (pv 2) pa_nil)) (pg_name (i := 4) sc.nd rfl (Or.inl rfl))
      (pss_one (ps_for PassesOwn.never rfl (pi_list (pe_op op_cat (pe_listRg rfl (by rfl) m_list (prg_1 (by rfl) m_range (pv 4))) (pe_lst (pa_cons (pv 2) pa_nil)))) (pg_name (i := 5) sc.nd rfl (Or.inl rfl))
      (pss_cons (ps_set (i := 6) sc.nd rfl (Or.inl rfl) (pe_op op_fdivX (pe_ix ix_list (pe_ix ix_list (pv 3) (pv 4) (fun _ _ => rfl)) (pv 5) (fun _ _ => rfl)) (pe_ix ix_list (pe_ix ix_list (pv 3) (pv 4) (fun _ _ => rfl)) (pv 4) (fun _ _ => rfl))))
    (pss_one (ps_if (pt_cmpR op_ne (pv 6) pe_int (nomark _))
      (pss_one (ps_for PassesOwn.never rfl (pi_list (pe_slice sl_list (pv 3) (po_some (pv 4)) po_none)) (pg_name (i := 7) sc.nd rfl (Or.inl rfl))
      (pss_one (ps_augS (pv 7) (pv 5) (pget_listK (K := K) rfl) (pe_op op_mulW (pv 6) (pe_ix ix_list (pv 7) (pv 4) (fun _ _ => rfl))) ip_sub set_list))))
      pss_nil))))))
    (pss_one (ps_ret (pe_tup (pa_cons (pe_callTy call_tuple_of (by rfl) m_tuple (by decide +kernel) (pa_cons (pe_lc (own := [("row", 7)]) (g := gName 7) (by rfl) sc.nd (pi_list (pv 3)) (blkOk_by (own := [("row", 7)]) (N := ["table", "s", "m", "rows", "i", "column", "times", "row", "start"]) (sc := defScope s_onew) (by decide +kernel)) (fun _ _ _ _ _ => pg_name (i := 7) sc.nd rfl (Or.inl rfl)) (fun _ _ _ _ _ => pts_nil) (fun _ _ _ _ _ => (pe_callTy (call_tuple_ofK (K := K) rfl) (by rfl) m_tuple (by decide +kernel) (pa_cons (pe_slice (sl_listK (K := K) rfl) (pv 7) po_none (po_some (pv 2))) pa_nil)))) pa_nil)) (pa_cons (pe_callTy call_tuple_of (by rfl) m_tuple (by decide +kernel) (pa_cons (pe_lc (own := [("row", 7)]) (g := gName 7) (by rfl) sc.nd (pi_list (pv 3)) (blkOk_by (own := [("row", 7)]) (N := ["table", "s", "m", "rows", "i", "column", "times", "row", "start"]) (sc := defScope s_onew) (by decide +kernel)) (fun _ _ _ _ _ => pg_name (i := 7) sc.nd rfl (Or.inl rfl)) (fun _ _ _ _ _ => pts_nil) (fun _ _ _ _ _ => (pe_ix (ix_listK (K := K) rfl) (pv 7) (pv 2) (fun _ _ => rfl)))) pa_nil)) pa_nil)))))))), ?_⟩
    obtain ⟨n, hn⟩ : ∃ n, n = T.length := ⟨_, rfl⟩
    rw [← hn] at hR ls l4 tri q
    have lE : (extI T st).length = n := by rw [extI_len (by omega), hn]
    have wE : ∀ r, r < (extI T st).length → ((extI T st).getD r []).length = n + 1 := fun r hr => by
      have h1 : T[r]? = some (T[r]'(by omega)) := List.getElem?_eq_getElem (by omega)
      have h2 : st[r]? = some (st[r]'(by omega)) := List.getElem?_eq_getElem (by omega)
      have h3 : r < ps.length := by rw [hR.1]; omega
      rw [extI_get h1 h2, List.length_append, (hR.2 r ps[r] _ (List.getElem?_eq_getElem h3) h1).2]
      rfl
    refine ⟨.ref b, rfl, b, _, rfl, .inl (SqL.of hb), ?_⟩
    rw [List.length_map, ls]
    refine ⟨.ref a, rfl, .ref b, rfl, true, true, a, b, ps.map V.ref, st.map V.int, rfl, SqL.of ha, SqL.of hb, fun D nD => ?_⟩
    refine lc_objs (walk_zipK (n := n) (by rw [List.length_map, List.length_map, hR.1]; omega)) (fun i => .lst (((extI T st).getD i []).map V.int)) (small (by omega)) nD (fun H' s => ⟨SqL.of (s _ _ ha), SqL.of (s _ _ hb)⟩) ?_ ?_
    · rintro i x H0 H0' Qy hi s0 ⟨T', u, v, rfl, nT, rfl, hu, hv⟩ hq
      obtain ⟨p, hp, rfl⟩ := map_get hu
      obtain ⟨c, hc, rfl⟩ := map_get hv
      have h1 : T[i]? = some (T[i]'(by omega)) := List.getElem?_eq_getElem (by omega)
      obtain ⟨Rp, lr⟩ := hR.2 i p _ hp h1
      rw [extI_get h1 hc] at hq
      have s1 : Same H0 (upd H0 T' (.tup [.ref p, .int c])) := same_new nT
      refine ⟨T', [.ref p, .int c], rfl, SqT.of upd_same, rfl, .ref p, [.int c], rfl, .int c, [], rfl, rfl, rfl, .ref p, rfl, p, _, rfl, .inl ((Rp.same s0).same s1).1.t, .int c, rfl, ?_⟩
      refine ⟨by rw [List.length_append, List.length_map]; exact Nat.le_of_lt (small (by show _ + 1 ≤ 100; omega)), fun q nq => ?_⟩
      refine hq q _ (s1.trans (same_new nq)) (s1.free nq) ?_
      rw [upd_same, List.map_append]
      rfl
    intro H1 qs s1 d l nd fr ob
    have M1 : Mh H1 D qs (extI T st) := ⟨d, by rw [lE, l], nd, fun r p row h1 h2 => by
      have := ob r p h1
      rw [List.getD_eq_getElem?_getD, h2] at this
      exact this⟩
    clear ob d
    have b0 : Sml (extI T st) (bd (cnt 0)) := sm
    refine ⟨.int n, rfl, (n : Int), rfl, by omega, by omega, ?_⟩
    rw [Int.toNat_natCast]
    refine for_range (lo := 0) (n := n) (fun i σ H' => ∃ E, (∃ y4 y5 y6 y7 y8, σ = [some (.ref a), some (.ref b), some (.int n), some (.ref D), y4, y5, y6, y7, y8]) ∧ Same H H' ∧ Mh H' D qs E ∧ (∀ r, r < E.length → (E.getD r []).length = n + 1) ∧ Sml E (bd (cnt i)) ∧ Red n i (mt (extI T st)) (mt E)) ⟨_, ⟨none, none, none, none, none, rfl⟩, s1, M1, wE, b0, .start tri⟩ ?_ ?_
    · rintro i σ H2 hi ⟨E, ⟨y4, y5, y6, y7, y8, rfl⟩, s2, M2, w2, b2, R2⟩
      have ei : (0 + (i : Int)) = ((i : Nat) : Int) := by omega
      refine ⟨.int (0 + i), rfl, 0 + i, rfl, RgOk.of_le (by decide) (by omega) (by decide) (by omega), fun C1 nC1 => ⟨.int n, rfl, by show 1 ≤ sizeLine; decide, fun C2 nC2 => ?_⟩⟩
      have s3 : Same H2 (upd H2 C1 (.lst (rgV 0 (0 + i)))) := same_new nC1
      have g3 : upd H2 C1 (.lst (rgV 0 (0 + i))) C1 = some (.lst (rgV 0 (0 + i))) := upd_same
      generalize upd H2 C1 (.lst (rgV 0 (0 + i))) = H3 at s3 g3 nC2 ⊢
      have s4 : Same H3 (upd H3 C2 (.lst [.int n])) := same_new nC2
      have g4 : upd H3 C2 (.lst [.int n]) C2 = some (.lst [.int n]) := upd_same
      generalize upd H3 C2 (.lst [.int n]) = H4 at s4 g4 ⊢
      have lr : (rgV 0 (0 + i)).length = i := by
        rw [rgV_length]
        omega
      refine ⟨C1, C2, _, _, rfl, rfl, s4 _ _ g3, g4, Nat.le_of_lt (small (by rw [lr]; show i + 1 ≤ 100; omega)), fun C nC => ?_⟩
      have s5 : Same H4 (upd H4 C (.lst (rgV 0 (0 + i) ++ [.int n]))) := same_new nC
      have g5 : upd H4 C (.lst (rgV 0 (0 + i) ++ [.int n])) C = some (.lst (rgV 0 (0 + i) ++ [.int n])) := upd_same
      have M4 := (M2.same s3).same s4
      have pC : ∀ p ∈ qs, p ≠ C := fun p hp => by
        obtain ⟨j, hj⟩ := List.getElem?_of_mem hp
        have hjE : j < E.length := by
          rw [← M4.2.1]
          exact (List.getElem?_eq_some_iff.mp hj).1
        exact ne_of_none (M4.2.2.2 j p _ hj (List.getElem?_eq_getElem hjE)) nC
      generalize upd H4 C (.lst (rgV 0 (0 + i) ++ [.int n])) = H5 at s5 g5 ⊢
      have s25 := (s3.trans s4).trans s5
      have lC : (rgV 0 (0 + i) ++ [V.int n]).length = i + 1 := by rw [List.length_append, lr]; rfl
      refine ⟨C, rfl, ⟨_, SqL.of g5⟩, ?_⟩
      refine for_it (walk_list (K := K) (a := C) (xs := rgV 0 (0 + i) ++ [.int n])) (fun j σ H' => ∃ E, (∃ y5 y6 y7 y8, σ = [some (.ref a), some (.ref b), some (.int n), some (.ref D), some (.int (0 + i)), y5, y6, y7, y8]) ∧ Same H H' ∧ H' C = some (.lst (rgV 0 (0 + i) ++ [.int n])) ∧ Mh H' D qs E ∧ (∀ r, r < E.length → (E.getD r []).length = n + 1) ∧ Sml E (bd (cnt i + j)) ∧ Mid n i (fun k => (k < j ∧ k < i) ∨ (i < j ∧ k = n)) (mt (extI T st)) (mt E))
        ⟨E, ⟨_, _, _, _, rfl⟩, s2.trans s25, g5, M2.same s25, w2, b2, (Mid.start R2).weaken fun k hk => by omega⟩ (fun j σ H' _ p => by obtain ⟨_, _, _, g, _⟩ := p; exact SqL.of g) ?_ ?_
      · rintro j x σ H6 H6' hj ⟨E', ⟨y5, y6, y7, y8, rfl⟩, s6, g6, M6, w6, b6, R6⟩ ⟨rfl, hx⟩
        rw [lC] at hj
        have lE' : E'.length = n := by rw [← M6.2.1, l]
        obtain ⟨c, rfl, hc⟩ : ∃ c : Nat, x = .int c ∧ (j < i ∧ c = j ∨ j = i ∧ c = n) := by
          by_cases h : j < i
          · rw [List.getElem?_append_left (by omega)] at hx
            unfold rgV at hx
            rw [List.getElem?_map, List.getElem?_range (by omega)] at hx
            refine ⟨j, ?_, .inl ⟨h, rfl⟩⟩
            rw [← Option.some.inj hx]
            exact congrArg V.int (by omega)
          · rw [List.getElem?_append_right (by omega), lr, show j - i = 0 by omega] at hx
            exact ⟨n, (Option.some.inj hx).symm, .inr ⟨by omega, rfl⟩⟩
        have hiq : i < qs.length := by omega
        have hp : qs[i]? = some qs[i] := List.getElem?_eq_getElem hiq
        have hrow : E'[i]? = some (E'.getD i []) := by
          rw [List.getD_eq_getElem?_getD, List.getElem?_eq_getElem (by omega)]
          rfl
        have hw := w6 i (by omega)
        have gp := M6.2.2.2 i qs[i] _ hp hrow
        have hmem : E'.getD i [] ∈ E' := List.mem_of_getElem? hrow
        have gc := getD_at (xs := E'.getD i []) (i := c) (by omega)
        have gi := getD_at (xs := E'.getD i []) (i := i) (by omega)
        have pos : 0 < mt E' i i := R6.red.tri.pos i hi
        have zii : SmZ 15 (mt E' i i) := by
          rw [R6.red.dia i hi]
          have h1 : (extI T st)[i]? = some ((extI T st).getD i []) := by
            rw [List.getD_eq_getElem?_getD, List.getElem?_eq_getElem (by omega)]
            rfl
          exact sm _ (List.mem_of_getElem? h1) _ (List.mem_of_getElem? (getD_at (by rw [wE i (by omega)]; omega)))
        have zic : SmZ (bd (cnt i + j)) (mt E' i c) := b6 _ hmem _ (List.mem_of_getElem? gc)
        refine ⟨.ref D, rfl, .int (0 + i), rfl, D, _, 0 + i, .ref qs[i], rfl, rfl, SqL.of M6.1, atI_at ei (get_map hp), .int c, rfl, qs[i], _, (c : Int), .int (mt E' i c), rfl, rfl, SqL.of gp, atI_at rfl (get_map gc), .ref D, rfl, .int (0 + i), rfl, D, _, 0 + i, .ref qs[i], rfl, rfl, SqL.of M6.1, atI_at ei (get_map hp), .int (0 + i), rfl, qs[i], _, 0 + i, .int (mt E' i i), rfl, rfl, SqL.of gp, atI_at ei (get_map gi), mt E' i c, mt E' i i, rfl, rfl, ⟨by omega, Nat.lt_trans (PySem.Flt.log2_lt_of (by decide) zii) (by decide)⟩, ?_⟩
        have step := Mid.step R6 (c := c) hi (by omega) (by omega) (fun k hk => by omega)
        have zt : SmZ (bd (cnt i + j)) ((mt E' i c).fdiv (mt E' i i)) := Nat.lt_of_le_of_lt (fdiv_abs pos) zic
        obtain ⟨t, ht⟩ : ∃ t, t = (mt E' i c).fdiv (mt E' i i) := ⟨_, rfl⟩
        rw [← ht] at step zt
        show gName 6 (.int ((mt E' i c).fdiv (mt E' i i))) _ _ _
        rw [← ht]
        have hN : cnt i + j ≤ 9 := by
          have h3 : i ≤ 3 := by omega
          have : cnt i ≤ 6 := by
            have := (by decide : ∀ i, i ≤ 3 → cnt i ≤ 6)
            exact this i h3
          omega
        have bB : bd (cnt i + j) ≤ 8191 := Nat.le_trans (bd_mono hN) (by decide)
        have wk : ∀ k, (k < j + 1 ∧ k < i) ∨ (i < j + 1 ∧ k = n) → ((k < j ∧ k < i) ∨ (i < j ∧ k = n)) ∨ k = c := fun k hk => by omega
        refine ⟨.int t, rfl, rfl, _, rfl, ite2 (fun hne => ?_) (fun hne => ?_)⟩
        · -- the rows from i on
          refine ⟨.ref D, rfl, .int (0 + i), rfl, 0 + i, rfl, D, _, rfl, SqL.of M6.1, fun S nS => ?_⟩
          have eS : cutV (qs.map V.ref) (some (0 + (i : Int))) none = (qs.drop i).map V.ref := by
            rw [ei, cut_from, List.map_drop]
          rw [eS]
          have s7 : Same H6' (upd H6' S (.lst ((qs.drop i).map V.ref))) := same_new nS
          have g7 : upd H6' S (.lst ((qs.drop i).map V.ref)) S = some (.lst ((qs.drop i).map V.ref)) := upd_same
          have pS : ∀ p ∈ qs, p ≠ S := fun p hp => by
            obtain ⟨k, hk⟩ := List.getElem?_of_mem hp
            have hkE : k < E'.length := by
              rw [← M6.2.1]
              exact (List.getElem?_eq_some_iff.mp hk).1
            exact ne_of_none (M6.2.2.2 k p _ hk (List.getElem?_eq_getElem hkE)) nS
          generalize upd H6' S (.lst ((qs.drop i).map V.ref)) = H7 at s7 g7 ⊢
          have lS : ((qs.drop i).map V.ref).length = n - i := by rw [List.length_map, List.length_drop, l]
          have psm := part_sml (i := i) (c := c) b6 zt (fun r hr => by
            have := wide_of w6 r hr
            omega)
          refine ⟨S, rfl, ⟨_, SqL.of g7⟩, ?_⟩
          refine for_it (walk_list (K := K) (a := S) (xs := (qs.drop i).map V.ref)) (fun r σ H' => (∃ y7 y8, σ = [some (.ref a), some (.ref b), some (.int n), some (.ref D), some (.int (0 + i)), some (.int c), some (.int t), y7, y8]) ∧ Same H H' ∧ H' C = some (.lst (rgV 0 (0 + i) ++ [.int n])) ∧ H' S = some (.lst ((qs.drop i).map V.ref)) ∧ Mh H' D qs (part E' i c t r))
            ⟨⟨_, _, rfl⟩, s6.trans s7, s7 _ _ g6, g7, M6.same s7⟩ (fun r σ H' _ p => by obtain ⟨_, _, _, g, _⟩ := p; exact SqL.of g) ?_ ?_
          · rintro r x σ H8 H8' hr ⟨⟨y7, y8, rfl⟩, s8, c8, g8, M8⟩ ⟨rfl, hx⟩
            rw [lS] at hr
            obtain ⟨p, hp, rfl⟩ := map_get hx
            rw [List.getElem?_drop] at hp
            have lP := part_len E' i c t r
            have hrow8 : (part E' i c t r)[i + r]? = some ((part E' i c t r).getD (i + r) []) := by
              rw [List.getD_eq_getElem?_getD, List.getElem?_eq_getElem (by omega)]
              rfl
            have gp8 := M8.2.2.2 (i + r) p _ hp hrow8
            have ew := (psm r).2 (i + r) (Nat.le_refl _)
            have pq : p ∈ qs := List.mem_of_getElem? hp
            have hrE : E'[i + r]? = some (E'.getD (i + r) []) := by
              rw [List.getD_eq_getElem?_getD, List.getElem?_eq_getElem (by omega)]
              rfl
            have hmr : E'.getD (i + r) [] ∈ E' := List.mem_of_getElem? hrE
            have lw : ((part E' i c t r).getD (i + r) []).length = n + 1 := part_wide w6 r (i + r) (by omega)
            have gc8 := getD_at (xs := (part E' i c t r).getD (i + r) []) (i := c) (by omega)
            have gi8 := getD_at (xs := (part E' i c t r).getD (i + r) []) (i := i) (by omega)
            have zi8 : SmZ (bd (cnt i + j)) (((part E' i c t r).getD (i + r) []).getD i 0) := by
              rw [ew]
              rw [ew] at gi8
              exact b6 _ hmr _ (List.mem_of_getElem? gi8)
            refine ⟨.ref p, rfl, .int c, rfl, p, _, c, _, rfl, rfl, SqL.of gp8, get_map gc8, by rw [List.length_map]; omega, .int t, rfl, .ref p, rfl, .int (0 + i), rfl, p, _, 0 + i, _, rfl, rfl, SqL.of gp8, atI_at ei (get_map gi8), t, _, rfl, rfl, mulB (by have := bd_mono (Nat.zero_le (cnt i + j)); have : bd 0 = 15 := rfl; omega) (by have := bd_mono (Nat.zero_le (cnt i + j)); have : bd 0 = 15 := rfl; omega) zt zi8 (by omega), _, _, rfl, rfl, p, _, (c : Int), c, rfl, rfl, gp8, ?_, ?_⟩
            · unfold ixN
              rw [if_pos (by omega), if_pos (by rw [List.length_map]; omega)]
              rfl
            · have em : ((((part E' i c t r).getD (i + r) []).map V.int).set c (.int (((part E' i c t r).getD (i + r) []).getD c 0 - t * ((part E' i c t r).getD (i + r) []).getD i 0))) = (((part E' i c t r).getD (i + r) []).set c (((part E' i c t r).getD (i + r) []).getD c 0 - t * ((part E' i c t r).getD (i + r) []).getD i 0)).map V.int := by
                rw [List.map_set]
              rw [em]
              refine ⟨⟨_, _, rfl⟩, same_put s8 (fr p pq), ?_, ?_, M8.put hp⟩
              · rw [upd_ne (Ne.symm (pC p pq))]
                exact c8
              · rw [upd_ne (Ne.symm (pS p pq))]
                exact g8
          · rintro σ H8 ⟨⟨y7, y8, rfl⟩, s8, c8, g8, M8⟩
            rw [lS] at M8
            refine ⟨_, ⟨_, _, _, _, rfl⟩, s8, c8, M8, fun r hr => ?_, ?_, ?_⟩
            · rw [part_len] at hr
              exact part_wide w6 _ r hr
            · have h := (psm (n - i)).1
              rw [bd_succ] at h
              exact h
            · have h := part_all (E := E') (i := i) (c := c) (t := t) w6 (by omega) (by omega)
              rw [lE'] at h
              rw [h]
              exact step.weaken wk
        · have t0 : t = 0 := by
            by_cases z : t = 0
            · exact z
            · refine absurd ?_ hne
              rw [decide_eq_false (fun w => z (V.int.inj w))]
              rfl
          subst t0
          rw [opC_zero] at step
          exact ⟨E', ⟨_, _, _, _, rfl⟩, s6, g6, M6, w6, fun r hr x hx => smz_mono (b6 r hr x hx) (bd_mono (by omega)), step.weaken wk⟩
      · rintro σ H6 ⟨E', ⟨y5, y6, y7, y8, rfl⟩, s6, g6, M6, w6, b6, R6⟩
        rw [lC] at b6 R6
        exact ⟨E', ⟨_, _, _, _, _, rfl⟩, s6, M6, w6, b6, R6.done fun c hc => by omega⟩
    · rintro σ H2 ⟨E, ⟨y4, y5, y6, y7, y8, rfl⟩, s2, M2, w2, b2, R2⟩
      have lE' : E.length = n := by rw [← M2.2.1, l]
      have hwd := wide_of w2
      have zz : ∀ r k, r < n → k ≤ n → SmZ 15 (mt E r k) := fun r k hr hk => by
        have zd : SmZ 15 (mt E r r) := by
          rw [R2.dia r hr]
          have h1 : (extI T st)[r]? = some ((extI T st).getD r []) := by
            rw [List.getD_eq_getElem?_getD, List.getElem?_eq_getElem (by omega)]
            rfl
          exact sm _ (List.mem_of_getElem? h1) _ (List.mem_of_getElem? (getD_at (by rw [wE r (by omega)]; omega)))
        obtain ⟨⟨n0, n1⟩, row⟩ := R2.row r hr hr
        have le : ∀ x : Int, 0 ≤ x → x < mt E r r → SmZ 15 x := fun x h0 h1 => by
          have zd' : (mt E r r).natAbs < 2 ^ 15 := zd
          show x.natAbs < 2 ^ 15
          omega
        rcases Nat.lt_trichotomy k r with h | h | h
        · exact le _ (row k h).1 (row k h).2
        · subst h
          exact zd
        · by_cases hkn : k = n
          · subst hkn
            exact le _ n0 n1
          · rw [R2.tri.up r k h (by omega)]
            exact (by decide : (0 : Int).natAbs < 2 ^ 15)
      have zrow : ∀ r ∈ E, ∀ x ∈ r, SmZ 300 x := fun r hr x hx => by
        obtain ⟨i, hi⟩ := List.getElem?_of_mem hr
        obtain ⟨k, hk⟩ := List.getElem?_of_mem hx
        have hi' := (List.getElem?_eq_some_iff.mp hi).1
        have hk' := (List.getElem?_eq_some_iff.mp hk).1
        have hlr := hwd r hr
        have e : mt E i k = x := by
          unfold mt
          have e1 : E.getD i [] = r := by
            rw [List.getD_eq_getElem?_getD, hi]
            rfl
          rw [e1, List.getD_eq_getElem?_getD, hk]
          rfl
        rw [← e]
        exact smz_mono (zz i k (by omega) (by omega)) (by decide)
      refine ⟨.ref D, rfl, D, rfl, ⟨_, SqL.of M2.1⟩, fun G nG => ?_⟩
      refine lc_objs (walk_list (K := K) (a := D) (xs := qs.map V.ref)) (fun r => .tup (((E.getD r []).take n).map V.int)) (by rw [List.length_map]; exact small (by omega)) nG (fun H' s => SqL.of (s _ _ M2.1)) ?_ ?_
      · rintro r x H3 H3' Qy hr s3 ⟨rfl, hx⟩ hq
        obtain ⟨p, hp, rfl⟩ := map_get hx
        rw [List.length_map] at hr
        have hrow : E[r]? = some (E.getD r []) := by
          rw [List.getD_eq_getElem?_getD, List.getElem?_eq_getElem (by omega)]
          rfl
        have gp := s3 _ _ (M2.2.2.2 r p _ hp hrow)
        refine ⟨rfl, .ref p, rfl, .int n, rfl, n, rfl, p, _, rfl, SqL.of gp, fun S nS => ?_⟩
        rw [cut_to, ← List.map_take]
        have s4 := same_new (o := .lst (((E.getD r []).take n).map V.int)) nS
        refine ⟨S, _, rfl, .inl ⟨SqL.of upd_same, fun Tt nTt => ?_⟩⟩
        exact hq Tt _ (s4.trans (same_new nTt)) (s4.free nTt) upd_same
      intro H3 us s3 dG lu ndu fru obu
      rw [List.length_map] at lu
      refine ⟨G, _, rfl, .inl ⟨SqL.of dG, fun TT nTT => ?_⟩⟩
      have s4 : Same H3 (upd H3 TT (.tup (us.map V.ref))) := same_new nTT
      have g4 : Tp (upd H3 TT (.tup (us.map V.ref))) TT (us.map V.ref) := upd_same
      generalize upd H3 TT (.tup (us.map V.ref)) = H4 at s4 g4 ⊢
      have s24 := s3.trans s4
      have M4 := M2.same s24
      refine ⟨.ref D, rfl, D, rfl, ⟨_, SqL.of M4.1⟩, fun G2 nG2 => ?_⟩
      refine lc_to (walk_list (K := K) (a := D) (xs := qs.map V.ref)) ((E.map fun r => r.getD n 0).map V.int) (by rw [List.length_map, List.length_map, List.length_map]; omega) (by rw [List.length_map]; exact small (by omega)) nG2 (fun H' s => SqL.of (s _ _ M4.1)) ?_ ?_
      · rintro r x z H5 H5' Qy hz hr s5 ⟨rfl, hx⟩ hq
        obtain ⟨p, hp, rfl⟩ := map_get hx
        obtain ⟨v, hv, rfl⟩ := map_get hz
        obtain ⟨rw', hrw, rfl⟩ := map_get hv
        have gp := s5 _ _ (M4.2.2.2 r p _ hp hrw)
        have hl := hwd rw' (List.mem_of_getElem? hrw)
        exact ⟨rfl, .ref p, rfl, .int n, rfl, p, _, (n : Int), .int (rw'.getD n 0), rfl, rfl, SqL.of gp, atI_at rfl (get_map (getD_at (by omega))), hq _ (Same.refl _)⟩
      intro H5 s5 dG2
      refine ⟨G2, _, rfl, .inl ⟨SqL.of dG2, fun SS nSS => ?_⟩⟩
      have s6 : Same H5 (upd H5 SS (.tup ((E.map fun r => r.getD n 0).map V.int))) := same_new nSS
      have g6 : Tp (upd H5 SS (.tup ((E.map fun r => r.getD n 0).map V.int))) SS ((E.map fun r => r.getD n 0).map V.int) := upd_same
      generalize upd H5 SS (.tup ((E.map fun r => r.getD n 0).map V.int)) = H6 at s6 g6 ⊢
      refine ⟨by show 2 ≤ sizeLine; decide, fun p np => ?_⟩
      have s7 := same_new (o := .tup [.ref TT, .ref SS]) np
      have s47 := (s5.trans s6).trans s7
      have lT : (E.map (List.take n)).length = n := by rw [List.length_map, lE']
      refine q p (E.map (List.take n)) (E.map fun r => r.getD n 0) _ (s2.trans (s24.trans s47)) ⟨TT, SS, us, upd_same, g4.same s47, ⟨by rw [lT]; omega, fun i u r hu hr => ?_⟩, ⟨g6.same s7, by rw [List.length_map]; omega, fun x hx => ?_⟩, by rw [List.length_map, List.length_map]⟩ (by omega) ?_
      · obtain ⟨r', hr', rfl⟩ := map_get hr
        have ho := obu i u hu
        have e1 : E.getD i [] = r' := by
          rw [List.getD_eq_getElem?_getD, hr']
          rfl
        rw [e1] at ho
        have hm := List.mem_of_getElem? hr'
        have hl := hwd r' hm
        exact ⟨⟨(s4.trans s47) _ _ ho, by rw [List.length_take]; omega, fun x hx => zrow r' hm x (List.mem_of_mem_take hx)⟩, by rw [lT, List.length_take]; omega⟩
      · obtain ⟨r', hr', rfl⟩ := List.mem_map.mp hx
        have hl := hwd r' hr'
        exact zrow r' hr' _ (List.mem_of_getElem? (getD_at (xs := r') (i := n) (by omega)))
      · rw [ext_back E hwd]
        exact R2
end
end K13
namespace K13
open PySem PySem.Spec PyProof.Rows L2 Vk
abbrev s_gby : Stmt := topS 14
theorem sc_gby : FnScope ["forms", "form"] ["forms"] (defScope s_gby) := ⟨rfl, rfl, rfl, by decide +kernel, rfl, by decide +kernel, by decide +kernel⟩
abbrev s_gwithin : Stmt := topS 15
theorem sc_gwithin : FnScope ["grid", "inner", "form"] ["grid", "inner"] (defScope s_gwithin) := ⟨rfl, rfl, rfl, by decide +kernel, rfl, by decide +kernel, by decide +kernel⟩
theorem sl_tupAK {X : Cx} {K : PySem.W.Frag} (h : X.K = K) : SlR X (rSlA K) := by
  subst h
  exact sl_tupA
/-- a comprehension whose items are tuples of numbers -/
theorem lc_tps {J : It} {n : Nat} {G : Hp → Prop} {Y : Nat → Hp → V → Hp → Prop} (w : Walk J n G Y) {g : TG} {te : TE} {vs : List Nat} {σ : L2.St} {H1 : Hp} {D : Addr} {Qd : Hp → Prop} (R : List (List Int)) (hn : R.length = n) (hz : n < sizeLine) (nD : H1 D = none)
    (hG : ∀ H, Same H1 H → G H)
    (hs : ∀ (i : Nat) (x : V) (y : List Int) (H H' : Hp) (Qy : VK), R[i]? = some y → i < n → Same H1 H → Y i H x H' → (∀ p H4, Same H H4 → Tp H4 p (y.map V.int) → Qy (.ref p) H4) → g x (wipe σ vs) H' fun σ2 H2 => wipe σ2 vs = wipe σ vs ∧ te σ2 H2 Qy)
    (hd : ∀ H (ps : List Addr), Same H1 H → H D = some (.lst (ps.map V.ref)) → Rw H ps R → Qd H) :
    ∃ W : Nat → Nat → Hp → Prop, (∃ m, W 0 m (upd H1 D (.lst []))) ∧ ∀ i m H, W i m H →
      (J.stop i H ∧ Qd H) ∨ (J.go i H ∧ ∃ Nx : Hp → Prop, (∀ H', Nx H' → ∃ m', m' < m ∧ W (i + 1) m' H') ∧ ∀ x H', J.yld i H x H' → g x (wipe σ vs) H' fun σ2 H2 => wipe σ2 vs = wipe σ vs ∧ tYes σ2 H2 fun b H3 =>
        if b = true then te σ2 H3 fun y H4 => ∃ acc, H4 D = some (.lst acc) ∧ acc.length < sizeLine ∧ Nx (upd H4 D (.lst (acc ++ [y]))) else Nx H3) := by
  refine lc_it w (tt := tYes) (fun i H => ∃ ps : List Addr, Same H1 H ∧ H D = some (.lst (ps.map V.ref)) ∧ Rw H ps (R.take i) ∧ ps.length = i)
    ⟨[], same_new nD, upd_same, ⟨rfl, fun j p r h => by cases h⟩, rfl⟩ (fun i H _ p => by obtain ⟨_, s, _⟩ := p; exact hG H s) ?_ ?_
  · rintro i x H H' hi ⟨ps, s, d, hR, l⟩ y
    have hiR : i < R.length := by omega
    obtain ⟨v, hv⟩ : ∃ v, R[i]? = some v := ⟨_, List.getElem?_eq_getElem hiR⟩
    refine hs i x v H H' (fun y H4 => ∃ acc, H4 D = some (.lst acc) ∧ acc.length < sizeLine ∧ ∃ ps : List Addr, Same H1 (upd H4 D (.lst (acc ++ [y]))) ∧ upd H4 D (.lst (acc ++ [y])) D = some (.lst (ps.map V.ref)) ∧ Rw (upd H4 D (.lst (acc ++ [y]))) ps (R.take (i + 1)) ∧ ps.length = i + 1) hv hi s y fun p H4 s4 hp => ?_
    have d4 := s4 _ _ d
    refine ⟨ps.map V.ref, d4, by rw [List.length_map]; omega, ps ++ [p], same_put (s.trans s4) nD, by rw [upd_same, List.map_append]; rfl, ?_, by rw [List.length_append, l]; rfl⟩
    rw [List.take_add_one, hv]
    exact ((hR.same s4).snoc hp).put d4
  · rintro H ⟨ps, s, d, hR, l⟩
    rw [← hn, List.take_length] at hR
    exact hd H ps s d hR
def tailsI (fs : List (List Int)) : List (List Int) := fs.map List.tail
def headsI (fs : List (List Int)) : List Int := fs.map fun f => f.headD 0
def spGby : Sp := fun vs H Q _ => ∃ (a : Addr) (ps : List Addr) (fs : List (List Int)), vs = [.ref a] ∧ H a = some (.lst (ps.map V.ref)) ∧ Rws H ps fs (fs.length + 1) ∧ fs.length ≤ 4 ∧ Sml (extI (tailsI fs) (headsI fs)) 15 ∧ Tri fs.length (mt (extI (tailsI fs) (headsI fs))) ∧
  ∀ r T' s' H', Same H H' → Gr H' r T' s' → T'.length = fs.length → Red fs.length fs.length (mt (extI (tailsI fs) (headsI fs))) (mt (extI T' s')) → Q (.ref r) H'
/-- the forms of inner points, as forms of their places -/
def overI (B : List (List Int)) (s : List Int) (B' : List (List Int)) (s' : List Int) : List (List Int) := (gforms B s).map fun f => putI (f.headD 0) f.tail (gforms B' s') B'.length B'.length
def spGwithin : Sp := fun vs H Q _ => ∃ (g h : Addr) (B : List (List Int)) (s : List Int) (B' : List (List Int)) (s' : List Int), vs = [.ref g, .ref h] ∧ Gr H g B s ∧ Gr H h B' s' ∧ B'.length = B.length ∧ B.length ≤ 4 ∧ Sml (extI (tailsI (overI B s B' s')) (headsI (overI B s B' s'))) 15 ∧ Tri B.length (mt (extI (tailsI (overI B s B' s')) (headsI (overI B s B' s')))) ∧
  ∀ r T t H', Same H H' → Gr H' r T t → T.length = B.length → Red B.length B.length (mt (extI (tailsI (overI B s B' s')) (headsI (overI B s B' s')))) (mt (extI T t)) → Q (.ref r) H'
section
variable {P : Program} {w : World} {K : PySem.W.Frag} {mg : Str → Option Value} {base : Heap}
theorem ok_gby {f : Addr} {fd : FuncData} (F : Fun K "_grid_by" "_grid_by" s_gby f fd) (C__one_writing : Cal P w K mg base 1 "_one_writing" ["table", "s"] spOnew) : FnOk P w K mg base CX0 2 f fd ["forms"] spGby := by
  have sc := sc_gby
  refine F.ok sc (fun vs H Q E h => ?_) (fun cdv A outer s H vs Q E hr h => ?_)
  · obtain ⟨a, ps, fs, rfl, _⟩ := h
    rfl
  · obtain ⟨a, ps, fs, rfl, ha, hR, l4, sm, tri, q⟩ := h
    refine ⟨_, (pss_one (ps_ret (call_ C__one_writing (hr.mono (by decide)) (by rfl) (pa_cons (pe_lc (own := [("form", 1)]) (g := gName 1) (by rfl) sc.nd (pi_list (pv 0)) (blkOk_by (own := [("form", 1)]) (N := ["forms", "form"]) (sc := defScope s_gby) (by decide +kernel)) (fun _ _ _ _ _ => pg_name (i := 1) sc.nd rfl (Or.inl rfl)) (fun _ _ _ _ _ => pts_nil) (fun _ _ _ _ _ => (pe_slice (sl_tupAK (K := K) rfl) (pv 1) (po_some pe_int) po_none))) (pa_cons (pe_lc (own := [("form", 1)]) (g := gName 1) (by rfl) sc.nd (pi_list (pv 0)) (blkOk_by (own := [("form", 1)]) (N := ["forms", "form"]) (sc := defScope s_gby) (by decide +kernel)) (fun _ _ _ _ _ => pg_name (i := 1) sc.nd rfl (Or.inl rfl)) (fun _ _ _ _ _ => pts_nil) (fun _ _ _ _ _ => (pe_ix (ix_tupK (K := K) rfl) (pv 1) pe_int (fun _ _ => rfl)))) pa_nil))))), ?_⟩
    have lp : ps.length = fs.length := hR.1
    have fs0 : ∀ i p fm, ps[i]? = some p → fs[i]? = some fm → ∃ c xs, fm = c :: xs ∧ xs.length = fs.length := fun i p fm h1 h2 => by
      obtain ⟨_, lf⟩ := hR.2 i p fm h1 h2
      cases fm with
      | nil => cases lf
      | cons c xs => exact ⟨c, xs, rfl, by rw [List.length_cons] at lf; omega⟩
    refine ⟨.ref a, rfl, a, rfl, ⟨_, SqL.of ha⟩, fun D nD => ?_⟩
    refine lc_tps (walk_list (K := K) (a := a) (xs := ps.map V.ref)) (tailsI fs) (by unfold tailsI; rw [List.length_map, List.length_map, lp]) (by rw [List.length_map]; exact small (by omega)) nD (fun H' s => SqL.of (s _ _ ha)) ?_ ?_
    · rintro i x y H0 H0' Qy hy hi s0 ⟨rfl, hx⟩ hq
      obtain ⟨p, hp, rfl⟩ := map_get hx
      obtain ⟨fm, hf, rfl⟩ := map_get hy
      obtain ⟨Rp, lf⟩ := hR.2 i p fm hp hf
      obtain ⟨c, xs, rfl, lx⟩ := fs0 i p fm hp hf
      refine ⟨rfl, .ref p, rfl, 1, rfl, ?_⟩
      refine slice_tp (Rp.same s0).1 fun r H1 s1 g1 => ?_
      have e : cutV (List.map V.int (c :: xs)) (some 1) none = xs.map V.int := cut1
      rw [e] at g1
      exact hq r H1 s1 g1
    intro H1 us s1 d1 R1
    refine ⟨.ref a, rfl, a, rfl, ⟨_, SqL.of (s1 _ _ ha)⟩, fun D2 nD2 => ?_⟩
    refine lc_to (walk_list (K := K) (a := a) (xs := ps.map V.ref)) ((headsI fs).map V.int) (by unfold headsI; rw [List.length_map, List.length_map, List.length_map, lp]) (by rw [List.length_map]; exact small (by omega)) nD2 (fun H' s => SqL.of ((s1.trans s) _ _ ha)) ?_ ?_
    · rintro i x y H0 H0' Qy hy hi s0 ⟨rfl, hx⟩ hq
      obtain ⟨p, hp, rfl⟩ := map_get hx
      obtain ⟨v, hv, rfl⟩ := map_get hy
      obtain ⟨fm, hf, rfl⟩ := map_get hv
      obtain ⟨Rp, lf⟩ := hR.2 i p fm hp hf
      obtain ⟨c, xs, rfl, lx⟩ := fs0 i p fm hp hf
      exact ⟨rfl, .ref p, rfl, p, _, 0, .int c, rfl, rfl, ((Rp.same s1).same s0).1.t, atI_nat (j := 0) rfl, hq _ (Same.refl _)⟩
    · intro H2 s2 d2
      have lT : (tailsI fs).length = fs.length := by unfold tailsI; rw [List.length_map]
      refine ⟨D, D2, us, tailsI fs, headsI fs, rfl, s2 _ _ d1, ⟨R1.1, fun i u r hu hr => ?_⟩, d2, by unfold headsI; rw [List.length_map, lT], by rw [lT]; exact l4, sm, by rw [lT]; exact tri, fun r T' s' H' s3 hG hl hRed => ?_⟩
      · have hT := (R1.same s2).2 i u r hu hr
        obtain ⟨fm, hf, rfl⟩ := map_get hr
        have hi : i < ps.length := by
          rw [lp]
          exact (List.getElem?_eq_some_iff.mp hf).1
        obtain ⟨Rp, lf⟩ := hR.2 i ps[i] fm (List.getElem?_eq_getElem hi) hf
        obtain ⟨c, xs, rfl, lx⟩ := fs0 i ps[i] fm (List.getElem?_eq_getElem hi) hf
        exact ⟨⟨hT, by show xs.length ≤ 100; omega, fun x hx => Rp.2.2 x (List.mem_cons_of_mem _ hx)⟩, by show xs.length = _; rw [lT, lx]⟩
      · rw [lT] at hl hRed
        exact q r T' s' H' ((s1.trans s2).trans s3) hG hl hRed
theorem ok_gwithin {f : Addr} {fd : FuncData} (F : Fun K "grid_within" "grid_within" s_gwithin f fd) (C__grid_by : Cal P w K mg base 2 "_grid_by" ["forms"] spGby) (C_grid_forms : Cal P w K mg base 1 "grid_forms" ["grid"] spGforms) (C_form_on : Cal P w K mg base 3 "form_on" ["grid", "form"] spFon) : FnOk P w K mg base CX0 4 f fd ["grid", "inner"] spGwithin := by
  have sc := sc_gwithin
  refine F.ok sc (fun vs H Q E h => ?_) (fun cdv A outer s H vs Q E hr h => ?_)
  · obtain ⟨g, h, B, s, B', s', rfl, _⟩ := h
    rfl
  · obtain ⟨g, h, B, st, B', st', rfl, hG, hI, lB, l4, sm, tri, q⟩ := h
    refine ⟨_, (pss_one (ps_ret (call_ C__grid_by (hr.mono (by decide)) (by rfl) (pa_cons (pe_lc (own := [("form", 2)]) (g := gName 2) (by rfl) sc.nd (pi_tup (call_ C_grid_forms (hr.mono (by decide)) (by rfl) (pa_cons (pv 0) pa_nil))) (blkOk_by (own := [("form", 2)]) (N := ["grid", "inner", "form"]) (sc := defScope s_gwithin) (by decide +kernel)) (fun _ _ _ _ _ => pg_name (i := 2) sc.nd rfl (Or.inl rfl)) (fun _ _ _ _ _ => pts_nil) (fun _ _ _ _ _ => (call_ C_form_on (hr.mono (by decide)) (by rfl) (pa_cons (pv 1) (pa_cons (pv 2) pa_nil))))) pa_nil)))), ?_⟩
    have hs5 : st.length = B.length := by
      obtain ⟨_, _, _, _, _, _, _, h5⟩ := hG
      exact h5
    have hs6 : st'.length = B'.length := by
      obtain ⟨_, _, _, _, _, _, _, h5⟩ := hI
      exact h5
    have lo : (overI B st B' st').length = B.length := by unfold overI; rw [List.length_map, gforms_len hs5]
    refine ⟨.ref g, rfl, g, B, st, rfl, hG, by omega, fun r H1 s1 hF => ?_⟩
    obtain ⟨qs, g1, R1⟩ := hF
    have lq : qs.length = B.length := by rw [R1.1, gforms_len hs5]
    refine ⟨r, rfl, ⟨_, g1.t⟩, fun D nD => ?_⟩
    refine lc_tps (walk_tup (K := K) (a := r) (xs := qs.map V.ref)) (overI B st B' st') (by rw [lo, List.length_map, lq]) (by rw [List.length_map]; exact small (by omega)) nD (fun H' s => (g1.same s).t) ?_ ?_
    · rintro i x y H0 H0' Qy hy hi s0 ⟨rfl, hx⟩ hq
      obtain ⟨p, hp, rfl⟩ := map_get hx
      obtain ⟨fm, hf, rfl⟩ := map_get hy
      obtain ⟨Rp, lf⟩ := R1.2 i p fm hp hf
      obtain ⟨c, b, hc, hb, rfl⟩ := gforms_get hf
      rw [List.length_cons] at lf
      exact ⟨rfl, .ref h, rfl, .ref p, rfl, h, p, B', st', c, b, rfl, (hI.same s1).same s0, by omega, Rp.same s0, by omega, fun r2 H2 s2 g2 => hq r2 H2 s2 g2⟩
    · intro H2 us s2 d2 R2
      refine ⟨D, us, overI B st B' st', rfl, d2, ?_, by omega, sm, by rw [lo]; exact tri, fun r T' s' H' s3 hG' hl hRed => ?_⟩
      · have hg' : ∀ (i : Nat) (r : List Int), (gforms B' st')[i]? = some r → r.length = B'.length + 1 := fun i r hr => by
          obtain ⟨c, b, hc, hb, rfl⟩ := gforms_get hr
          obtain ⟨tb, ts, ps, k1, k2, k3, k4, k5⟩ := hI
          have hi : i < ps.length := by
            rw [k3.1]
            exact (List.getElem?_eq_some_iff.mp hb).1
          rw [List.length_cons, (k3.2 i ps[i] b (List.getElem?_eq_getElem hi) hb).2]
        refine ⟨R2.1, fun i u r hu hr => ?_⟩
        have hT := R2.2 i u r hu hr
        have hr0 := hr
        obtain ⟨fm, hf, rfl⟩ := map_get hr
        have ll : (putI (fm.headD 0) fm.tail (gforms B' st') B'.length B'.length).length = B'.length + 1 := putI_len hg' _ (by rw [gforms_len hs6]; exact Nat.le_refl _)
        generalize putI (fm.headD 0) fm.tail (gforms B' st') B'.length B'.length = r at hT hr0 ll
        refine ⟨⟨hT, by omega, fun x hx => ?_⟩, by omega⟩
        have e1 : (tailsI (overI B st B' st'))[i]? = some r.tail := by
          unfold tailsI
          rw [List.getElem?_map, hr0]
          rfl
        have e2 : (headsI (overI B st B' st'))[i]? = some (r.headD 0) := by
          unfold headsI
          rw [List.getElem?_map, hr0]
          rfl
        have e3 := extI_get e1 e2
        have hm : r.tail ++ [r.headD 0] ∈ extI (tailsI (overI B st B' st')) (headsI (overI B st B' st')) := by
          rw [← e3, List.getD_eq_getElem?_getD]
          have hi : i < (extI (tailsI (overI B st B' st')) (headsI (overI B st B' st'))).length := by
            unfold extI tailsI headsI
            rw [List.length_zipWith, List.length_map, List.length_map, Nat.min_self]
            exact (List.getElem?_eq_some_iff.mp hr0).1
          rw [List.getElem?_eq_getElem hi]
          exact List.getElem_mem hi
        refine smz_mono (sm _ hm x ?_) (by decide)
        cases r with
        | nil => cases hx
        | cons c xs =>
          rcases List.mem_cons.mp hx with rfl | h
          · exact List.mem_append_right _ (List.mem_singleton.mpr rfl)
          · exact List.mem_append_left _ h
      · rw [lo] at hl hRed
        exact q r T' s' H' ((s1.trans s2).trans s3) hG' hl hRed
end
end K13
namespace K13
open PySem PySem.Spec PyProof.Rows L2 Vk
abbrev s_pmap : Stmt := topS 17
theorem sc_pmap : FnScope ["grid", "inner", "m", "start", "columns", "column"] ["grid", "inner"] (defScope s_pmap) := ⟨rfl, rfl, rfl, by decide +kernel, rfl, by decide +kernel, by decide +kernel⟩
abbrev s_columns : Stmt := topS 28
theorem sc_columns : FnScope ["grid_so", "table", "j", "row"] ["grid_so"] (defScope s_columns) := ⟨rfl, rfl, rfl, by decide +kernel, rfl, by decide +kernel, by decide +kernel⟩
def dOpt (o : Option (List Int)) : PyData := match o with
  | none => .none
  | some r => dRow r
theorem lay_opts : ∀ os : List (Option (List Int)), PyData.canLayAll0 (os.map dOpt) = true ∧ PyData.depthAll (os.map dOpt) ≤ 2
  | [] => by simp [PyData.canLayAll0, PyData.depthAll]
  | o :: os => by
    obtain ⟨h1, h2⟩ := lay_opts os
    cases o with
    | none =>
      simp only [List.map_cons, dOpt]
      constructor
      · simp [PyData.canLayAll0, PyData.canLay0, h1]
      · simp only [PyData.depthAll, PyData.depth]
        omega
    | some r =>
      obtain ⟨k1, k2⟩ := lay_ints r
      simp only [List.map_cons, dOpt, dRow]
      constructor
      · simp [PyData.canLayAll0, PyData.canLay0, h1, k1]
      · simp only [PyData.depthAll, PyData.depth]
        omega
theorem shaped_opts (os : List (Option (List Int))) : SeqAt.shaped (.list (os.map dOpt)) = true := by
  obtain ⟨h1, h2⟩ := lay_opts os
  simp [SeqAt.shaped, PyData.canLay0, PyData.depth, h1]
  omega
/-- a row, or None -/
def OpV (H : Hp) (y : V) : Option (List Int) → Prop
  | none => y = .non
  | some r => ∃ p, y = .ref p ∧ Row H p r
/-- rows, or None -/
def Ops (H : Hp) (vs : List V) (os : List (Option (List Int))) : Prop := vs.length = os.length ∧ ∀ (i : Nat) (o : Option (List Int)), os[i]? = some o → match o with
  | none => vs[i]? = some .non
  | some r => ∃ p, vs[i]? = some (.ref p) ∧ Row H p r
theorem Ops.same {H H' : Hp} {vs : List V} {os : List (Option (List Int))} (h : Ops H vs os) (s : Same H H') : Ops H' vs os := ⟨h.1, fun i o ho => by
  have := h.2 i o ho
  cases o with
  | none => exact this
  | some r =>
    obtain ⟨p, h1, h2⟩ := this
    exact ⟨p, h1, h2.same s⟩⟩
theorem ops_dp {K : PySem.W.Frag} {H : Hp} : ∀ (vs : List V) (os : List (Option (List Int))), Ops H vs os → DpAll K H vs (os.map dOpt)
  | [], [], _ => .nil
  | [], _ :: _, h => by cases h.1
  | _ :: _, [], h => by cases h.1
  | v :: vs, o :: os, h => by
    have h0 := h.2 0 o rfl
    have hr : Ops H vs os := ⟨Nat.succ.inj h.1, fun i o' ho => h.2 (i + 1) o' ho⟩
    refine .cons ?_ (ops_dp vs os hr)
    cases o with
    | none =>
      obtain rfl := Option.some.inj h0
      exact .non
    | some r =>
      obtain ⟨p, h1, h2⟩ := h0
      obtain rfl := Option.some.inj h1
      exact dp_row h2.1
/-- a comprehension whose items are rows, or None -/
theorem lc_ops {J : It} {n : Nat} {G : Hp → Prop} {Y : Nat → Hp → V → Hp → Prop} (w : Walk J n G Y) {g : TG} {te : TE} {vs : List Nat} {σ : L2.St} {H1 : Hp} {D : Addr} {Qd : Hp → Prop} (R : List (Option (List Int))) (hn : R.length = n) (hz : n < sizeLine) (nD : H1 D = none)
    (hG : ∀ H, Same H1 H → G H)
    (hs : ∀ (i : Nat) (x : V) (y : Option (List Int)) (H H' : Hp) (Qy : VK), R[i]? = some y → i < n → Same H1 H → Y i H x H' → (y = none → ∀ H4, Same H H4 → Qy .non H4) → (∀ r, y = some r → ∀ p H4, Same H H4 → Row H4 p r → Qy (.ref p) H4) → g x (wipe σ vs) H' fun σ2 H2 => wipe σ2 vs = wipe σ vs ∧ te σ2 H2 Qy)
    (hd : ∀ H (us : List V), Same H1 H → H D = some (.lst us) → Ops H us R → Qd H) :
    ∃ W : Nat → Nat → Hp → Prop, (∃ m, W 0 m (upd H1 D (.lst []))) ∧ ∀ i m H, W i m H →
      (J.stop i H ∧ Qd H) ∨ (J.go i H ∧ ∃ Nx : Hp → Prop, (∀ H', Nx H' → ∃ m', m' < m ∧ W (i + 1) m' H') ∧ ∀ x H', J.yld i H x H' → g x (wipe σ vs) H' fun σ2 H2 => wipe σ2 vs = wipe σ vs ∧ tYes σ2 H2 fun b H3 =>
        if b = true then te σ2 H3 fun y H4 => ∃ acc, H4 D = some (.lst acc) ∧ acc.length < sizeLine ∧ Nx (upd H4 D (.lst (acc ++ [y]))) else Nx H3) := by
  have put : ∀ {H : Hp} {us : List V} {os : List (Option (List Int))} {l : List V} {o : HO}, Ops H us os → H D = some (.lst l) → Ops (upd H D o) us os := fun {H us os l o} h d => ⟨h.1, fun i x hx => by
    have := h.2 i x hx
    cases x with
    | none => exact this
    | some r =>
      obtain ⟨p, h1, h2⟩ := this
      exact ⟨p, h1, tp_put h2.1 d, h2.2⟩⟩
  have snoc : ∀ {H : Hp} {us : List V} {os : List (Option (List Int))} {v : V} {o : Option (List Int)}, Ops H us os → OpV H v o → Ops H (us ++ [v]) (os ++ [o]) := fun {H us os v o} h hv => ⟨by rw [List.length_append, List.length_append, h.1]; rfl, fun i x hx => by
    by_cases hi : i < os.length
    · rw [List.getElem?_append_left hi] at hx
      have := h.2 i x hx
      rw [List.getElem?_append_left (by rw [h.1]; exact hi)]
      exact this
    · have hj := (List.getElem?_eq_some_iff.mp hx).1
      rw [List.length_append] at hj
      have hj3 : i = os.length := by
        simp only [List.length_cons, List.length_nil] at hj
        omega
      subst hj3
      rw [List.getElem?_append_right (Nat.le_refl _), Nat.sub_self] at hx
      obtain rfl := Option.some.inj hx
      rw [← h.1, List.getElem?_append_right (Nat.le_refl _), Nat.sub_self]
      cases o with
      | none => exact congrArg some hv
      | some r =>
        obtain ⟨p, e, hp⟩ := hv
        exact ⟨p, congrArg some e, hp⟩⟩
  refine lc_it w (tt := tYes) (fun i H => ∃ us : List V, Same H1 H ∧ H D = some (.lst us) ∧ Ops H us (R.take i) ∧ us.length = i)
    ⟨[], same_new nD, upd_same, ⟨rfl, fun j r h => by cases h⟩, rfl⟩ (fun i H _ p => by obtain ⟨_, s, _⟩ := p; exact hG H s) ?_ ?_
  · rintro i x H H' hi ⟨us, s, d, hR, l⟩ y
    have hiR : i < R.length := by omega
    obtain ⟨v, hv⟩ : ∃ v, R[i]? = some v := ⟨_, List.getElem?_eq_getElem hiR⟩
    have fin : ∀ (y : V) (H4 : Hp), Same H H4 → OpV H4 y v → ∃ acc, H4 D = some (.lst acc) ∧ acc.length < sizeLine ∧ ∃ us : List V, Same H1 (upd H4 D (.lst (acc ++ [y]))) ∧ upd H4 D (.lst (acc ++ [y])) D = some (.lst us) ∧ Ops (upd H4 D (.lst (acc ++ [y]))) us (R.take (i + 1)) ∧ us.length = i + 1 := fun y H4 s4 hy => by
      have d4 := s4 _ _ d
      refine ⟨us, d4, by omega, us ++ [y], same_put (s.trans s4) nD, upd_same, ?_, by rw [List.length_append, l]; rfl⟩
      rw [List.take_add_one, hv]
      exact put (snoc (hR.same s4) hy) d4
    exact hs i x v H H' (fun y H4 => ∃ acc, H4 D = some (.lst acc) ∧ acc.length < sizeLine ∧ ∃ us : List V, Same H1 (upd H4 D (.lst (acc ++ [y]))) ∧ upd H4 D (.lst (acc ++ [y])) D = some (.lst us) ∧ Ops (upd H4 D (.lst (acc ++ [y]))) us (R.take (i + 1)) ∧ us.length = i + 1) hv hi s y (fun e H4 s4 => fin _ H4 s4 (by subst e; rfl)) fun r e p H4 s4 hp => fin _ H4 s4 (by subst e; exact ⟨p, rfl, hp⟩)
  · rintro H ⟨us, s, d, hR, l⟩
    rw [← hn, List.take_length] at hR
    exact hd H us s d hR
/-- the places of the columns -/
def colPl (B B' : List (List Int)) : List (Option (List Int)) := (colsI B' B.length).map fun v => unwI B v B.length
def spPmap : Sp := fun vs H Q _ => ∃ (g h : Addr) (B : List (List Int)) (s : List Int) (B' : List (List Int)) (s' : List Int), vs = [.ref g, .ref h] ∧ Gr H g B s ∧ Gr H h B' s' ∧ B'.length = B.length ∧ B.length ≤ 9 ∧ (∀ i, i < B.length → 0 < dg B i) ∧
  (∀ v, v = subL s' s ∨ v ∈ colsI B' B.length → ∀ i y, i ≤ B.length → unwI B v i = some y → ∀ x ∈ y, SmZ 300 x) ∧
  (unwI B (subL s' s) B.length = none ∨ none ∈ colPl B B' → ∀ H', Same H H' → Q .non H') ∧
  ∀ y cs, unwI B (subL s' s) B.length = some y → colPl B B' = cs.map some → ∀ r tt ty qs H', Same H H' → Tp H' r [.ref tt, .ref ty] → Tp H' tt (qs.map V.ref) → Rws H' qs (colsI cs B.length) cs.length → Row H' ty y → Q (.ref r) H'
theorem pin_call {H : Hp} {Q : VK} {E : XK} {g a : Addr} {B : List (List Int)} {s t : List Int} (hG : Gr H g B s) (ht : Row H a t) (lt : t.length = B.length) (l9 : B.length ≤ 9) (hd : ∀ i, i < B.length → 0 < dg B i) (zy : ∀ i y, i ≤ B.length → unwI B (subL t s) i = some y → ∀ x ∈ y, SmZ 300 x)
    (k : ∀ x H1, Same H H1 → OpV H1 x (unwI B (subL t s) B.length) → Q x H1) : spPin [.ref g, .ref a] H Q E :=
  ⟨g, a, B, s, t, rfl, hG, ht, lt, l9, hd, zy, fun e H' s' => k .non H' s' (by rw [e]; rfl), fun y e r H' s' hr => k (.ref r) H' s' (by rw [e]; exact ⟨r, rfl, hr⟩)⟩
theorem any_none : ∀ os : List (Option (List Int)), ((os.map dOpt).any fun z => PyData.eqv z .none) = true → none ∈ os
  | [], h => by cases h
  | none :: os, _ => List.mem_cons_self ..
  | some r :: os, h => by
    have h : (PyData.eqv (dOpt (some r)) .none || (os.map dOpt).any fun z => PyData.eqv z .none) = true := h
    have e : PyData.eqv (dOpt (some r)) .none = false := by simp [dOpt, dRow, PyData.eqv]
    rw [e, Bool.false_or] at h
    exact List.mem_cons_of_mem _ (any_none os h)
theorem any_some : ∀ os : List (Option (List Int)), ((os.map dOpt).any fun z => PyData.eqv z .none) = false → ∃ cs : List (List Int), os = cs.map some
  | [], _ => ⟨[], rfl⟩
  | none :: os, h => by
    have h : (PyData.eqv (dOpt none) .none || (os.map dOpt).any fun z => PyData.eqv z .none) = false := h
    have e : PyData.eqv (dOpt none) .none = true := by simp [dOpt, PyData.eqv]
    rw [e] at h
    cases h
  | some r :: os, h => by
    have h : (PyData.eqv (dOpt (some r)) .none || (os.map dOpt).any fun z => PyData.eqv z .none) = false := h
    have e : PyData.eqv (dOpt (some r)) .none = false := by simp [dOpt, dRow, PyData.eqv]
    rw [e, Bool.false_or] at h
    obtain ⟨cs, rfl⟩ := any_some os h
    exact ⟨r :: cs, rfl⟩
theorem ops_rows {H : Hp} : ∀ (vs : List V) (cs : List (List Int)), Ops H vs (cs.map some) → ∃ ps : List Addr, vs = ps.map V.ref ∧ ps.length = cs.length ∧ ∀ (i : Nat) (p : Addr) (r : List Int), ps[i]? = some p → cs[i]? = some r → Row H p r
  | [], [], _ => ⟨[], rfl, rfl, fun i p r h => by cases h⟩
  | [], _ :: _, h => by cases h.1
  | _ :: _, [], h => by cases h.1
  | v :: vs, c :: cs, h => by
    obtain ⟨p, h1, h2⟩ := h.2 0 (some c) rfl
    obtain rfl := Option.some.inj h1
    obtain ⟨ps, rfl, l, k⟩ := ops_rows vs cs ⟨Nat.succ.inj h.1, fun i o' ho => h.2 (i + 1) o' ho⟩
    refine ⟨p :: ps, rfl, by rw [List.length_cons, List.length_cons, l], fun i q r e1 e2 => ?_⟩
    cases i with
    | zero =>
      obtain rfl := Option.some.inj e1
      obtain rfl := Option.some.inj e2
      exact h2
    | succ i => exact k i q r e1 e2
theorem colPl_get {B B' : List (List Int)} {i : Nat} {o : Option (List Int)} (h : (colPl B B')[i]? = some o) : ∃ v, (colsI B' B.length)[i]? = some v ∧ o = unwI B v B.length := by
  unfold colPl at h
  obtain ⟨v, hv, rfl⟩ := map_get h
  exact ⟨v, hv, rfl⟩
section
variable {P : Program} {w : World} {K : PySem.W.Frag} {mg : Str → Option Value} {base : Heap}
theorem ok_pmap {f : Addr} {fd : FuncData} (F : Fun K "place_map" "place_map" s_pmap f fd) (C_place_in : Cal P w K mg base 3 "place_in" ["grid", "t"] spPin) (C_turnedT : Cal P w K mg base 1 "turned" ["rows", "width"] spTurnedT) (C_turnedL : Cal P w K mg base 1 "turned" ["rows", "width"] spTurnedL) (C__unwound : Cal P w K mg base 2 "_unwound" ["table", "column"] (spUnw K)) (m_len : mg "len" = none) : FnOk P w K mg base CX0 4 f fd ["grid", "inner"] spPmap := by
  have sc := sc_pmap
  refine F.ok sc (fun vs H Q E h => ?_) (fun cdv A outer s H vs Q E hr h => ?_)
  · obtain ⟨g, h, B, s, B', s', rfl, _⟩ := h
    rfl
  · obtain ⟨g, h, B, st, B', st', rfl, hG, hI, lB, l9, hd, zz, qn, qs⟩ := h
    have hu : (A.deeper (envOfC "place_map" (defScope s_pmap) s.heap.objs.size f cdv)).units + 65 < cLine := by
      have := hr.un
      omega
    refine ⟨_, (pss_cons (ps_set (i := 2) sc.nd rfl (Or.inl rfl) (pe_callB call_len_seq (by rfl) m_len (by decide +kernel) (pa_cons (pe_ix ix_tup (pv 0) pe_int (fun _ _ => rfl)) pa_nil)))
    (pss_cons (ps_set (i := 3) sc.nd rfl (Or.inl rfl) (call_ C_place_in (hr.mono (by decide)) (by rfl) (pa_cons (pv 0) (pa_cons (pe_ix ix_tup (pv 1) pe_int (fun _ _ => rfl)) pa_nil))))
    (pss_cons (ps_setLc (i := 4) (own := [("column", 5)]) (g := gName 5) (by rfl) sc.nd rfl rfl (sw_true rfl rfl rfl (by decide +kernel)) (pi_tup (call_ C_turnedT (hr.mono (by decide)) (by rfl) (pa_cons (pe_ix ix_tup (pv 1) pe_int (fun _ _ => rfl)) (pa_cons (pv 2) pa_nil)))) (blkOk_by (own := [("column", 5)]) (N := ["grid", "inner", "m", "start", "columns", "column"]) (sc := defScope s_pmap) (by decide +kernel)) (fun _ _ _ _ _ => pg_name (i := 5) sc.nd rfl (Or.inl rfl)) (fun _ _ _ _ _ => pts_nil) (fun _ _ _ _ _ => (call_ C__unwound (hr.mono (by decide)) (by rfl) (pa_cons (pe_ix (ix_tupK (K := K) rfl) (pv 0) pe_int (fun _ _ => rfl)) (pa_cons (pv 5) pa_nil)))))
    (pss_cons (ps_if (PW.pt (pw_or (pt_cmpR op_isN (pv 3) pe_non (nomark _)) (pw_or1 (pt_cmpR (op_inD hu) pe_non (pv 4) (by with_unfolding_all rfl)))))
      (pss_one (ps_ret pe_non))
      pss_nil)
    (pss_one (ps_ret (pe_tup (pa_cons (call_ C_turnedL (hr.mono (by decide)) (by rfl) (pa_cons (pv 4) (pa_cons (pv 2) pa_nil))) (pa_cons (pv 3) pa_nil))))))))), ?_⟩
    have hG0 := hG
    have hI0 := hI
    obtain ⟨tb, ts, ps, h1, h2, hR, h4, h5⟩ := hG
    obtain ⟨tb', ts', ps', k1, k2, kR, k4, k5⟩ := hI
    refine ⟨.ref g, rfl, g, _, 1, .ref ts, rfl, rfl, h1.t, atI_nat (j := 1) rfl, ts, _, rfl, .inr h4.1.t, ?_⟩
    rw [List.length_map, h5]
    refine ⟨.ref g, rfl, .ref h, rfl, h, _, 1, .ref ts', rfl, rfl, k1.t, atI_nat (j := 1) rfl, ?_⟩
    unfold tNil
    refine pin_call hG0 k4 (by omega) l9 hd (fun i y hi e => zz _ (.inl rfl) i y hi e) fun x H1 s1 hx => ?_
    have kR1 : Rws H1 ps' B' B.length := by
      have := kR.same s1
      rw [lB] at this
      exact this
    refine ⟨.ref h, rfl, h, _, 0, .ref tb', rfl, rfl, (k1.same s1).t, atI_nat (j := 0) rfl, .int B.length, rfl, tb', B.length, ps', B', rfl, k2.same s1, kR1, by omega, by omega, fun r rs H2 s2 g2 R2 => ?_⟩
    have s12 := s1.trans s2
    have lr : rs.length = B.length := by
      rw [R2.1]
      unfold colsI
      rw [List.length_map, List.length_range]
    have lc : (colPl B B').length = B.length := by
      unfold colPl colsI
      rw [List.length_map, List.length_map, List.length_range]
    refine ⟨r, rfl, ⟨_, g2.t⟩, fun D nD => ?_⟩
    refine lc_ops (walk_tup (K := K) (a := r) (xs := rs.map V.ref)) (colPl B B') (by rw [lc, List.length_map, lr]) (by rw [List.length_map]; exact small (by omega)) nD (fun H' s => (g2.same s).t) ?_ ?_
    · rintro i z o H0 H0' Qy ho hi s0 ⟨rfl, hz⟩ hn hsm
      obtain ⟨p, hp, rfl⟩ := map_get hz
      obtain ⟨v, hv, rfl⟩ := colPl_get ho
      obtain ⟨Rp, lv⟩ := R2.2 i p v hp hv
      have sx := s12.trans s0
      exact ⟨rfl, .ref g, rfl, g, _, 0, .ref tb, rfl, rfl, (h1.same sx).t, atI_nat (j := 0) rfl, .ref p, rfl, tb, p, false, ps, B, v, rfl, h2.same sx, hR.same sx, fun H' s' => ((Rp.1.same s0).same s').t, by omega, l9, hd, fun i y hi e => zz v (.inr (List.mem_of_getElem? hv)) i y hi e, fun e H' s' => hn e H' s', fun y e r H' s' hr => hsm y e r H' s' hr⟩
    intro H3 us s3 d3 O3
    have s13 := s12.trans s3
    have hx3 : OpV H3 x (unwI B (subL st' st) B.length) := by
      cases e : unwI B (subL st' st) B.length with
      | none => rw [e] at hx; exact hx
      | some y =>
        rw [e] at hx
        obtain ⟨p, e1, e2⟩ := hx
        exact ⟨p, e1, (e2.same s2).same s3⟩
    cases hU : unwI B (subL st' st) B.length with
    | none =>
      rw [hU] at hx3
      obtain rfl : x = .non := hx3
      exact ⟨.non, rfl, rfl, _, rfl, iteT (qn (.inl hU) _ s13)⟩
    | some y0 =>
      rw [hU] at hx3
      obtain ⟨p0, rfl, hy⟩ := hx3
      refine ⟨.ref p0, rfl, rfl, _, rfl, ?_⟩
      rw [decide_eq_false (show ¬ V.ref p0 = V.non from fun z => by cases z)]
      refine iteF ?_
      refine ⟨.ref D, rfl, .none, (colPl B B').map dOpt, .non, .lst (SqL.of d3) (ops_dp us _ O3), by decide, shaped_opts _, _, rfl, ite2 (fun hh => ?_) (fun hh => ?_)⟩
      · exact qn (.inr (any_none _ hh)) _ s13
      · obtain ⟨cs, hcs⟩ := any_some _ (by simpa using hh)
        rw [hcs] at O3
        obtain ⟨ps3, rfl, l3, R3⟩ := ops_rows us cs O3
        have lcs : cs.length = B.length := by
          rw [← lc, hcs, List.length_map]
        refine ⟨.ref D, rfl, .int B.length, rfl, D, B.length, ps3, cs, rfl, d3, ⟨l3, fun i p r e1 e2 => ⟨R3 i p r e1 e2, ?_⟩⟩, by omega, by omega, fun r4 qs4 H4 s4 g4 R4 => ?_⟩
        · have ho : (colPl B B')[i]? = some (some r) := by
            rw [hcs, List.getElem?_map, e2]
            rfl
          obtain ⟨v, hv, e⟩ := colPl_get ho
          exact unwI_len _ _ e.symm
        · refine ⟨.ref p0, rfl, by show 2 ≤ sizeLine; decide, fun p np => ?_⟩
          have s5 := same_new (o := .tup [.ref r4, .ref p0]) np
          exact qs y0 cs hU hcs p r4 p0 qs4 _ (s13.trans (s4.trans s5)) upd_same (g4.same s5) (R4.same s5) ((hy.same s4).same s5)
end
end K13
namespace K13
open PySem PySem.Spec PyProof.Rows L2 Vk
abbrev s_within : Stmt := topS 31
theorem sc_within : FnScope ["grid_so", "inner_so", "some", "column", "t", "i"] ["grid_so", "inner_so"] (defScope s_within) := ⟨rfl, rfl, rfl, by decide +kernel, rfl, by decide +kernel, by decide +kernel⟩
theorem smz_add {n : Nat} {a b : Int} (h1 : SmZ n a) (h2 : SmZ n b) : SmZ (n + 1) (a + b) := by
  unfold SmZ at *
  have e : (2 : Nat) ^ (n + 1) = 2 ^ n * 2 := Nat.pow_succ ..
  omega
theorem smz_sub {n : Nat} {a b : Int} (h1 : SmZ n a) (h2 : SmZ n b) : SmZ (n + 1) (a - b) := by
  unfold SmZ at *
  have e : (2 : Nat) ^ (n + 1) = 2 ^ n * 2 := Nat.pow_succ ..
  omega
theorem dot_sm {k j : Nat} : ∀ {xs ys : List Int}, (∀ x ∈ xs, SmZ k x) → (∀ x ∈ ys, SmZ j x) → SmZ (k + j + xs.length) (dot xs ys)
  | [], ys, _, _ => Nat.two_pow_pos _
  | x :: xs, [], _, _ => Nat.two_pow_pos _
  | x :: xs, y :: ys, h1, h2 => by
    have ih := dot_sm (xs := xs) (ys := ys) (fun z hz => h1 z (List.mem_cons_of_mem _ hz)) (fun z hz => h2 z (List.mem_cons_of_mem _ hz))
    have h3 := smz_mul (h1 x (List.mem_cons_self ..)) (h2 y (List.mem_cons_self ..))
    have e : dot (x :: xs) (y :: ys) = x * y + dot xs ys := by
      unfold dot
      rw [List.zipWith_cons_cons, List.sum_cons]
    rw [e, List.length_cons]
    exact smz_add (n := k + j + xs.length) (smz_mono h3 (by omega)) ih
/-- a grid of few bits -/
structure Gs (B : List (List Int)) (s : List Int) : Prop where
  b : ∀ r ∈ B, ∀ x ∈ r, SmZ 20 x
  q : ∀ x ∈ s, SmZ 20 x
  p : ∀ i, i < B.length → 0 < dg B i
  w : ∀ r ∈ B, r.length = B.length
  l : s.length = B.length
  n : B.length ≤ 9
theorem unw_sm {B : List (List Int)} {v : List Int} {k : Nat} (hB : ∀ r ∈ B, ∀ x ∈ r, SmZ 20 x) (hw : ∀ r ∈ B, r.length ≤ 9) (hp : ∀ i, i < B.length → 0 < dg B i) (hv : ∀ x ∈ v, SmZ k x) : ∀ i y, i ≤ B.length → unwI B v i = some y → ∀ x ∈ y, SmZ (k + 30 * i) x
  | 0, y, _, h => by
    obtain rfl := Option.some.inj h
    intro x hx
    cases hx
  | i + 1, y, hi, h => by
    have h : (unwI B v i).bind _ = some y := h
    cases e : unwI B v i with
    | none => rw [e] at h; cases h
    | some z =>
      rw [e] at h
      have ih := unw_sm hB hw hp hv i z (by omega) e
      have h : (if (v.getD i 0 - dot (B.getD i []) z).fmod (dg B i) = 0 then some (z ++ [(v.getD i 0 - dot (B.getD i []) z).fdiv (dg B i)]) else none) = some y := h
      split at h
      · obtain rfl := Option.some.inj h
        intro x hx
        rcases List.mem_append.mp hx with h' | h'
        · exact smz_mono (ih x h') (by omega)
        · rw [List.mem_singleton] at h'
          subst h'
          have hm : B.getD i [] ∈ B := by
            rw [List.getD_eq_getElem?_getD, List.getElem?_eq_getElem (by omega)]
            exact List.getElem_mem _
          have hl := hw _ hm
          have d1 : SmZ (k + 30 * i + 29) (dot (B.getD i []) z) := smz_mono (dot_sm (hB _ hm) ih) (by omega)
          have d2 : SmZ (k + 30 * i + 29) (v.getD i 0) := by
            by_cases hiv : i < v.length
            · exact smz_mono (hv _ (List.mem_of_getElem? (getD_at hiv))) (by omega)
            · rw [List.getD_eq_getElem?_getD, List.getElem?_eq_none (by omega)]
              exact Nat.two_pow_pos _
          have d3 : SmZ (k + 30 * i + 30) (v.getD i 0 - dot (B.getD i []) z) := smz_sub d2 d1
          exact Nat.lt_of_le_of_lt (fdiv_abs (hp i (by omega))) (smz_mono d3 (by omega))
      · cases h
theorem subL_get {t s : List Int} {i : Nat} (h1 : i < t.length) (h2 : i < s.length) : (subL t s).getD i 0 = t.getD i 0 - s.getD i 0 := by
  unfold subL
  rw [List.getD_eq_getElem?_getD, List.getElem?_zipWith, Vk.getD_at h1, Vk.getD_at h2]
  rfl
theorem place_unw {B : List (List Int)} {s t : List Int} : ∀ i, i ≤ t.length → i ≤ s.length → placeI B s t i = unwI B (subL t s) i
  | 0, _, _ => rfl
  | i + 1, h1, h2 => by
    show (placeI B s t i).bind _ = (unwI B (subL t s) i).bind _
    rw [place_unw i (by omega) (by omega), subL_get (by omega) (by omega)]
theorem sub_sm {t s : List Int} {k : Nat} (h1 : ∀ x ∈ t, SmZ k x) (h2 : ∀ x ∈ s, SmZ k x) : ∀ x ∈ subL t s, SmZ (k + 1) x := fun x hx => by
  obtain ⟨i, hi⟩ := List.getElem?_of_mem hx
  obtain ⟨a, b, ha, hb, rfl⟩ := zipW_get hi
  exact smz_sub (h1 _ (List.mem_of_getElem? ha)) (h2 _ (List.mem_of_getElem? hb))
/-- places in a grid of few bits are of few bits -/
theorem Gs.place {B : List (List Int)} {s : List Int} (h : Gs B s) {v : List Int} (hv : ∀ x ∈ v, SmZ 30 x) : ∀ i y, i ≤ B.length → unwI B v i = some y → ∀ x ∈ y, SmZ 300 x := fun i y hi e x hx => by
  have hn := h.n
  exact smz_mono (unw_sm h.b (fun r hr => by rw [h.w r hr]; exact hn) h.p hv i y hi e x hx) (by omega)
def spColumns : Sp := fun vs H Q _ => ∃ (g : Addr) (B : List (List Int)) (s : List Int), vs = [.ref g] ∧ Gr H g B s ∧ B.length ≤ 9 ∧ ∀ L qs H', Same H H' → H L = none → H' L = some (.lst (qs.map V.ref)) → Rws H' qs (colsI B B.length) B.length → Q (.ref L) H'
section
variable {P : Program} {w : World} {K : PySem.W.Frag} {mg : Str → Option Value} {base : Heap}
theorem ok_columns {f : Addr} {fd : FuncData} (F : Fun K "_law_columns" "_law_columns" s_columns f fd) (m_tuple : mg "tuple" = none) (m_range : mg "range" = none) (m_len : mg "len" = none) : FnOk P w K mg base CX0 1 f fd ["grid_so"] spColumns := by
  have sc := sc_columns
  refine F.ok sc (fun vs H Q E h => ?_) (fun cdv A outer s H vs Q E hr h => ?_)
  · obtain ⟨g, B, s, rfl, _⟩ := h
    rfl
  · obtain ⟨g, B, st, rfl, ⟨tb, ts, ps, h1, h2, hR, h4, h5⟩, hl, q⟩ := h
    refine ⟨_, (pss_cons (ps_set (i := 1) sc.nd rfl (Or.inr rfl) (pe_ix ix_tup (pv 0) pe_int (fun _ _ => rfl)))
    (pss_one (ps_ret (pe_lc (own := [("j", 2)]) (g := gName 2) (by rfl) sc.nd (pi_range1 rfl m_range (pa_cons (pe_callB call_len_seq (by rfl) m_len (by decide +kernel) (pa_cons (pv 1) pa_nil)) pa_nil)) (blkOk_by (own := [("j", 2)]) (N := ["grid_so", "table", "j", "row"]) (sc := defScope s_columns) (by decide +kernel)) (fun _ _ _ _ _ => pg_name (i := 2) sc.nd rfl (Or.inr rfl)) (fun _ _ _ _ _ => pts_nil) (fun _ _ _ _ _ => (pe_callTy (call_tuple_ofK (K := K) rfl) (by rfl) m_tuple (by decide +kernel) (pa_cons (pe_lc (own := [("row", 3)]) (g := gName 3) (by rfl) sc.nd (pi_tupK (K := K) rfl (pv 1)) (blkOk_by (own := [("row", 3)]) (N := ["grid_so", "table", "j", "row"]) (sc := { kind := .function, names := [(".0", .local), ("j", .cell), ("tuple", .globalImplicit), ("table", .cell)], isGenerator := false, isCoroutine := false }) (by decide +kernel)) (fun _ _ _ _ _ => pg_name (i := 3) sc.nd rfl (Or.inl rfl)) (fun _ _ _ _ _ => pts_nil) (fun _ _ _ _ _ => (pe_ix (ix_tupK (K := K) rfl) (pv 3) (pv 2) (fun _ _ => rfl)))) pa_nil))))))), ?_⟩
    have lp : ps.length = B.length := hR.1
    refine ⟨.ref g, rfl, g, _, 0, .ref tb, rfl, rfl, h1.t, atI_nat (j := 0) rfl, ?_⟩
    refine ⟨.ref tb, rfl, tb, _, rfl, .inr h2.t, ((ps.map V.ref).length : Int), rfl, by omega, by rw [List.length_map]; omega, fun D nD => ?_⟩
    have e0 : ((ps.map V.ref).length : Int).toNat = B.length := by
      rw [List.length_map]
      omega
    rw [e0]
    refine lc_objs (walk_range (lo := 0) (n := B.length)) (fun j => .tup ((B.map fun r => r.getD j 0).map V.int)) (small (by omega)) nD (fun H' s => True.intro) ?_ ?_
    · rintro j x H0 H0' Qy hj s0 ⟨rfl, rfl⟩ hq
      refine ⟨rfl, .ref tb, rfl, tb, rfl, ⟨_, (h2.same s0).t⟩, fun D2 nD2 => ?_⟩
      refine lc_to (walk_tup (K := K) (a := tb) (xs := ps.map V.ref)) ((B.map fun r => r.getD j 0).map V.int) (by rw [List.length_map, List.length_map, List.length_map, lp]) (by rw [List.length_map]; exact small (by omega)) nD2 (fun H' s => ((h2.same s0).same s).t) ?_ ?_
      · rintro i x z H1 H1' Qy hz hi s1 ⟨rfl, hx⟩ hq
        obtain ⟨p, hp, rfl⟩ := map_get hx
        obtain ⟨v, hv, rfl⟩ := map_get hz
        obtain ⟨r, hr', rfl⟩ := map_get hv
        obtain ⟨Rp, lr⟩ := hR.2 i p r hp hr'
        exact ⟨rfl, .ref p, rfl, .int (0 + j), rfl, p, _, 0 + j, .int (r.getD j 0), rfl, rfl, ((Rp.same s0).same s1).1.t, atI_at (i := j) (by omega) (get_map (getD_at (by omega))), hq _ (Same.refl _)⟩
      · intro H2 s2 d2
        exact ⟨D2, _, rfl, .inl ⟨SqL.of d2, fun T nT => hq T _ (s2.trans (same_new nT)) (s2.free nT) upd_same⟩⟩
    · intro H' qs s1 d l nd fr ob
      refine q D qs H' s1 nD d ⟨by unfold colsI; rw [l, List.length_map, List.length_range], fun j p z hp hz => ?_⟩
      have ho := ob j p hp
      have hj : j < B.length := by
        have := (List.getElem?_eq_some_iff.mp hp).1
        omega
      obtain rfl := colsI_get hz
      refine ⟨⟨ho, by rw [List.length_map]; omega, fun x hx => ?_⟩, by rw [List.length_map]⟩
      obtain ⟨r, hr', rfl⟩ := List.mem_map.mp hx
      obtain ⟨i, hi⟩ := List.getElem?_of_mem hr'
      have il : i < ps.length := by
        rw [lp]
        exact (List.getElem?_eq_some_iff.mp hi).1
      obtain ⟨Rp, lr⟩ := hR.2 i ps[i] r (List.getElem?_eq_getElem il) hi
      exact Rp.2.2 _ (List.mem_of_getElem? (getD_at (xs := r) (i := j) (by omega)))
end
end K13
namespace K13
open PySem PySem.Spec PyProof.Rows L2 Vk
theorem kept_dp {K : PySem.W.Frag} {H : Hp} {ps : List Addr} {vecs : List (List Int)} (hR : Rw H ps vecs) : ∀ l : List Nat, (∀ i ∈ l, i < vecs.length) → DpAll K H (l.map fun i => (ps.map V.ref).getD i .non) (l.map fun i => dRow (vecs.getD i []))
  | [], _ => .nil
  | i :: l, hl => by
    have hi := hl i (List.mem_cons_self ..)
    have ip : i < ps.length := by
      rw [hR.1]
      exact hi
    have hvi : vecs[i]? = some (vecs.getD i []) := by
      rw [List.getD_eq_getElem?_getD, List.getElem?_eq_getElem hi]
      rfl
    refine .cons ?_ (kept_dp hR l fun j hj => hl j (List.mem_cons_of_mem _ hj))
    show Dp K H ((ps.map V.ref).getD i .non) (dRow (vecs.getD i []))
    rw [List.getD_eq_getElem?_getD, List.getElem?_map, List.getElem?_eq_getElem ip]
    exact dp_row (hR.2 i ps[i] _ (List.getElem?_eq_getElem ip) hvi)
theorem kept_emp (p : List Int → Bool) (vecs : List (List Int)) : ((List.range vecs.length).filter fun i => p (vecs.getD i [])).isEmpty = vecs.all fun v => !p v := by
  rw [Bool.eq_iff_iff, List.all_eq_true, List.isEmpty_iff, List.filter_eq_nil_iff]
  constructor
  · intro h v hv
    obtain ⟨i, hi⟩ := List.getElem?_of_mem hv
    have il := (List.getElem?_eq_some_iff.mp hi).1
    have := h i (List.mem_range.mpr il)
    rw [List.getD_eq_getElem?_getD, hi] at this
    simpa using this
  · intro h i hi
    have hi := List.mem_range.mp hi
    have hm : vecs.getD i [] ∈ vecs := by
      rw [List.getD_eq_getElem?_getD, List.getElem?_eq_getElem hi]
      exact List.getElem_mem hi
    have := h _ hm
    simpa using this
def addL (s c : List Int) : List Int := List.zipWith (· + ·) s c
/-- the start, and it with each column -/
def tsI (B' : List (List Int)) (s' : List Int) : List (List Int) := s' :: (colsI B' B'.length).map (addL s')
theorem tsI_sm {B' : List (List Int)} {s' : List Int} (h : Gs B' s') : ∀ t ∈ tsI B' s', t.length = B'.length ∧ ∀ x ∈ t, SmZ 21 x := fun t ht => by
  rcases List.mem_cons.mp ht with rfl | h'
  · exact ⟨h.l, fun x hx => smz_mono (h.q x hx) (by decide)⟩
  · obtain ⟨c, hc, rfl⟩ := List.mem_map.mp h'
    obtain ⟨j, hj⟩ := List.getElem?_of_mem hc
    have hjl := (List.getElem?_eq_some_iff.mp hj).1
    have hjn : j < B'.length := by
      unfold colsI at hjl
      rw [List.length_map, List.length_range] at hjl
      exact hjl
    obtain rfl := colsI_get hj
    refine ⟨by unfold addL; rw [List.length_zipWith, List.length_map, h.l, Nat.min_self], fun x hx => ?_⟩
    obtain ⟨i, hi⟩ := List.getElem?_of_mem hx
    obtain ⟨p, q, hp, hq, rfl⟩ := zipW_get hi
    obtain ⟨r, hr, rfl⟩ := map_get hq
    have hm := List.mem_of_getElem? hr
    exact smz_add (h.q _ (List.mem_of_getElem? hp)) (h.b r hm _ (List.mem_of_getElem? (Vk.getD_at (xs := r) (i := j) (by rw [h.w r hm]; exact hjn))))
def isIn (B : List (List Int)) (s t : List Int) : Bool := (placeI B s t B.length).isSome
def spWithin : Sp := fun vs H Q _ => ∃ (g h : Addr) (B : List (List Int)) (s : List Int) (B' : List (List Int)) (s' : List Int), vs = [.ref g, .ref h] ∧ Gr H g B s ∧ Gr H h B' s' ∧ B'.length = B.length ∧ Gs B s ∧ Gs B' s' ∧ ∀ H', Same H H' → Q (.bl ((tsI B' s').all fun t => isIn B s t)) H'
theorem place_call {H : Hp} {Q : VK} {E : XK} {g a : Addr} {B : List (List Int)} {s t : List Int} (hG : Gr H g B s) (hs : Gs B s) (ha : Tp H a (t.map V.int)) (lt : t.length = B.length) (zt : ∀ x ∈ t, SmZ 29 x)
    (k : ∀ x H1, Same H H1 → OpV H1 x (placeI B s t B.length) → Q x H1) : spPlace [.ref g, .ref a] H Q E := by
  have hn := hs.n
  refine ⟨g, a, B, s, t, rfl, hG, ⟨ha, by omega, fun x hx => smz_mono (zt x hx) (by decide)⟩, lt, hn, hs.p, fun i y hi e => ?_, fun e H' s' => k .non H' s' (by rw [e]; rfl), fun y e r H' s' hr => k (.ref r) H' s' (by rw [e]; exact ⟨r, rfl, hr⟩)⟩
  rw [place_unw i (by omega) (by rw [hs.l]; exact hi)] at e
  exact hs.place (sub_sm zt fun x hx => smz_mono (hs.q x hx) (by decide)) i y hi e
section
variable {P : Program} {w : World} {K : PySem.W.Frag} {mg : Str → Option Value} {base : Heap}
theorem ok_within {f : Addr} {fd : FuncData} (F : Fun K "_law_is_within" "_law_is_within" s_within f fd) (C__law_columns : Cal P w K mg base 1 "_law_columns" ["grid_so"] spColumns) (C__law_place : Cal P w K mg base 1 "_law_place" ["grid_so", "t"] spPlace) (m_tuple : mg "tuple" = none) (m_range : mg "range" = none) (m_len : mg "len" = none) : FnOk P w K mg base CX0 2 f fd ["grid_so", "inner_so"] spWithin := by
  have sc := sc_within
  refine F.ok sc (fun vs H Q E h => ?_) (fun cdv A outer s H vs Q E hr h => ?_)
  · obtain ⟨g, h, B, s, B', s', rfl, _⟩ := h
    rfl
  · obtain ⟨g, h, B, st, B', st', rfl, hG, hI, lB, hs, hs', q⟩ := h
    refine ⟨_, (pss_cons (ps_set (i := 2) sc.nd rfl (Or.inl rfl) (pe_lst (pa_cons (pe_ix ix_tup (pv 1) pe_int (fun _ _ => rfl)) pa_nil)))
    (pss_cons (ps_for PassesOwn.never rfl (pi_list (call_ C__law_columns (hr.mono (by decide)) (by rfl) (pa_cons (pv 1) pa_nil))) (pg_name (i := 3) sc.nd rfl (Or.inr rfl))
      (pss_one (ps_expr (pe_bm PySem.F.plainAttrs_list PySem.F.slot_list_append PySem.F.type_list_append mt_append (pv 2) (pa_cons (pe_callTy call_tuple_of (by rfl) m_tuple (by decide +kernel) (pa_cons (pe_lc (own := [("i", 5)]) (g := gName 5) (by rfl) sc.nd (pi_range1 rfl m_range (pa_cons (pe_callB call_len_seq (by rfl) m_len (by decide +kernel) (pa_cons (pv 3) pa_nil)) pa_nil)) (blkOk_by (own := [("i", 5)]) (N := ["grid_so", "inner_so", "some", "column", "t", "i"]) (sc := defScope s_within) (by decide +kernel)) (fun _ _ _ _ _ => pg_name (i := 5) sc.nd rfl (Or.inl rfl)) (fun _ _ _ _ _ => pts_nil) (fun _ _ _ _ _ => (pe_op op_add (pe_ix (ix_tupK (K := K) rfl) (pe_ix (ix_tupK (K := K) rfl) (pv 1) pe_int (fun _ _ => rfl)) (pv 5) (fun _ _ => rfl)) (pe_ix (ix_tupK (K := K) rfl) (pv 3) (pv 5) (fun _ _ => rfl))))) pa_nil)) pa_nil)))))
    (pss_one (ps_ret (pe_cmpR (op_eqD hr.units) (pe_lc (own := [("t", 4)]) (g := gName 4) (by rfl) sc.nd (pi_list (pv 2)) (blkOk_by (own := [("t", 4)]) (N := ["grid_so", "inner_so", "some", "column", "t", "i"]) (sc := defScope s_within) (by decide +kernel)) (fun _ _ _ _ _ => pg_name (i := 4) sc.nd rfl (Or.inl rfl)) (fun _ _ _ _ _ => (pts_one (pt_cmpR op_isN (call_ C__law_place (hr.mono (by decide)) (by rfl) (pa_cons (pv 0) (pa_cons (pv 4) pa_nil))) pe_non (nomark _)))) (fun _ _ _ _ _ => (pv 4))) (pe_lst pa_nil) (nomark _)))))), ?_⟩
    have hI0 := hI
    obtain ⟨tb', ts', ps', k1, k2, kR, k4, k5⟩ := hI
    have n9 := hs'.n
    refine ⟨.ref h, rfl, h, _, 1, .ref ts', rfl, rfl, k1.t, atI_nat (j := 1) rfl, by show 1 ≤ sizeLine; decide, fun S nS => ?_⟩
    have s1 : Same H (upd H S (.lst [.ref ts'])) := same_new nS
    have g1 : upd H S (.lst [.ref ts']) S = some (.lst (([ts'] : List Addr).map V.ref)) := upd_same
    generalize upd H S (.lst [.ref ts']) = H1 at s1 g1 ⊢
    refine ⟨.ref h, rfl, h, B', st', rfl, hI0.same s1, n9, fun Lc cq H2 s2 nLc d2 R2 => ?_⟩
    have s12 := s1.trans s2
    have g2 := s2 _ _ g1
    have lq : cq.length = B'.length := by
      rw [R2.1]
      unfold colsI
      rw [List.length_map, List.length_range]
    refine ⟨Lc, rfl, ⟨_, SqL.of d2⟩, ?_⟩
    have LS : Lc ≠ S := Ne.symm (ne_of_none g1 nLc)
    have lts : (tsI B' st').length = B'.length + 1 := by
      unfold tsI colsI
      rw [List.length_cons, List.length_map, List.length_map, List.length_range]
    refine for_it (walk_list (K := K) (a := Lc) (xs := cq.map V.ref)) (fun j σ H' => ∃ ps, (∃ y3 y4 y5, σ = [some (.ref g), some (.ref h), some (.ref S), y3, y4, y5]) ∧ Same H H' ∧ H' S = some (.lst ((ps : List Addr).map V.ref)) ∧ H' Lc = some (.lst (cq.map V.ref)) ∧ Rws H' cq (colsI B' B'.length) B'.length ∧ Rw H' ps ((tsI B' st').take (j + 1)))
      ⟨[ts'], ⟨_, _, _, rfl⟩, s12, g2, d2, R2, ⟨rfl, fun i p r e1 e2 => ?_⟩⟩ (fun j σ H' _ p => by obtain ⟨_, _, _, _, d, _⟩ := p; exact SqL.of d) ?_ ?_
    · cases i with
      | zero =>
        obtain rfl := Option.some.inj e1
        obtain rfl := Option.some.inj e2
        exact (k4.1.same s1).same s2
      | succ i => cases e1
    · rintro j x σ H3 H3' hj ⟨ps, ⟨y3, y4, y5, rfl⟩, s3, g3, d3, R3, W3⟩ ⟨rfl, hx⟩
      obtain ⟨p, hp, rfl⟩ := map_get hx
      have hjn : j < B'.length := by
        rw [List.length_map] at hj
        omega
      obtain ⟨c, hc⟩ : ∃ c, (colsI B' B'.length)[j]? = some c := ⟨_, List.getElem?_eq_getElem (by unfold colsI; rw [List.length_map, List.length_range]; exact hjn)⟩
      obtain ⟨Rp, lc⟩ := R3.2 j p c hp hc
      have ht : (tsI B' st')[j + 1]? = some (addL st' c) := by
        unfold tsI
        rw [List.getElem?_cons_succ, List.getElem?_map, hc]
        rfl
      have la : (addL st' c).length = B'.length := by
        unfold addL
        rw [List.length_zipWith, lc, k5, Nat.min_self]
      refine ⟨.ref S, rfl, .inl ⟨rfl, _, SqL.of g3⟩, .ref p, rfl, p, _, rfl, .inr Rp.1.t, ((c.map V.int).length : Int), rfl, by omega, by rw [List.length_map]; omega, fun D nD => ?_⟩
      have e0 : ((c.map V.int).length : Int).toNat = B'.length := by
        rw [List.length_map]
        omega
      rw [e0]
      refine lc_to (walk_range (lo := 0) (n := B'.length)) ((addL st' c).map V.int) (by rw [List.length_map, la]) (small (by omega)) nD (fun H' s => True.intro) ?_ ?_
      · rintro i x z H4 H4' Qy hz hi s4 ⟨rfl, rfl⟩ hq
        obtain ⟨u, hu, rfl⟩ := map_get hz
        obtain ⟨a1, b1, ha1, hb1, rfl⟩ := zipW_get hu
        have ei : (0 + (i : Int)) = ((i : Nat) : Int) := by omega
        exact ⟨rfl, .ref h, rfl, h, _, 1, .ref ts', rfl, rfl, ((k1.same s3).same s4).t, atI_nat (j := 1) rfl, .int (0 + i), rfl, ts', _, 0 + i, .int a1, rfl, rfl, ((k4.1.same s3).same s4).t, atI_at ei (get_map ha1), .ref p, rfl, .int (0 + i), rfl, p, _, 0 + i, .int b1, rfl, rfl, (Rp.1.same s4).t, atI_at ei (get_map hb1), a1, b1, rfl, rfl, hq _ (Same.refl _)⟩
      intro H4 s4 d4
      refine ⟨D, _, rfl, .inl ⟨SqL.of d4, fun T nT => ?_⟩⟩
      have s5 : Same H4 (upd H4 T (.tup ((addL st' c).map V.int))) := same_new nT
      have g5 : Tp (upd H4 T (.tup ((addL st' c).map V.int))) T ((addL st' c).map V.int) := upd_same
      generalize upd H4 T (.tup ((addL st' c).map V.int)) = H5 at s5 g5 ⊢
      have s35 := s4.trans s5
      have gS := s35 _ _ g3
      have W5 := W3.same s35
      have R5 := R3.same s35
      have lps : ps.length = j + 1 := by
        rw [W3.1, List.length_take, lts]
        omega
      refine ⟨S, _, _, rfl, rfl, gS, by rw [List.length_map, lps]; exact small (by omega), ps ++ [T], ⟨_, _, _, rfl⟩, same_put (s3.trans s35) nS, by rw [upd_same, List.map_append]; rfl, by rw [upd_ne LS]; exact s35 _ _ d3, ⟨R5.1, fun i p r e1 e2 => ⟨⟨tp_put (R5.2 i p r e1 e2).1.1 gS, (R5.2 i p r e1 e2).1.2⟩, (R5.2 i p r e1 e2).2⟩⟩, ?_⟩
      rw [List.take_add_one, ht]
      exact (W5.snoc g5).put gS
    · rintro σ H3 ⟨ps, ⟨y3, y4, y5, rfl⟩, s3, g3, d3, R3, W3⟩
      have eT : (tsI B' st').take ((cq.map V.ref).length + 1) = tsI B' st' := by
        rw [List.length_map, lq, ← lts, List.take_length]
      rw [eT] at W3
      have lps : (ps.map V.ref).length = (tsI B' st').length := by rw [List.length_map, W3.1]
      have tss := tsI_sm hs'
      refine ⟨.ref S, rfl, S, rfl, ⟨_, SqL.of g3⟩, fun D nD => ?_⟩
      refine lc_fl (walk_list (K := K) (a := S) (xs := ps.map V.ref)) (fun i => !isIn B st ((tsI B' st').getD i [])) (fun i => (ps.map V.ref).getD i .non) (by rw [lps, lts]; exact small (by omega)) nD (fun H' s => SqL.of (s _ _ g3)) ?_ ?_
      · rintro j x H6 H6' Qy Nx hj s6 ⟨rfl, hx⟩ hk hnk
        have hx0 : (ps.map V.ref).getD j .non = x := by
          rw [List.getD_eq_getElem?_getD, hx]
          rfl
        obtain ⟨p, hp, rfl⟩ := map_get hx
        rw [lps] at hj
        have ht : (tsI B' st')[j]? = some ((tsI B' st').getD j []) := by
          rw [List.getD_eq_getElem?_getD, List.getElem?_eq_getElem hj]
          rfl
        have hT := (W3.2 j p _ hp ht).same s6
        obtain ⟨lt, zt⟩ := tss _ (List.mem_of_getElem? ht)
        refine ⟨rfl, .ref g, rfl, .ref p, rfl, ?_⟩
        unfold tNil
        refine place_call ((hG.same s3).same s6) hs hT (by omega) (fun x hx => smz_mono (zt x hx) (by decide)) fun y H7 s7 hy => ?_
        unfold isIn at hk hnk
        cases e : placeI B st ((tsI B' st').getD j []) B.length with
        | none =>
          rw [e] at hy hk
          obtain rfl : y = .non := hy
          exact ⟨rfl, _, rfl, iteT ⟨.ref p, rfl, by rw [← hx0]; exact hk rfl _ s7⟩⟩
        | some z =>
          rw [e] at hy hnk
          obtain ⟨r, rfl, _⟩ := hy
          refine ⟨rfl, _, rfl, ?_⟩
          rw [decide_eq_false (show ¬ V.ref r = V.non from fun z => by cases z)]
          exact iteF (hnk rfl _ s7)
      · intro H6 s6 g6
        rw [lps] at g6
        refine ⟨by show 0 ≤ sizeLine; decide, fun Z nZ => ?_⟩
        have s7 : Same H6 (upd H6 Z (.lst [])) := same_new nZ
        have g7 : upd H6 Z (.lst []) Z = some (.lst []) := upd_same
        have g6 := s7 _ _ g6
        generalize upd H6 Z (.lst []) = H7 at s7 g7 g6 ⊢
        have s67 := s6.trans s7
        have dpl := kept_dp (K := K) (W3.same s67) ((List.range (tsI B' st').length).filter fun i => !isIn B st ((tsI B' st').getD i [])) (fun i hi => List.mem_range.mp (List.mem_filter.mp hi).1)
        have emp : ((List.range (tsI B' st').length).filter fun i => !isIn B st ((tsI B' st').getD i [])).isEmpty = (tsI B' st').all fun t => isIn B st t := by
          rw [kept_emp (fun t => !isIn B st t)]
          simp
        generalize ((List.range (tsI B' st').length).filter fun i => !isIn B st ((tsI B' st').getD i [])) = kept at g6 dpl emp
        have shp : SeqAt.shaped (.list (kept.map fun i => dRow ((tsI B' st').getD i []))) = true := by
          have h := (shaped_rows (kept.map fun i => (tsI B' st').getD i [])).1
          rw [List.map_map] at h
          exact h
        have eqe : PyData.eqv (.list (kept.map fun i => dRow ((tsI B' st').getD i []))) (.list []) = (tsI B' st').all fun t => isIn B st t := by
          rw [← emp]
          cases kept with
          | nil => rfl
          | cons a l => rfl
        refine ⟨.list (kept.map fun i => dRow ((tsI B' st').getD i [])), .list [], .lst (SqL.of g6) dpl, .lst (SqL.of g7) .nil, shp, by decide, ?_⟩
        rw [eqe]
        exact q _ (s3.trans s67)
end
end K13
namespace K13
open PySem PySem.Spec PyProof.Rows L2 Vk
theorem op_catAK {X : Cx} {K : PySem.W.Frag} (h : X.K = K) : OpR X (binaryOp .Add) (rCatA K) := by
  subst h
  exact op_catA
/-- a comprehension of drawn numbers, each below its own bound -/
theorem lc_drawnB {n : Nat} {g : TG} {te : TE} {vs : List Nat} {σ : L2.St} {H1 : Hp} {D : Addr} {Qd : Hp → Prop} {m c : Addr} {q : Nat} (up : Nat → Int) (hz : n < sizeLine) (hM : MOk H1 m c q) (nD : H1 D = none)
    (hs : ∀ (i : Nat) (H : Hp) (Qy : VK), i < n → SameBut m H1 H → MOk H m c (q + i) → (∀ H4 v, SameBut m H H4 → MOk H4 m c (q + i + 1) → 0 ≤ v → v < up i → Qy (.int v) H4) → g (.int (0 + i)) (wipe σ vs) H fun σ2 H2 => wipe σ2 vs = wipe σ vs ∧ te σ2 H2 Qy)
    (hd : ∀ H (xs : List Int), SameBut m H1 H → MOk H m c (q + n) → H D = some (.lst (xs.map V.int)) → xs.length = n → (∀ (i : Nat) (x : Int), xs[i]? = some x → 0 ≤ x ∧ x < up i) → Qd H) :
    ∃ W : Nat → Nat → Hp → Prop, (∃ m, W 0 m (upd H1 D (.lst []))) ∧ ∀ i m H, W i m H →
      ((Itr 0 n).stop i H ∧ Qd H) ∨ ((Itr 0 n).go i H ∧ ∃ Nx : Hp → Prop, (∀ H', Nx H' → ∃ m', m' < m ∧ W (i + 1) m' H') ∧ ∀ x H', (Itr 0 n).yld i H x H' → g x (wipe σ vs) H' fun σ2 H2 => wipe σ2 vs = wipe σ vs ∧ tYes σ2 H2 fun b H3 =>
        if b = true then te σ2 H3 fun y H4 => ∃ acc, H4 D = some (.lst acc) ∧ acc.length < sizeLine ∧ Nx (upd H4 D (.lst (acc ++ [y]))) else Nx H3) := by
  obtain ⟨kvs, hm⟩ := hM.m_some
  obtain ⟨ys, hc⟩ := hM.c_some
  have dm : D ≠ m := Ne.symm (ne_of_none hm nD)
  have dc : D ≠ c := Ne.symm (ne_of_none hc nD)
  refine lc_it (walk_range (lo := 0) (n := n)) (tt := tYes) (fun i H => ∃ xs : List Int, SameBut m H1 H ∧ MOk H m c (q + i) ∧ H D = some (.lst (xs.map V.int)) ∧ xs.length = i ∧ ∀ (j : Nat) (x : Int), xs[j]? = some x → 0 ≤ x ∧ x < up j) ⟨[], SameBut.of (same_new nD), hM.put dm dc, upd_same, rfl, fun j x hx => by cases hx⟩ (fun _ _ _ _ => True.intro) ?_ ?_
  · rintro i x H H' hi ⟨xs, sb, M, d, l, bd⟩ ⟨rfl, rfl⟩
    refine hs i H' (fun y H4 => ∃ acc, H4 D = some (.lst acc) ∧ acc.length < sizeLine ∧ ∃ xs : List Int, SameBut m H1 (upd H4 D (.lst (acc ++ [y]))) ∧ MOk (upd H4 D (.lst (acc ++ [y]))) m c (q + (i + 1)) ∧ upd H4 D (.lst (acc ++ [y])) D = some (.lst (xs.map V.int)) ∧ xs.length = i + 1 ∧ ∀ (j : Nat) (x : Int), xs[j]? = some x → 0 ≤ x ∧ x < up j) hi sb M fun H4 v b4 M4 v0 v1 => ?_
    refine ⟨xs.map V.int, b4 _ _ dm d, by rw [List.length_map]; omega, xs ++ [v], fun b o hb e => ?_, M4.put dm dc, ?_, by rw [List.length_append, l]; rfl, fun j x hx => ?_⟩
    · rw [upd_ne (ne_of_none e nD)]
      exact b4 _ _ hb (sb _ _ hb e)
    · rw [upd_same, List.map_append]
      rfl
    · by_cases hj : j < xs.length
      · rw [List.getElem?_append_left hj] at hx
        exact bd j x hx
      · have hj2 := (List.getElem?_eq_some_iff.mp hx).1
        rw [List.length_append] at hj2
        have hj3 : j = xs.length := by
          simp only [List.length_cons, List.length_nil] at hj2
          omega
        subst hj3
        rw [List.getElem?_append_right (Nat.le_refl _), Nat.sub_self] at hx
        obtain rfl := Option.some.inj hx
        rw [l]
        exact ⟨v0, v1⟩
  · rintro H ⟨xs, sb, M, d, l, bd⟩
    exact hd H xs sb M d l bd
abbrev s_grid : Stmt := topS 25
theorem sc_grid : FnScope ["m", "size_so", "most", "rows", "i", "side", "j"] ["m", "size_so", "most"] (defScope s_grid) := ⟨rfl, rfl, rfl, by decide +kernel, rfl, by decide +kernel, by decide +kernel⟩
/-- the i-th row of a drawn table -/
def RowOk (n : Nat) (most : Int) (i : Nat) (r : List Int) : Prop := r.length = n ∧ 1 ≤ r.getD i 0 ∧ r.getD i 0 ≤ most ∧ (∀ j, j < i → 0 ≤ r.getD j 0 ∧ r.getD j 0 < r.getD i 0) ∧ ∀ j, i < j → r.getD j 0 = 0
def GridOk (n : Nat) (most : Int) (B : List (List Int)) (s : List Int) : Prop := B.length = n ∧ s.length = n ∧ (∀ i, i < n → RowOk n most i (B.getD i [])) ∧ ∀ i, i < n → 0 ≤ s.getD i 0 ∧ s.getD i 0 < dg B i
def spGrid : Sp := fun vs H Q _ => ∃ (m c : Addr) (q n : Nat) (most : Int), vs = [.ref m, .int n, .int most] ∧ MOk H m c q ∧ q ≤ 5000 ∧ n ≤ 4 ∧ 1 ≤ most ∧ most ≤ 100 ∧
  ∀ H' g B s, SameBut m H H' → MOk H' m c (q + 20) → H g = none → Gr H' g B s → GridOk n most B s → Q (.ref g) H'
theorem rowOk_of {n i : Nat} {most v : Int} {xs : List Int} (hi : i < n) (l : xs.length = i) (v0 : 0 ≤ v) (v1 : v < most) (bd : ∀ (j : Nat) (x : Int), xs[j]? = some x → 0 ≤ x ∧ x < 1 + v) : RowOk n most i (xs ++ [1 + v] ++ List.replicate (n - 1 - i) 0) := by
  have mid : (xs ++ [1 + v] ++ List.replicate (n - 1 - i) 0).getD i 0 = 1 + v := by
    rw [List.getD_eq_getElem?_getD, List.append_assoc, List.getElem?_append_right (by omega), l, Nat.sub_self]
    rfl
  refine ⟨?_, ?_, ?_, fun j hj => ?_, fun j hj => ?_⟩
  · rw [List.length_append, List.length_append, List.length_replicate, l]
    show i + 1 + _ = n
    omega
  · rw [mid]; omega
  · rw [mid]; omega
  · rw [mid, List.getD_eq_getElem?_getD, List.append_assoc, List.getElem?_append_left (by omega)]
    have e : xs[j]? = some xs[j] := List.getElem?_eq_getElem (by omega)
    rw [e]
    exact bd j _ e
  · rw [List.getD_eq_getElem?_getD, List.getElem?_append_right (by rw [List.length_append, l]; show i + 1 ≤ j; omega), List.getElem?_replicate]
    split <;> rfl
theorem row_small {k : Nat} {v : Int} {xs : List Int} (v0 : 0 ≤ v) (v1 : v < 100) (bd : ∀ (j : Nat) (x : Int), xs[j]? = some x → 0 ≤ x ∧ x < 1 + v) : ∀ x ∈ xs ++ [1 + v] ++ List.replicate k 0, SmZ 300 x := by
  intro x hx
  have : 0 ≤ x ∧ x ≤ 100 := by
    rcases List.mem_append.mp hx with hx | hx
    · rcases List.mem_append.mp hx with hx | hx
      · obtain ⟨j, hj⟩ := List.getElem?_of_mem hx
        have := bd j x hj
        omega
      · rw [List.mem_singleton] at hx
        omega
    · have := (List.mem_replicate.mp hx).2
      omega
  exact Nat.lt_of_le_of_lt (show x.natAbs ≤ 100 by omega) (by decide)
section
variable {P : Program} {w : World} {K : PySem.W.Frag} {mg : Str → Option Value} {base : Heap}
theorem ok_grid {f : Addr} {fd : FuncData} (F : Fun K "_law_grid" "_law_grid" s_grid f fd) (C__law_draw : Cal P w K mg base 1 "_law_draw" ["m", "bound"] spDraw) (m_tuple : mg "tuple" = none) (m_range : mg "range" = none) : FnOk P w K mg base CX0 2 f fd ["m", "size_so", "most"] spGrid := by
  have sc := sc_grid
  refine F.ok sc (fun vs H Q E h => ?_) (fun cdv A outer s H vs Q E hr h => ?_)
  · obtain ⟨m, c, q, n, most, rfl, _⟩ := h
    rfl
  · obtain ⟨m, c, q, n, most, rfl, hM, hq, hn, hm0, hm1, k⟩ := h
    refine ⟨_, (pss_cons (ps_set (i := 3) sc.nd rfl (Or.inr rfl) (pe_lst pa_nil))
    (pss_cons (ps_for PassesOwn.never rfl (pi_range1 rfl m_range (pa_cons (pv 1) pa_nil)) (pg_name (i := 4) sc.nd rfl (Or.inl rfl))
      (pss_cons (ps_set (i := 5) sc.nd rfl (Or.inr rfl) (pe_op op_add pe_int (call_ C__law_draw (hr.mono (by decide)) (by rfl) (pa_cons (pv 0) (pa_cons (pv 2) pa_nil)))))
    (pss_one (ps_expr (pe_bm PySem.F.plainAttrs_list PySem.F.slot_list_append PySem.F.type_list_append mt_append (pv 3) (pa_cons
      (pe_op (op_catAK (K := K) rfl) (pe_op (op_catAK (K := K) rfl) (pe_callTy call_tuple_of (by rfl) m_tuple (by decide +kernel) (pa_cons (pe_lc (own := [("j", 6)]) (g := gName 6) (by rfl) sc.nd (pi_range1 rfl m_range (pa_cons (pv 4) pa_nil)) (blkOk_by (own := [("j", 6)]) (N := ["m", "size_so", "most", "rows", "i", "side", "j"]) (sc := defScope s_grid) (by decide +kernel)) (fun _ _ _ _ _ => pg_name (i := 6) sc.nd rfl (Or.inl rfl)) (fun _ _ _ _ _ => pts_nil) (fun _ _ _ _ _ => (call_ C__law_draw (hr.mono (by decide)) (by rfl) (pa_cons (pv 0) (pa_cons (pv 5) pa_nil))))) pa_nil)) (pe_tup (pa_cons (pv 5) pa_nil))) (pe_op (op_tmsK (K := K) rfl) (pe_tup (pa_cons pe_int pa_nil)) (pe_op op_sub (pe_op op_sub (pv 1) pe_int) (pv 4)))) pa_nil))))))
    (pss_one (ps_ret (pe_tup (pa_cons (pe_callTy call_tuple_of (by rfl) m_tuple (by decide +kernel) (pa_cons (pv 3) pa_nil)) (pa_cons (pe_callTy call_tuple_of (by rfl) m_tuple (by decide +kernel) (pa_cons (pe_lc (own := [("i", 4)]) (g := gName 4) (by rfl) sc.nd (pi_range1 rfl m_range (pa_cons (pv 1) pa_nil)) (blkOk_by (own := [("i", 4)]) (N := ["m", "size_so", "most", "rows", "i", "side", "j"]) (sc := defScope s_grid) (by decide +kernel)) (fun _ _ _ _ _ => pg_name (i := 4) sc.nd rfl (Or.inl rfl)) (fun _ _ _ _ _ => pts_nil) (fun _ _ _ _ _ => (call_ C__law_draw (hr.mono (by decide)) (by rfl) (pa_cons (pv 0) (pa_cons (pe_ix (ix_tupK (K := K) rfl) (pe_ix (ix_listK (K := K) rfl) (pv 3) (pv 4) (fun _ _ => rfl)) (pv 4) (fun _ _ => rfl)) pa_nil))))) pa_nil)) pa_nil))))))), ?_⟩
    refine ⟨by show 0 ≤ sizeLine; decide, fun R nR => ?_⟩
    obtain ⟨kvs, hmH⟩ := hM.m_some
    obtain ⟨ys, hcH⟩ := hM.c_some
    have rm : R ≠ m := Ne.symm (ne_of_none hmH nR)
    have rc : R ≠ c := Ne.symm (ne_of_none hcH nR)
    refine ⟨.int n, rfl, (n : Int), rfl, by omega, by omega, ?_⟩
    rw [Int.toNat_natCast]
    refine for_it (walk_range (lo := 0) (n := n)) (fun i σ H' => ∃ (ps : List Addr) (rows : List (List Int)), (∃ y4 y5 y6, σ = [some (.ref m), some (.int n), some (.int most), some (.ref R), y4, y5, y6]) ∧ SameBut m H H' ∧ MOk H' m c (q + 4 * i) ∧ H' R = some (.lst (ps.map V.ref)) ∧ ps.length = i ∧ rows.length = i ∧
      ∀ (j : Nat) (p : Addr) (r : List Int), ps[j]? = some p → rows[j]? = some r → Row H' p r ∧ RowOk n most j r) ⟨[], [], ⟨none, none, none, rfl⟩, SameBut.of (same_new nR), hM.put rm rc, upd_same, rfl, rfl, fun j p r e1 e2 => by cases e1⟩ (fun i σ H' _ p => True.intro) ?_ ?_
    · rintro i x σ H' H6 hi ⟨ps, rows, ⟨y4, y5, y6, rfl⟩, sb, M, gR, lp, lr, hrow⟩ ⟨rfl, rfl⟩
      have lim : ∀ z : Int, 0 ≤ z → z ≤ 1000 → z.natAbs < 2 ^ 200 := fun z h0 h1 => Nat.lt_of_le_of_lt (show z.natAbs ≤ 1000 by omega) (by decide)
      refine ⟨.ref m, rfl, .int most, rfl, m, c, q + 4 * i, most, rfl, M, by omega, by omega, lim _ (by omega) (by omega), fun H1 v b1 M1 v0 v1 => ⟨1, v, rfl, rfl, ?_⟩⟩
      refine ⟨.ref R, rfl, .inl ⟨rfl, _, SqL.of (b1 _ _ rm gR)⟩, .int (0 + i), rfl, (0 + i : Int), rfl, by omega, by omega, fun D nD => ?_⟩
      have e0 : (0 + (i : Int)).toNat = i := by omega
      rw [e0]
      refine lc_drawnB (n := i) (m := m) (c := c) (q := q + 4 * i + 1) (fun _ => 1 + v) (small (by omega)) M1 nD ?_ ?_
      · intro j H' Qy hj _ M' hQ
        exact ⟨rfl, .ref m, rfl, .int (1 + v), rfl, m, c, q + 4 * i + 1 + j, 1 + v, rfl, M', by omega, by omega, lim _ (by omega) (by omega), fun H4 v' b4 M4 u0 u1 => hQ H4 _ b4 M4 u0 u1⟩
      intro H2 xs b2 M2 d2 l2 bd
      refine ⟨D, _, rfl, .inl ⟨SqL.of d2, fun T nT => ?_⟩⟩
      have sT : Same H2 (upd H2 T (.tup (xs.map V.int))) := same_new nT
      have gT : Tp (upd H2 T (.tup (xs.map V.int))) T (xs.map V.int) := upd_same
      generalize upd H2 T (.tup (xs.map V.int)) = H7 at sT gT ⊢
      refine ⟨.int (1 + v), rfl, by show 1 ≤ sizeLine; decide, fun U nU => ?_⟩
      have sU : Same H7 (upd H7 U (.tup [.int (1 + v)])) := same_new nU
      have gU : Tp (upd H7 U (.tup [.int (1 + v)])) U [.int (1 + v)] := upd_same
      generalize upd H7 U (.tup [.int (1 + v)]) = H8 at sU gU ⊢
      refine cat_tp (gT.same sU) gU (by rw [List.length_map]; exact Nat.le_of_lt (small (by show xs.length + 1 ≤ 100; omega))) fun r3 H9 s9 t9 => ?_
      refine ⟨by show 1 ≤ sizeLine; decide, fun Z nZ => ?_⟩
      have sZ : Same H9 (upd H9 Z (.tup [.int 0])) := same_new nZ
      have gZ : Tp (upd H9 Z (.tup [.int 0])) Z [.int 0] := upd_same
      generalize upd H9 Z (.tup [.int 0]) = H10 at sZ gZ ⊢
      refine ⟨.int n, rfl, n, 1, rfl, rfl, .int (0 + i), rfl, (n : Int) - 1, 0 + i, rfl, rfl, ?_⟩
      refine tms_tp (k := n - 1 - i) (by omega) gZ (by simp) (by omega) (by decide) fun r4 H11 s11 t11 => ?_
      rw [show (List.replicate (n - 1 - i) [V.int 0]).flatten = (List.replicate (n - 1 - i) (0 : Int)).map V.int by simp] at t11
      refine cat_tp ((t9.same sZ).same s11) t11 (by
        rw [List.length_append, List.length_map, List.length_map, List.length_replicate]
        exact Nat.le_of_lt (small (by show xs.length + 1 + _ ≤ 100; omega))) fun r5 H12 s12 t12 => ?_
      have sS : Same H2 H12 := ((((sT.trans sU).trans s9).trans sZ).trans s11).trans s12
      have bS : SameBut m H6 H12 := (b1.trans b2).trans (SameBut.of sS)
      have gR12 := bS _ _ rm gR
      refine ⟨R, _, _, rfl, rfl, gR12, by rw [List.length_map, lp]; exact small (by omega), ?_⟩
      have nl : (xs ++ [1 + v] ++ List.replicate (n - 1 - i) 0).length ≤ 100 := by
        rw [(rowOk_of hi l2 v0 v1 bd).1]
        omega
      obtain ⟨kv6, hm6⟩ := M.m_some
      refine ⟨ps ++ [r5], rows ++ [xs ++ [1 + v] ++ List.replicate (n - 1 - i) 0], ⟨_, _, _, rfl⟩, sb_put nR (sb.trans bS), ((M2.same sS).put rm rc).mono (by omega), ?_, by rw [List.length_append, lp]; rfl, by rw [List.length_append, lr]; rfl, fun j a z h1 h2 => ?_⟩
      · rw [upd_same, List.map_append]
        rfl
      · by_cases hj : j < i
        · rw [List.getElem?_append_left (by omega)] at h1 h2
          obtain ⟨Ra, Oa⟩ := hrow j a z h1 h2
          have Rb := Ra.but hm6 bS
          exact ⟨⟨tp_put Rb.1 gR12, Rb.2⟩, Oa⟩
        · have j9 := (List.getElem?_eq_some_iff.mp h1).1
          rw [List.length_append, lp] at j9
          have j8 : j = i := by
            simp only [List.length_cons, List.length_nil] at j9
            omega
          subst j8
          rw [List.getElem?_append_right (by omega), lp, Nat.sub_self] at h1
          rw [List.getElem?_append_right (by omega), lr, Nat.sub_self] at h2
          obtain rfl := Option.some.inj h1
          obtain rfl := Option.some.inj h2
          refine ⟨⟨tp_put (?_ : Tp H12 r5 _) gR12, nl, row_small v0 (by omega) bd⟩, rowOk_of hi l2 v0 v1 bd⟩
          rw [List.map_append, List.map_append]
          exact t12
    · rintro σ H4 ⟨ps, rows, ⟨y4, y5, y6, rfl⟩, sb, M, gR, lp, lr, hrow⟩
      have lim : ∀ z : Int, 0 ≤ z → z ≤ 1000 → z.natAbs < 2 ^ 200 := fun z h0 h1 => Nat.lt_of_le_of_lt (show z.natAbs ≤ 1000 by omega) (by decide)
      refine ⟨.ref R, rfl, R, _, rfl, .inl ⟨SqL.of gR, fun T nT => ?_⟩⟩
      have sT : Same H4 (upd H4 T (.tup (ps.map V.ref))) := same_new nT
      have gT : Tp (upd H4 T (.tup (ps.map V.ref))) T (ps.map V.ref) := upd_same
      generalize upd H4 T (.tup (ps.map V.ref)) = H5 at sT gT ⊢
      have M5 := M.same sT
      obtain ⟨kv5, hm5⟩ := M5.m_some
      have hrow5 : ∀ (j : Nat), j < n → ∃ p, ps[j]? = some p ∧ Row H5 p (rows.getD j []) ∧ RowOk n most j (rows.getD j []) := fun j hj => by
        have e1 : ps[j]? = some ps[j] := List.getElem?_eq_getElem (by omega)
        have e2 : rows[j]? = some (rows.getD j []) := by
          rw [List.getD_eq_getElem?_getD, List.getElem?_eq_getElem (by omega : j < rows.length)]
          rfl
        obtain ⟨Ra, Oa⟩ := hrow j _ _ e1 e2
        exact ⟨_, e1, Ra.same sT, Oa⟩
      refine ⟨.int n, rfl, (n : Int), rfl, by omega, by omega, fun D nD => ?_⟩
      rw [Int.toNat_natCast]
      refine lc_drawnB (n := n) (m := m) (c := c) (q := q + 4 * n) (fun i => dg rows i) (small (by omega)) M5 nD ?_ ?_
      · intro j H' Qy hj sb' M' hQ
        obtain ⟨p, hp, Rp, Op⟩ := hrow5 j hj
        have ej : (0 + (j : Int)) = ((j : Nat) : Int) := by omega
        have hd : (rows.getD j [])[j]? = some (dg rows j) := getD_at (by rw [Op.1]; omega)
        have h1 : 1 ≤ dg rows j := Op.2.1
        have h2 : dg rows j ≤ most := Op.2.2.1
        exact ⟨rfl, .ref m, rfl, .ref R, rfl, .int (0 + j), rfl, R, _, 0 + j, .ref p, rfl, rfl, SqL.of (sb' _ _ rm (sT _ _ gR)), atI_at ej (get_map hp), .int (0 + j), rfl, p, _, 0 + j, .int (dg rows j), rfl, rfl, (Rp.but hm5 sb').1.t, atI_at ej (get_map hd), m, c, q + 4 * n + j, dg rows j, rfl, M', by omega, by omega, lim _ (by omega) (by omega), fun H4 v' b4 M4 u0 u1 => hQ H4 _ b4 M4 u0 u1⟩
      intro H2 xs b2 M2 d2 l2 bd
      refine ⟨D, _, rfl, .inl ⟨SqL.of d2, fun ts nts => ?_⟩⟩
      have sS : Same H2 (upd H2 ts (.tup (xs.map V.int))) := same_new nts
      have gS : Tp (upd H2 ts (.tup (xs.map V.int))) ts (xs.map V.int) := upd_same
      generalize upd H2 ts (.tup (xs.map V.int)) = H7 at sS gS ⊢
      refine ⟨by show 2 ≤ sizeLine; decide, fun g ng => ?_⟩
      have b7 : SameBut m H5 H7 := b2.trans (SameBut.of sS)
      have sG : Same H7 (upd H7 g (.tup [.ref T, .ref ts])) := same_new ng
      have bG : SameBut m H H7 := (sb.trans (SameBut.of sT)).trans b7
      have M7 := M2.same sS
      obtain ⟨kv7, hm7⟩ := M7.m_some
      have xl : ∀ i, i < n → 0 ≤ xs.getD i 0 ∧ xs.getD i 0 < dg rows i := fun i hi => bd i _ (getD_at (by omega))
      have xs_small : ∀ x ∈ xs, SmZ 300 x := fun x hx => by
        obtain ⟨j, hj⟩ := List.getElem?_of_mem hx
        have hj9 := (List.getElem?_eq_some_iff.mp hj).1
        have b9 := bd j x hj
        obtain ⟨p, hp, Rp, Op⟩ := hrow5 j (by omega)
        have h2 : dg rows j ≤ most := Op.2.2.1
        exact Nat.lt_of_le_of_lt (show x.natAbs ≤ 100 by omega) (by decide)
      refine k _ g rows xs (bG.trans (SameBut.of sG)) ((M7.same sG).mono (by omega)) (bG.free ⟨_, hm7⟩ ng) ⟨T, ts, ps, upd_same, ((gT.but hm5 b7).same sG), ⟨by omega, fun i p r h1 h2 => ?_⟩, ⟨gS.same sG, by omega, xs_small⟩, by omega⟩ ⟨lr, l2, fun i hi => ?_, xl⟩
      · obtain ⟨Ra, Oa⟩ := hrow i p r h1 h2
        exact ⟨((Ra.same sT).but hm5 b7).same sG, by rw [Oa.1]; omega⟩
      · obtain ⟨p, hp, Rp, Op⟩ := hrow5 i hi
        exact Op
end
end K13
namespace K13
open PySem PySem.Spec PyProof.Rows L2 Vk
abbrev s_isgrid : Stmt := topS 24
theorem sc_isgrid : FnScope ["value_so", "i", "table", "s", "row", "x", "j"] ["value_so"] (defScope s_isgrid) := ⟨rfl, rfl, rfl, by decide +kernel, rfl, by decide +kernel, by decide +kernel⟩
/-- a grid in its one writing -/
structure Wr (B : List (List Int)) (s : List Int) : Prop where
  p : ∀ i, i < B.length → 0 < dg B i
  w : ∀ r ∈ B, r.length = B.length
  l : s.length = B.length
  s0 : ∀ i, i < B.length → 0 ≤ s.getD i 0 ∧ s.getD i 0 < dg B i
  lo : ∀ i j, i < B.length → j < i → 0 ≤ mt B i j ∧ mt B i j < dg B i
  up : ∀ i j, i < j → j < B.length → mt B i j = 0
def spIsgrid : Sp := fun vs H Q _ => ∃ (g : Addr) (B : List (List Int)) (s : List Int), vs = [.ref g] ∧ Gr H g B s ∧ B.length ≤ 9 ∧ Wr B s ∧ ∀ H', Same H H' → Q (.bl true) H'
section
variable {P : Program} {w : World} {K : PySem.W.Frag} {mg : Str → Option Value} {base : Heap}
theorem ok_isgrid {f : Addr} {fd : FuncData} (F : Fun K "_law_is_grid" "_law_is_grid" s_isgrid f fd) (m_isinstance : mg "isinstance" = none) (m_tuple : mg "tuple" = none) (m_int : mg "int" = none) (m_bool : mg "bool" = none) (m_len : mg "len" = none) (m_range : mg "range" = none) : FnOk P w K mg base CX0 1 f fd ["value_so"] spIsgrid := by
  have sc := sc_isgrid
  refine F.ok sc (fun vs H Q E h => ?_) (fun cdv A outer s H vs Q E hr h => ?_)
  · obtain ⟨g, B, s, rfl, _⟩ := h
    rfl
  · obtain ⟨g, B, st, rfl, ⟨tb, ts, ps, h1, h2, hR, h4, h5⟩, l9, wr, q⟩ := h
    refine ⟨_, (pss_cons (ps_if (PW.pt (pw_or (pt_not (pt_val (pe_callB call_isi (by rfl) m_isinstance (by decide +kernel) (pa_cons (pv 0) (pa_cons (pe_bltn (v := .ty "tuple") (by rfl) m_tuple (by decide +kernel) rfl) pa_nil))))) (pw_or1 (pt_cmpR op_ne (pe_callB call_len_seq (by rfl) m_len (by decide +kernel) (pa_cons (pv 0) pa_nil)) pe_int (nomark _)))))
      (pss_one (ps_ret pe_bl))
      pss_nil)
    (pss_cons (ps_asg (pv 0) (pg_tup (n := 2) (by rfl) (pgs_cons (pg_name (i := 2) sc.nd rfl (Or.inl rfl)) (pgs_cons (pg_name (i := 3) sc.nd rfl (Or.inl rfl)) pgs_nil))))
    (pss_cons (ps_if (PW.pt (pw_or (pt_not (pt_val (pe_callB call_isi (by rfl) m_isinstance (by decide +kernel) (pa_cons (pv 2) (pa_cons (pe_bltn (v := .ty "tuple") (by rfl) m_tuple (by decide +kernel) rfl) pa_nil))))) (pw_or (pt_not (pt_val (pe_callB call_isi (by rfl) m_isinstance (by decide +kernel) (pa_cons (pv 3) (pa_cons (pe_bltn (v := .ty "tuple") (by rfl) m_tuple (by decide +kernel) rfl) pa_nil))))) (pw_or (pt_cmpR op_ne (pe_callB call_len_seq (by rfl) m_len (by decide +kernel) (pa_cons (pv 2) pa_nil)) (pe_callB call_len_seq (by rfl) m_len (by decide +kernel) (pa_cons (pv 3) pa_nil)) (nomark _)) (pw_or1 (pt_cmpR op_gt (pe_callB call_len_seq (by rfl) m_len (by decide +kernel) (pa_cons (pv 3) pa_nil)) pe_int (nomark _)))))))
      (pss_one (ps_ret pe_bl))
      pss_nil)
    (pss_cons (ps_for PassesOwn.never rfl (pi_range1 rfl m_range (pa_cons (pe_callB call_len_seq (by rfl) m_len (by decide +kernel) (pa_cons (pv 3) pa_nil)) pa_nil)) (pg_name (i := 1) sc.nd rfl (Or.inr rfl))
      (pss_cons (ps_set (i := 4) sc.nd rfl (Or.inr rfl) (pe_ix ix_tup (pv 2) (pv 1) (fun _ _ => rfl)))
    (pss_cons (ps_if (PW.pt (pw_or (pt_not (pt_val (pe_callB call_isi (by rfl) m_isinstance (by decide +kernel) (pa_cons (pv 4) (pa_cons (pe_bltn (v := .ty "tuple") (by rfl) m_tuple (by decide +kernel) rfl) pa_nil))))) (pw_or1 (pt_cmpR op_ne (pe_callB call_len_seq (by rfl) m_len (by decide +kernel) (pa_cons (pv 4) pa_nil)) (pe_callB call_len_seq (by rfl) m_len (by decide +kernel) (pa_cons (pv 3) pa_nil)) (nomark _)))))
      (pss_one (ps_ret pe_bl))
      pss_nil)
    (pss_cons (ps_for PassesOwn.never rfl (pi_tup (pe_op op_catA (pv 4) (pe_tup (pa_cons (pe_ix ix_tup (pv 3) (pv 1) (fun _ _ => rfl)) pa_nil)))) (pg_name (i := 5) sc.nd rfl (Or.inl rfl))
      (pss_one (ps_if (PW.pt (pw_or (pt_not (pt_val (pe_callB call_isi (by rfl) m_isinstance (by decide +kernel) (pa_cons (pv 5) (pa_cons (pe_bltn (v := .ty "int") (by rfl) m_int (by decide +kernel) rfl) pa_nil))))) (pw_or1 (pt_val (pe_callB call_isi (by rfl) m_isinstance (by decide +kernel) (pa_cons (pv 5) (pa_cons (pe_bltn (v := .ty "bool") (by rfl) m_bool (by decide +kernel) rfl) pa_nil)))))))
      (pss_one (ps_ret pe_bl))
      pss_nil)))
    (pss_cons (ps_if (PW.pt (pw_or (pt_cmpR op_lt (pe_ix ix_tup (pv 4) (pv 1) (fun _ _ => rfl)) pe_int (nomark _)) (pw_or1 (pt_not (pt_chain op_le op_lt pe_int (pe_ix ix_tup (pv 3) (pv 1) (fun _ _ => rfl)) (pe_ix ix_tup (pv 4) (pv 1) (fun _ _ => rfl)))))))
      (pss_one (ps_ret pe_bl))
      pss_nil)
    (pss_one (ps_if (pt_cmpR (op_neD hr.units) (pe_lc (own := [("j", 6)]) (g := gName 6) (by rfl) sc.nd (pi_range1 rfl m_range (pa_cons (pe_callB call_len_seq (by rfl) m_len (by decide +kernel) (pa_cons (pv 3) pa_nil)) pa_nil)) (blkOk_by (own := [("j", 6)]) (N := ["value_so", "i", "table", "s", "row", "x", "j"]) (sc := defScope s_isgrid) (by decide +kernel)) (fun _ _ _ _ _ => pg_name (i := 6) sc.nd rfl (Or.inl rfl)) (fun _ _ _ _ _ => (pts_one (PW.pt (pw_or (PW.pt (pw_and (pt_cmpR op_gt (pv 6) (pv 1) (nomark _)) (pw_and1 (pt_cmpR op_ne (pe_ix (ix_tupK (K := K) rfl) (pv 4) (pv 6) (fun _ _ => rfl)) pe_int (nomark _))))) (pw_or1 (PW.pt (pw_and (pt_cmpR op_lt (pv 6) (pv 1) (nomark _)) (pw_and1 (pt_not (pt_chain op_le op_lt pe_int (pe_ix (ix_tupK (K := K) rfl) (pv 4) (pv 6) (fun _ _ => rfl)) (pe_ix (ix_tupK (K := K) rfl) (pv 4) (pv 1) (fun _ _ => rfl)))))))))))) (fun _ _ _ _ _ => (pv 6))) (pe_lst pa_nil) (nomark _))
      (pss_one (ps_ret pe_bl))
      pss_nil)))))))
    (pss_one (ps_ret pe_bl)))))), ?_⟩
    have og : Oky H (.ref g) "tuple" := .tup h1
    have ob : Oky H (.ref tb) "tuple" := .tup h2
    have os : Oky H (.ref ts) "tuple" := .tup h4.1
    have lp : (ps.map V.ref).length = B.length := by rw [List.length_map, hR.1]
    have ls : (st.map V.int).length = B.length := by rw [List.length_map, h5]
    refine ⟨.ref g, rfl, .ref g, .ty "tuple", _, _, _, rfl, .ty _, og.ty, kit_ty og.kTup, _, rfl, iteF ⟨.ref g, rfl, g, _, rfl, .inr h1.t, rfl, _, rfl, iteF' (by rfl) ?_⟩⟩
    refine ⟨.ref g, rfl, g, _, rfl, h1.t, rfl, .ref tb, [.ref ts], rfl, .ref ts, [], rfl, rfl, ?_⟩
    refine ⟨.ref tb, rfl, .ref tb, .ty "tuple", _, _, _, rfl, .ty _, ob.ty, kit_ty ob.kTup, _, rfl, iteF ⟨.ref ts, rfl, .ref ts, .ty "tuple", _, _, _, rfl, .ty _, os.ty, kit_ty os.kTup, _, rfl, iteF ?_⟩⟩
    refine ⟨.ref tb, rfl, tb, _, rfl, .inr h2.t, .ref ts, rfl, ts, _, rfl, .inr h4.1.t, rfl, _, rfl, iteF' (by rw [lp, ls, decide_eq_true rfl]; rfl) ?_⟩
    refine ⟨.ref ts, rfl, ts, _, rfl, .inr h4.1.t, _, _, rfl, rfl, _, rfl, iteF' (by rw [ls]; exact decide_eq_false (by omega)) ?_⟩
    refine ⟨.ref ts, rfl, ts, _, rfl, .inr h4.1.t, ((st.map V.int).length : Int), rfl, by omega, by omega, ?_⟩
    rw [Int.toNat_natCast, ls]
    refine for_range (lo := 0) (n := B.length) (fun i σ H' => (∃ y1 y4 y5 y6, σ = [some (.ref g), y1, some (.ref tb), some (.ref ts), y4, y5, y6]) ∧ Same H H') ⟨⟨none, none, none, none, rfl⟩, Same.refl _⟩ ?_ ?_
    · rintro i σ H1 hi ⟨⟨y1, y4, y5, y6, rfl⟩, s1⟩
      have ei : (0 + (i : Int)) = ((i : Nat) : Int) := by omega
      obtain ⟨p, hp, Rp0, lr, hdi⟩ := row_at hR hi
      have Rp := Rp0.same s1
      have T1 := h2.same s1
      have S1 := h4.same s1
      have gS := getD_at (xs := st) (i := i) (by omega)
      have op : Oky H1 (.ref p) "tuple" := .tup Rp.1
      have lx : ((B.getD i []).map V.int).length = B.length := by rw [List.length_map, lr]
      have pos := wr.p i hi
      obtain ⟨z0, z1⟩ := wr.s0 i hi
      refine ⟨.ref tb, rfl, .int (0 + i), rfl, tb, _, 0 + i, .ref p, rfl, rfl, T1.t, atI_at ei (get_map hp), ?_⟩
      refine ⟨.ref p, rfl, .ref p, .ty "tuple", _, _, _, rfl, .ty _, op.ty, kit_ty op.kTup, _, rfl, iteF ⟨.ref p, rfl, p, _, rfl, .inr Rp.1.t, .ref ts, rfl, ts, _, rfl, .inr S1.1.t, rfl, _, rfl, iteF' (by rw [lx, ls, decide_eq_true rfl]; rfl) ?_⟩⟩
      refine ⟨.ref p, rfl, .ref ts, rfl, .int (0 + i), rfl, ts, _, 0 + i, .int (st.getD i 0), rfl, rfl, S1.1.t, atI_at ei (get_map gS), by show 1 ≤ sizeLine; decide, fun t1 n1 => ?_⟩
      have s2 : Same H1 (upd H1 t1 (.tup [.int (st.getD i 0)])) := same_new n1
      have g2 : Tp (upd H1 t1 (.tup [.int (st.getD i 0)])) t1 ([st.getD i 0].map V.int) := upd_same
      generalize upd H1 t1 (.tup [.int (st.getD i 0)]) = H2 at s2 g2 ⊢
      refine cat_tp (Rp.same s2).1 g2 (by rw [lx]; exact Nat.le_of_lt (small (by show B.length + 1 ≤ 100; omega))) fun r3 H3 s3 g3 => ?_
      rw [← List.map_append] at g3
      refine ⟨r3, rfl, ⟨_, g3.t⟩, ?_⟩
      have s13 := s2.trans s3
      refine for_it (walk_tup (K := K) (a := r3) (xs := (B.getD i [] ++ [st.getD i 0]).map V.int)) (fun k σ H' => (∃ y5 y6, σ = [some (.ref g), some (.int (0 + i)), some (.ref tb), some (.ref ts), some (.ref p), y5, y6]) ∧ Same H3 H') ⟨⟨_, _, rfl⟩, Same.refl _⟩ (fun k σ H' _ p => (g3.same p.2).t) ?_ ?_
      · rintro k x σ H4 H4' hk ⟨⟨y5, y6, rfl⟩, s4⟩ ⟨rfl, hx⟩
        obtain ⟨v, hv, rfl⟩ := map_get hx
        have oi : Oky H4' (.int v) "int" := .int v
        exact ⟨.int v, rfl, .int v, .ty "int", _, _, _, rfl, .ty _, oi.ty, kit_ty oi.kInt, _, rfl, iteF ⟨.int v, rfl, .int v, .ty "bool", _, _, _, rfl, .ty _, oi.ty, kit_ty oi.kBool, _, rfl, iteF ⟨⟨_, _, rfl⟩, s4⟩⟩⟩
      rintro σ H4 ⟨⟨y5, y6, rfl⟩, s4⟩
      have s14 := s13.trans s4
      have Rp4 := Rp.same s14
      have S4 := S1.same s14
      have gii := get_map (f := V.int) hdi
      refine ⟨.ref p, rfl, .int (0 + i), rfl, p, _, 0 + i, .int (dg B i), rfl, rfl, Rp4.1.t, atI_at ei gii, _, _, rfl, rfl, _, rfl, iteF' (decide_eq_false (by omega)) ?_⟩
      refine ⟨.ref ts, rfl, .int (0 + i), rfl, ts, _, 0 + i, .int (st.getD i 0), rfl, rfl, S4.1.t, atI_at ei (get_map gS), _, _, rfl, rfl, _, rfl, iteT' (decide_eq_true z0) ⟨.ref p, rfl, .int (0 + i), rfl, p, _, 0 + i, .int (dg B i), rfl, rfl, Rp4.1.t, atI_at ei gii, _, _, rfl, rfl, _, rfl, ?_⟩⟩
      rw [decide_eq_true z1]
      refine iteF ?_
      refine ⟨.ref ts, rfl, ts, _, rfl, .inr S4.1.t, ((st.map V.int).length : Int), rfl, by omega, by omega, fun D nD => ?_⟩
      rw [Int.toNat_natCast, ls]
      refine lc_fl (walk_range (lo := 0) (n := B.length)) (fun _ => false) (fun _ => .non) (small (by omega)) nD (fun _ _ => True.intro) ?_ ?_
      · rintro j x H5 H5' Qy Nx hj s5 ⟨rfl, rfl⟩ _ hn
        have ej : (0 + (j : Int)) = ((j : Nat) : Int) := by omega
        have gj := get_map (f := V.int) (getD_at (xs := B.getD i []) (i := j) (by omega))
        have Rp5 := Rp4.same s5
        refine ⟨rfl, .int (0 + j), rfl, .int (0 + i), rfl, 0 + j, 0 + i, rfl, rfl, _, rfl, ite2 (fun a1 => ?_) (fun a1 => ?_)⟩
        · have a1 := of_decide_eq_true a1
          have zj : (B.getD i []).getD j 0 = 0 := wr.up i j (by omega) hj
          rw [zj] at gj
          refine ⟨.ref p, rfl, .int (0 + j), rfl, p, _, 0 + j, .int 0, rfl, rfl, Rp5.1.t, atI_at ej gj, rfl, _, rfl, iteF' (by rfl) ?_⟩
          exact ⟨.int (0 + j), rfl, .int (0 + i), rfl, 0 + j, 0 + i, rfl, rfl, _, rfl, iteF' (decide_eq_false (by omega)) (hn rfl _ (Same.refl _))⟩
        · have a1 : ¬ (0 + (i : Int) < 0 + j) := fun z => a1 (decide_eq_true z)
          refine ⟨.int (0 + j), rfl, .int (0 + i), rfl, 0 + j, 0 + i, rfl, rfl, _, rfl, ite2 (fun a2 => ?_) (fun a2 => hn rfl _ (Same.refl _))⟩
          have a2 := of_decide_eq_true a2
          obtain ⟨w0, w1⟩ := wr.lo i j hi (by omega)
          refine ⟨.ref p, rfl, .int (0 + j), rfl, p, _, 0 + j, .int (mt B i j), rfl, rfl, Rp5.1.t, atI_at ej gj, _, _, rfl, rfl, _, rfl, iteT' (decide_eq_true w0) ⟨.ref p, rfl, .int (0 + i), rfl, p, _, 0 + i, .int (dg B i), rfl, rfl, Rp5.1.t, atI_at ei gii, _, _, rfl, rfl, _, rfl, ?_⟩⟩
          rw [decide_eq_true w1]
          exact iteF (hn rfl _ (Same.refl _))
      · intro H5 s5 g5
        have e5 : ((List.range B.length).filter fun _ => false).map (fun _ => V.non) = [] := by simp
        rw [e5] at g5
        refine ⟨by show 0 ≤ sizeLine; decide, fun Z nZ => ?_⟩
        have s6 : Same H5 (upd H5 Z (.lst [])) := same_new nZ
        have g6 : upd H5 Z (.lst []) Z = some (.lst []) := upd_same
        have g5 := s6 _ _ g5
        generalize upd H5 Z (.lst []) = H6 at s6 g6 g5 ⊢
        exact ⟨.list [], .list [], .lst (SqL.of g5) .nil, .lst (SqL.of g6) .nil, by decide, by decide, _, rfl, iteF' (by rfl) ⟨⟨_, _, _, _, rfl⟩, s1.trans (s14.trans (s5.trans s6))⟩⟩
    · rintro σ H1 ⟨⟨y1, y4, y5, y6, rfl⟩, s1⟩
      exact q H1 s1
end
end K13
namespace K13
open PySem PySem.Spec PyProof.Rows L2 Vk
def at_ (y : List Int) : Vc := fun j => y.getD j 0
theorem S_head (f : Nat → Int) : ∀ n, S (n + 1) f = f 0 + S n fun j => f (j + 1)
  | 0 => by
    show 0 + f 0 = f 0 + 0
    omega
  | n + 1 => by
    show S (n + 1) f + f (n + 1) = f 0 + (S n (fun j => f (j + 1)) + f (n + 1))
    rw [S_head f n]
    omega
theorem dot_S : ∀ (xs ys : List Int) (n : Nat), min xs.length ys.length ≤ n → dot xs ys = S n fun j => xs.getD j 0 * ys.getD j 0
  | [], ys, n, _ => by
    have e : (fun j => ([] : List Int).getD j 0 * ys.getD j 0) = fun _ => 0 := funext fun j => by
      show (0 : Int) * _ = 0
      rw [Int.zero_mul]
    rw [e, S_zero]
    rfl
  | x :: xs, [], n, _ => by
    have e : (fun j => (x :: xs).getD j 0 * ([] : List Int).getD j 0) = fun _ => 0 := funext fun j => by
      show _ * (0 : Int) = 0
      rw [Int.mul_zero]
    rw [e, S_zero]
    rfl
  | x :: xs, y :: ys, n, h => by
    obtain ⟨k, rfl⟩ : ∃ k, n = k + 1 := ⟨n - 1, by simp only [List.length_cons] at h; omega⟩
    rw [S_head]
    have e : dot (x :: xs) (y :: ys) = x * y + dot xs ys := by
      unfold dot
      rw [List.zipWith_cons_cons, List.sum_cons]
    rw [e, dot_S xs ys k (by simp only [List.length_cons] at h; omega)]
    rfl
/-- a place is told just where there is one -/
theorem unw_some {B : List (List Int)} {v : List Int} (t : Tri B.length (mt B)) : ∀ i y, i ≤ B.length → unwI B v i = some y → ∀ r, r < i → mv B.length (mt B) (at_ y) r = v.getD r 0
  | 0, y, _, _, r, hr => by omega
  | i + 1, y, hi, h, r, hr => by
    have h : (unwI B v i).bind _ = some y := h
    cases e : unwI B v i with
    | none => rw [e] at h; cases h
    | some z =>
      rw [e] at h
      have lz := unwI_len i z e
      have h : (if (v.getD i 0 - dot (B.getD i []) z).fmod (dg B i) = 0 then some (z ++ [(v.getD i 0 - dot (B.getD i []) z).fdiv (dg B i)]) else none) = some y := h
      split at h
      · rename_i hm
        obtain rfl := Option.some.inj h
        have lo : ∀ j, j < i → at_ (z ++ [(v.getD i 0 - dot (B.getD i []) z).fdiv (dg B i)]) j = at_ z j := fun j hj => by
          unfold at_
          rw [List.getD_eq_getElem?_getD, List.getElem?_append_left (by omega), ← List.getD_eq_getElem?_getD]
        have hiB : r < B.length := by omega
        rw [mv_cut t _ hiB]
        by_cases hri : r = i
        · subst hri
          have top : at_ (z ++ [(v.getD r 0 - dot (B.getD r []) z).fdiv (dg B r)]) r = (v.getD r 0 - dot (B.getD r []) z).fdiv (dg B r) := by
            unfold at_
            rw [List.getD_eq_getElem?_getD, List.getElem?_append_right (by omega), lz, Nat.sub_self]
            rfl
          rw [top, S_congr r fun j hj => by rw [lo j hj]]
          have d := dot_S (B.getD r []) z r (by omega)
          have d' : dot (B.getD r []) z = S r fun j => mt B r j * at_ z j := d
          have q := Int.mul_fdiv_add_fmod (v.getD r 0 - dot (B.getD r []) z) (dg B r)
          rw [hm] at q
          have dd : mt B r r = dg B r := rfl
          rw [← d', dd]
          omega
        · have ih := unw_some t i z (by omega) e r (by omega)
          rw [mv_cut t _ hiB] at ih
          rw [S_congr r fun j hj => by rw [lo j (by omega)], lo r (by omega)]
          exact ih
      · cases h
theorem some_unw {B : List (List Int)} {v : List Int} {y : Vc} (t : Tri B.length (mt B)) (h : ∀ r, r < B.length → mv B.length (mt B) y r = v.getD r 0) : ∀ i, i ≤ B.length → unwI B v i = some ((List.range i).map y)
  | 0, _ => rfl
  | i + 1, hi => by
    show (unwI B v i).bind _ = _
    rw [some_unw t h i (by omega)]
    have hr := h i (by omega)
    rw [mv_cut t y (by omega)] at hr
    have d := dot_S (B.getD i []) ((List.range i).map y) i (by rw [List.length_map, List.length_range]; omega)
    have e : (S i fun j => (B.getD i []).getD j 0 * ((List.range i).map y).getD j 0) = S i fun j => mt B i j * y j := S_congr i fun j hj => by
      have : ((List.range i).map y).getD j 0 = y j := by
        rw [List.getD_eq_getElem?_getD, List.getElem?_map, List.getElem?_range hj]
        rfl
      rw [this]
      rfl
    rw [e] at d
    have p := t.pos i (by omega)
    have dd : mt B i i = dg B i := rfl
    rw [dd] at hr p
    have lf : v.getD i 0 - dot (B.getD i []) ((List.range i).map y) = dg B i * y i := by
      rw [d]
      omega
    show (if (v.getD i 0 - dot (B.getD i []) ((List.range i).map y)).fmod (dg B i) = 0 then some ((List.range i).map y ++ [(v.getD i 0 - dot (B.getD i []) ((List.range i).map y)).fdiv (dg B i)]) else none) = _
    rw [lf, Int.mul_fmod_right, if_pos rfl, Int.mul_fdiv_cancel_left _ (by omega), List.range_succ, List.map_append]
    rfl
theorem unw_iff {B : List (List Int)} {v : List Int} (t : Tri B.length (mt B)) : (∃ y : Vc, ∀ r, r < B.length → mv B.length (mt B) y r = v.getD r 0) ↔ (unwI B v B.length).isSome = true := by
  constructor
  · rintro ⟨y, h⟩
    rw [some_unw t h _ (Nat.le_refl _)]
    rfl
  · intro h
    cases e : unwI B v B.length with
    | none => rw [e] at h; cases h
    | some y => exact ⟨at_ y, unw_some t _ y (Nat.le_refl _) e⟩
/-- two places, one place of the sum -/
theorem unw_add {B : List (List Int)} {u v w : List Int} {y z : List Int} (t : Tri B.length (mt B)) (hu : unwI B u B.length = some y) (hv : unwI B v B.length = some z) (hw : ∀ r, r < B.length → w.getD r 0 = u.getD r 0 + v.getD r 0) : unwI B w B.length = some ((List.range B.length).map fun j => y.getD j 0 + z.getD j 0) := by
  have h1 := unw_some t _ y (Nat.le_refl _) hu
  have h2 := unw_some t _ z (Nat.le_refl _) hv
  refine some_unw (y := fun j => at_ y j + at_ z j) t (fun r hr => ?_) _ (Nat.le_refl _)
  rw [mv_add, h1 r hr, h2 r hr, hw r hr]
theorem unw_sub {B : List (List Int)} {u v w : List Int} {y z : List Int} (t : Tri B.length (mt B)) (hu : unwI B u B.length = some y) (hw : unwI B w B.length = some z) (h : ∀ r, r < B.length → w.getD r 0 = u.getD r 0 + v.getD r 0) : unwI B v B.length = some ((List.range B.length).map fun j => z.getD j 0 - y.getD j 0) := by
  have h1 := unw_some t _ y (Nat.le_refl _) hu
  have h2 := unw_some t _ z (Nat.le_refl _) hw
  refine some_unw (y := fun j => at_ z j - at_ y j) t (fun r hr => ?_) _ (Nat.le_refl _)
  rw [mv_sub, h1 r hr, h2 r hr, h r hr]
  omega
end K13
namespace K13
open PySem PySem.Spec PyProof.Rows L2 Vk
abbrev s_mright : Stmt := topS 34
theorem sc_mright : FnScope ["m", "grid_so", "inner_so", "start", "lines", "column", "table", "told", "size_so", "far", "i", "j"] ["m", "grid_so", "inner_so"] (defScope s_mright) := ⟨rfl, rfl, rfl, by decide +kernel, rfl, by decide +kernel, by decide +kernel⟩
/-- what place_map tells -/
def OpM (H : Hp) (x : V) (B : List (List Int)) (u : Option (List Int)) (os : List (Option (List Int))) : Prop := ((u = none ∨ none ∈ os) ∧ x = .non) ∨ ∃ (y : List Int) (cs : List (List Int)) (r tt ty : Addr) (qs : List Addr), u = some y ∧ os = cs.map some ∧ x = .ref r ∧ Tp H r [.ref tt, .ref ty] ∧ Tp H tt (qs.map V.ref) ∧ Rws H qs (colsI cs B.length) cs.length ∧ Row H ty y
theorem OpM.same {H H' : Hp} {x : V} {B : List (List Int)} {u : Option (List Int)} {os : List (Option (List Int))} (h : OpM H x B u os) (s : Same H H') : OpM H' x B u os := by
  rcases h with h | ⟨y, cs, r, tt, ty, qs, h1, h2, h3, h4, h5, h6, h7⟩
  · exact .inl h
  · exact .inr ⟨y, cs, r, tt, ty, qs, h1, h2, h3, h4.same s, h5.same s, h6.same s, h7.same s⟩
theorem cols_sm {B' : List (List Int)} {n : Nat} (h : ∀ r ∈ B', ∀ x ∈ r, SmZ 20 x) (hw : ∀ r ∈ B', r.length = n) : ∀ c ∈ colsI B' n, c.length = B'.length ∧ ∀ x ∈ c, SmZ 20 x := fun c hc => by
  obtain ⟨j, hj⟩ := List.getElem?_of_mem hc
  have hjl := (List.getElem?_eq_some_iff.mp hj).1
  have hjn : j < n := by
    unfold colsI at hjl
    rw [List.length_map, List.length_range] at hjl
    exact hjl
  obtain rfl := colsI_get hj
  refine ⟨List.length_map .., fun x hx => ?_⟩
  obtain ⟨r, hr, rfl⟩ := List.mem_map.mp hx
  exact h r hr _ (List.mem_of_getElem? (Vk.getD_at (xs := r) (i := j) (by rw [hw r hr]; exact hjn)))
theorem pmap_call {H : Hp} {Q : VK} {E : XK} {g h : Addr} {B B' : List (List Int)} {s s' : List Int} (hG : Gr H g B s) (hI : Gr H h B' s') (lB : B'.length = B.length) (hs : Gs B s) (hs' : Gs B' s')
    (k : ∀ x H1, Same H H1 → OpM H1 x B (unwI B (subL s' s) B.length) (colPl B B') → Q x H1) : spPmap [.ref g, .ref h] H Q E := by
  refine ⟨g, h, B, s, B', s', rfl, hG, hI, lB, hs.n, hs.p, fun v hv => hs.place ?_, fun e H' s' => k .non H' s' (.inl ⟨e, rfl⟩), fun y cs h1 h2 r tt ty qs H' s' g1 g2 g3 g4 => k (.ref r) H' s' (.inr ⟨y, cs, r, tt, ty, qs, h1, h2, rfl, g1, g2, g3, g4⟩)⟩
  rcases hv with rfl | hv
  · exact fun x hx => smz_mono (sub_sm hs'.q hs.q x hx) (by decide)
  · exact fun x hx => smz_mono ((cols_sm hs'.b (fun r hr => by rw [hs'.w r hr, lB]) v hv).2 x hx) (by decide)
theorem addL_get {s c : List Int} {r : Nat} (h1 : r < s.length) (h2 : r < c.length) : (addL s c).getD r 0 = s.getD r 0 + c.getD r 0 := by
  unfold addL
  rw [List.getD_eq_getElem?_getD, List.getElem?_zipWith, Vk.getD_at h1, Vk.getD_at h2]
  rfl
/-- what is within, by the places -/
theorem within_iff {B B' : List (List Int)} {s s' : List Int} (t : Tri B.length (mt B)) (lB : B'.length = B.length) (hs : Gs B s) (hs' : Gs B' s') :
    ((tsI B' s').all fun t => isIn B s t) = true ↔ (∃ y, unwI B (subL s' s) B.length = some y) ∧ ∀ c ∈ colsI B' B.length, ∃ z, unwI B c B.length = some z := by
  have hc := cols_sm (n := B.length) hs'.b (fun r hr => by rw [hs'.w r hr, lB])
  have ad : ∀ c ∈ colsI B' B.length, ∀ r, r < B.length → (subL (addL s' c) s).getD r 0 = (subL s' s).getD r 0 + c.getD r 0 := fun c h r hr => by
    have lc := (hc c h).1
    have l1 := hs.l
    have l2 := hs'.l
    have la : (addL s' c).length = B'.length := by
      unfold addL
      rw [List.length_zipWith, lc, l2, Nat.min_self]
    rw [subL_get (by omega) (by omega), subL_get (by omega) (by omega), addL_get (by omega) (by omega)]
    omega
  have pl : ∀ u : List Int, u.length = B.length → placeI B s u B.length = unwI B (subL u s) B.length := fun u hu => place_unw _ (by omega) (by rw [hs.l]; exact Nat.le_refl _)
  unfold tsI
  rw [List.all_cons, Bool.and_eq_true, List.all_map, List.all_eq_true, lB]
  unfold isIn
  constructor
  · rintro ⟨h1, h2⟩
    rw [pl s' (by rw [hs'.l, lB])] at h1
    obtain ⟨y, hy⟩ := Option.isSome_iff_exists.mp h1
    refine ⟨⟨y, hy⟩, fun c hcm => ?_⟩
    have h3 := h2 c hcm
    have h3 : (placeI B s (addL s' c) B.length).isSome = true := h3
    have la : (addL s' c).length = B.length := by
      unfold addL
      rw [List.length_zipWith, (hc c hcm).1, hs'.l, Nat.min_self, lB]
    rw [pl _ la] at h3
    obtain ⟨z, hz⟩ := Option.isSome_iff_exists.mp h3
    exact ⟨_, unw_sub t hy hz (ad c hcm)⟩
  · rintro ⟨⟨y, hy⟩, h2⟩
    refine ⟨by rw [pl s' (by rw [hs'.l, lB]), hy]; rfl, fun c hcm => ?_⟩
    obtain ⟨z, hz⟩ := h2 c hcm
    have la : (addL s' c).length = B.length := by
      unfold addL
      rw [List.length_zipWith, (hc c hcm).1, hs'.l, Nat.min_self, lB]
    show (placeI B s (addL s' c) B.length).isSome = true
    rw [pl _ la, unw_add t hy hz (ad c hcm)]
    rfl
def spMright : Sp := fun vs H Q _ => ∃ (g h : Addr) (x : V) (B : List (List Int)) (s : List Int) (B' : List (List Int)) (s' : List Int), vs = [x, .ref g, .ref h] ∧ Gr H g B s ∧ Gr H h B' s' ∧ B'.length = B.length ∧ Gs B s ∧ Gs B' s' ∧ Tri B.length (mt B) ∧ ∀ H', Same H H' → Q (.bl true) H'
section
variable {P : Program} {w : World} {K : PySem.W.Frag} {mg : Str → Option Value} {base : Heap}
theorem ok_mright {f : Addr} {fd : FuncData} (F : Fun K "_law_map_right" "_law_map_right" s_mright f fd) (C_place_map : Cal P w K mg base 4 "place_map" ["grid", "inner"] spPmap) (C__law_is_within : Cal P w K mg base 2 "_law_is_within" ["grid_so", "inner_so"] spWithin) (C__law_place : Cal P w K mg base 1 "_law_place" ["grid_so", "t"] spPlace) (C__law_columns : Cal P w K mg base 1 "_law_columns" ["grid_so"] spColumns) (C__law_like : CalG P w K mg base 1 "_law_like" ["got", "due"] (spLike K))
    (m_isinstance : mg "isinstance" = none) (m_tuple : mg "tuple" = none) (m_len : mg "len" = none) (m_range : mg "range" = none) : FnG P w K mg base 5 f fd ["m", "grid_so", "inner_so"] spMright := by
  have sc := sc_mright
  refine okG F sc (fun vs H Q E h => ?_) (fun cdv A outer s H vs Q E hG0 hr h => ?_)
  · obtain ⟨g, h, x, B, s, B', s', rfl, _⟩ := h
    rfl
  · obtain ⟨g, h, x0, B, st, B', st', rfl, hGr, hI, lB, hs, hs', tri, q⟩ := h
    have hG : Quiet (cxOf CX0 P w K mg base ["m", "grid_so", "inner_so", "start", "lines", "column", "table", "told", "size_so", "far", "i", "j"] "_law_map_right" (defScope s_mright) f cdv A outer s H E).nox.A := hG0.deeper _
    refine ⟨_, (pss_cons (ps_asg (pe_tup (pa_cons (call_ C_place_map (hr.mono (by decide)) (by rfl) (pa_cons (pv 1) (pa_cons (pv 2) pa_nil))) (pa_cons (pe_callB call_len_seq (by rfl) m_len (by decide +kernel) (pa_cons (pe_ix ix_tup (pv 1) pe_int (fun _ _ => rfl)) pa_nil)) pa_nil))) (pg_tup (n := 2) (by rfl) (pgs_cons (pg_name (i := 7) sc.nd rfl (Or.inl rfl)) (pgs_cons (pg_name (i := 8) sc.nd rfl (Or.inr rfl)) pgs_nil))))
    (pss_cons (ps_if (pt_not (pt_val (call_ C__law_is_within (hr.mono (by decide)) (by rfl) (pa_cons (pv 1) (pa_cons (pv 2) pa_nil)))))
      (pss_one (ps_ret (pe_cmpR op_isN (pv 7) pe_non (nomark _))))
      pss_nil)
    (pss_cons (ps_if (PW.pt (pw_or (pt_not (pt_val (pe_callB call_isi (by rfl) m_isinstance (by decide +kernel) (pa_cons (pv 7) (pa_cons (pe_bltn (v := .ty "tuple") (by rfl) m_tuple (by decide +kernel) rfl) pa_nil))))) (pw_or1 (pt_cmpR op_ne (pe_callB call_len_seq (by rfl) m_len (by decide +kernel) (pa_cons (pv 7) pa_nil)) pe_int (nomark _)))))
      (pss_one (ps_ret pe_bl))
      pss_nil)
    (pss_cons (ps_set (i := 3) sc.nd rfl (Or.inr rfl) (call_ C__law_place (hr.mono (by decide)) (by rfl) (pa_cons (pv 1) (pa_cons (pe_ix ix_tup (pv 2) pe_int (fun _ _ => rfl)) pa_nil))))
    (pss_cons (ps_set (i := 4) sc.nd rfl (Or.inr rfl) (pe_lst pa_nil))
    (pss_cons (ps_for PassesOwn.never rfl (pi_list (call_ C__law_columns (hr.mono (by decide)) (by rfl) (pa_cons (pv 2) pa_nil))) (pg_name (i := 5) sc.nd rfl (Or.inr rfl))
      (pss_cons (ps_set (i := 9) sc.nd rfl (Or.inr rfl) (call_ C__law_place (hr.mono (by decide)) (by rfl) (pa_cons (pv 1) (pa_cons (pe_callTy call_tuple_of (by rfl) m_tuple (by decide +kernel) (pa_cons (pe_lc (own := [("i", 10)]) (g := gName 10) (by rfl) sc.nd (pi_range1 rfl m_range (pa_cons (pv 8) pa_nil)) (blkOk_by (own := [("i", 10)]) (N := ["m", "grid_so", "inner_so", "start", "lines", "column", "table", "told", "size_so", "far", "i", "j"]) (sc := defScope s_mright) (by decide +kernel)) (fun _ _ _ _ _ => pg_name (i := 10) sc.nd rfl (Or.inl rfl)) (fun _ _ _ _ _ => pts_nil) (fun _ _ _ _ _ => (pe_op op_add (pe_ix (ix_tupK (K := K) rfl) (pe_ix (ix_tupK (K := K) rfl) (pv 2) pe_int (fun _ _ => rfl)) (pv 10) (fun _ _ => rfl)) (pe_ix (ix_tupK (K := K) rfl) (pv 5) (pv 10) (fun _ _ => rfl))))) pa_nil)) pa_nil))))
    (pss_one (ps_expr (pe_bm PySem.F.plainAttrs_list PySem.F.slot_list_append PySem.F.type_list_append mt_append (pv 4) (pa_cons (pe_lc (own := [("i", 10)]) (g := gName 10) (by rfl) sc.nd (pi_range1 rfl m_range (pa_cons (pv 8) pa_nil)) (blkOk_by (own := [("i", 10)]) (N := ["m", "grid_so", "inner_so", "start", "lines", "column", "table", "told", "size_so", "far", "i", "j"]) (sc := defScope s_mright) (by decide +kernel)) (fun _ _ _ _ _ => pg_name (i := 10) sc.nd rfl (Or.inl rfl)) (fun _ _ _ _ _ => pts_nil) (fun _ _ _ _ _ => (pe_op op_sub (pe_ix (ix_tupK (K := K) rfl) (pv 9) (pv 10) (fun _ _ => rfl)) (pe_ix (ix_tupK (K := K) rfl) (pv 3) (pv 10) (fun _ _ => rfl))))) pa_nil))))))
    (pss_cons (ps_set (i := 6) sc.nd rfl (Or.inl rfl) (pe_callTy call_tuple_of (by rfl) m_tuple (by decide +kernel) (pa_cons (pe_lc (own := [("i", 10)]) (g := gName 10) (by rfl) sc.nd (pi_range1 rfl m_range (pa_cons (pv 8) pa_nil)) (blkOk_by (own := [("i", 10)]) (N := ["m", "grid_so", "inner_so", "start", "lines", "column", "table", "told", "size_so", "far", "i", "j"]) (sc := defScope s_mright) (by decide +kernel)) (fun _ _ _ _ _ => pg_name (i := 10) sc.nd rfl (Or.inr rfl)) (fun _ _ _ _ _ => pts_nil) (fun _ _ _ _ _ => (pe_callTy (call_tuple_ofK (K := K) rfl) (by rfl) m_tuple (by decide +kernel) (pa_cons (pe_lc (own := [("j", 11)]) (g := gName 11) (by rfl) sc.nd (pi_range1 rfl m_range (pa_cons (pv 8) pa_nil)) (blkOk_by (own := [("j", 11)]) (N := ["m", "grid_so", "inner_so", "start", "lines", "column", "table", "told", "size_so", "far", "i", "j"]) (sc := { kind := .function, names := [(".0", .local), ("i", .cell), ("tuple", .globalImplicit), ("range", .globalImplicit), ("lines", .cell), ("size_so", .cell)], isGenerator := false, isCoroutine := false }) (by decide +kernel)) (fun _ _ _ _ _ => pg_name (i := 11) sc.nd rfl (Or.inl rfl)) (fun _ _ _ _ _ => pts_nil) (fun _ _ _ _ _ => (pe_ix (ix_listK (K := K) rfl) (pe_ix (ix_listK (K := K) rfl) (pv 4) (pv 11) (fun _ _ => rfl)) (pv 10) (fun _ _ => rfl)))) pa_nil)))) pa_nil)))
    (pss_one (ps_ret (callG hG C__law_like (hr.mono (by decide)) (by rfl) (pa_cons (pv 7) (pa_cons (pe_tup (pa_cons (pv 6) (pa_cons (pv 3) pa_nil))) pa_nil)))))))))))), ?_⟩
    have hG1 := hGr
    have hI1 := hI
    obtain ⟨tb, ts, ps, h1, h2, hR, h4, h5⟩ := hGr
    obtain ⟨tb', ts', ps', k1, k2, kR, k4, k5⟩ := hI
    have n9 := hs.n
    have hw := within_iff tri lB hs hs'
    refine ⟨.ref g, rfl, .ref h, rfl, ?_⟩
    unfold tNil
    refine pmap_call hG1 hI1 lB hs hs' fun x H1 s1 hx => ?_
    refine ⟨.ref g, rfl, g, _, 1, .ref ts, rfl, rfl, (h1.same s1).t, atI_nat (j := 1) rfl, ts, _, rfl, .inr (h4.1.same s1).t, ?_⟩
    rw [List.length_map, h5]
    refine ⟨by show 2 ≤ sizeLine; decide, fun p0 np0 => ⟨p0, [x, .int B.length], rfl, SqT.of upd_same, rfl, x, [.int B.length], rfl, .int B.length, [], rfl, rfl, ?_⟩⟩
    have s2 : Same H1 (upd H1 p0 (.tup [x, .int B.length])) := same_new np0
    generalize upd H1 p0 (.tup [x, .int B.length]) = H2 at s2 ⊢
    have s12 := s1.trans s2
    have hx := hx.same s2
    refine ⟨.ref g, rfl, .ref h, rfl, g, h, B, st, B', st', rfl, hG1.same s12, hI1.same s12, lB, hs, hs', fun H3 s3 => ⟨_, rfl, ?_⟩⟩
    have s13 := s12.trans s3
    have hx := hx.same s3
    have memC : ∀ o, o ∈ colPl B B' ↔ ∃ c ∈ colsI B' B.length, unwI B c B.length = o := fun o => by
      unfold colPl
      rw [List.mem_map]
    cases hb : ((tsI B' st').all fun t => isIn B st t) with
    | false =>
      refine iteT ?_
      rcases hx with ⟨_, rfl⟩ | ⟨y, cs, r, tt, ty, qs, e1, e2, rfl, _⟩
      · exact ⟨.non, rfl, rfl, q _ s13⟩
      · have : ((tsI B' st').all fun t => isIn B st t) = true := hw.mpr ⟨⟨y, e1⟩, fun c hc => by
          have hm : unwI B c B.length ∈ colPl B B' := (memC _).mpr ⟨c, hc, rfl⟩
          rw [e2] at hm
          obtain ⟨z, _, hz⟩ := List.mem_map.mp hm
          exact ⟨z, hz.symm⟩⟩
        rw [hb] at this
        cases this
    | true =>
      refine iteF ?_
      obtain ⟨⟨y0, hy0⟩, hall⟩ := hw.mp hb
      rcases hx with ⟨hbad, _⟩ | ⟨y, cs, r, tt, ty, qs, e1, e2, rfl, g1, g2, g3, g4⟩
      · rcases hbad with hbad | hbad
        · rw [hy0] at hbad
          cases hbad
        · obtain ⟨c, hc, e⟩ := (memC _).mp hbad
          obtain ⟨z, hz⟩ := hall c hc
          rw [hz] at e
          cases e
      have or_ : Oky H3 (.ref r) "tuple" := .tup g1
      refine ⟨.ref r, rfl, .ref r, .ty "tuple", _, _, _, rfl, .ty _, or_.ty, kit_ty or_.kTup, _, rfl, iteF ⟨.ref r, rfl, r, _, rfl, .inr g1.t, rfl, _, rfl, iteF' (by rfl) ?_⟩⟩
      have l5 : st'.length = B.length := by rw [hs'.l, lB]
      refine ⟨.ref g, rfl, .ref h, rfl, h, _, 1, .ref ts', rfl, rfl, (k1.same s13).t, atI_nat (j := 1) rfl, ?_⟩
      refine place_call (hG1.same s13) hs (k4.1.same s13) l5 (fun x hx => smz_mono (hs'.q x hx) (by decide)) fun x4 H4 s4 hx4 => ?_
      rw [place_unw B.length (by omega) (by rw [hs.l]; exact Nat.le_refl _), e1] at hx4
      obtain ⟨py, rfl, ry⟩ := hx4
      have s14 := s13.trans s4
      have g1 := g1.same s4
      have g2 := g2.same s4
      have g3 := g3.same s4
      have g4 := g4.same s4
      have ly := unwI_len _ _ e1
      refine ⟨by show 0 ≤ sizeLine; decide, fun L nL => ?_⟩
      have s5 : Same H4 (upd H4 L (.lst [])) := same_new nL
      have gL : upd H4 L (.lst []) L = some (.lst (([] : List Addr).map V.ref)) := upd_same
      have nL0 := s14.free nL
      generalize upd H4 L (.lst []) = H5 at s5 gL ⊢
      refine ⟨.ref h, rfl, h, B', st', rfl, (hI1.same s14).same s5, by omega, fun Lc cq H6 s6 nLc d6 R6 => ?_⟩
      have LcL : Lc ≠ L := Ne.symm (ne_of_none gL nLc)
      have s46 := s5.trans s6
      have s16 := s14.trans s46
      have gL6 := s6 _ _ gL
      rw [lB] at R6
      have lq : cq.length = B.length := by
        rw [R6.1]
        unfold colsI
        rw [List.length_map, List.length_range]
      have lcp : (colPl B B').length = B.length := by
        unfold colPl colsI
        rw [List.length_map, List.length_map, List.length_range]
      have lcs : cs.length = B.length := by
        rw [← lcp, e2, List.length_map]
      have csz : ∀ (j : Nat) (c z : List Int), (colsI B' B.length)[j]? = some c → cs[j]? = some z → unwI B c B.length = some z := fun j c z hc hz => by
        have h1 : (colPl B B')[j]? = some (unwI B c B.length) := by
          unfold colPl
          rw [List.getElem?_map, hc]
          rfl
        rw [e2, List.getElem?_map, hz] at h1
        exact (Option.some.inj h1).symm
      refine ⟨Lc, rfl, ⟨_, SqL.of d6⟩, ?_⟩
      refine for_it (walk_list (K := K) (a := Lc) (xs := cq.map V.ref)) (fun j σ H' => ∃ lq : List Addr, (∃ y5 y6 y9 y10 y11, σ = [some x0, some (.ref g), some (.ref h), some (.ref py), some (.ref L), y5, y6, some (.ref r), some (.int B.length), y9, y10, y11]) ∧ Same H4 H' ∧ H' L = some (.lst (lq.map V.ref)) ∧ H' Lc = some (.lst (cq.map V.ref)) ∧ Rws H' cq (colsI B' B.length) B.length ∧ lq.length = j ∧ ∀ (i : Nat) (p : Addr) (z : List Int), lq[i]? = some p → cs[i]? = some z → H' p = some (.lst (z.map V.int)) ∧ p ≠ L)
        ⟨[], ⟨_, _, _, _, _, rfl⟩, s46, gL6, d6, R6, rfl, fun i p z e => by cases e⟩ (fun j σ H' _ p => by obtain ⟨_, _, _, _, d, _⟩ := p; exact SqL.of d) ?_ ?_
      · rintro j x σ H7 H7' hj ⟨lq', ⟨y5, y6, y9, y10, y11, rfl⟩, s7, g7, d7, C7, l7, R7⟩ ⟨rfl, hx⟩
        obtain ⟨p, hp, rfl⟩ := map_get hx
        have hjn : j < B.length := by
          rw [List.length_map] at hj
          omega
        obtain ⟨c, hc⟩ : ∃ c, (colsI B' B.length)[j]? = some c := ⟨_, List.getElem?_eq_getElem (by unfold colsI; rw [List.length_map, List.length_range]; exact hjn)⟩
        obtain ⟨z, hz⟩ : ∃ z, cs[j]? = some z := ⟨_, List.getElem?_eq_getElem (by omega)⟩
        have uz := csz j c z hc hz
        have lz := unwI_len _ _ uz
        obtain ⟨lc, zc⟩ := cols_sm (n := B.length) hs'.b (fun r hr => by rw [hs'.w r hr, lB]) c (List.mem_of_getElem? hc)
        have la : (addL st' c).length = B.length := by
          unfold addL
          rw [List.length_zipWith, lc, l5, lB, Nat.min_self]
        have s17 := s14.trans s7
        obtain ⟨Rp, _⟩ := C7.2 j p c hp hc
        refine ⟨.ref g, rfl, .int B.length, rfl, (B.length : Int), rfl, by omega, by omega, fun D nD => ?_⟩
        rw [Int.toNat_natCast]
        refine lc_to (walk_range (lo := 0) (n := B.length)) ((addL st' c).map V.int) (by rw [List.length_map, la]) (small (by omega)) nD (fun H' s => True.intro) ?_ ?_
        · rintro i w v8 H8 H8' Qy hw' hi s8 ⟨rfl, rfl⟩ hq
          obtain ⟨u, hu, rfl⟩ := map_get hw'
          obtain ⟨a1, b1, ha1, hb1, rfl⟩ := zipW_get hu
          have ei : (0 + (i : Int)) = ((i : Nat) : Int) := by omega
          exact ⟨rfl, .ref h, rfl, h, _, 1, .ref ts', rfl, rfl, ((k1.same s17).same s8).t, atI_nat (j := 1) rfl, .int (0 + i), rfl, ts', _, 0 + i, .int a1, rfl, rfl, ((k4.1.same s17).same s8).t, atI_at ei (get_map ha1), .ref p, rfl, .int (0 + i), rfl, p, _, 0 + i, .int b1, rfl, rfl, (Rp.1.same s8).t, atI_at ei (get_map hb1), a1, b1, rfl, rfl, hq _ (Same.refl _)⟩
        intro H8 s8 d8
        refine ⟨D, _, rfl, .inl ⟨SqL.of d8, fun T nT => ?_⟩⟩
        have s9 : Same H8 (upd H8 T (.tup ((addL st' c).map V.int))) := same_new nT
        have g9 : Tp (upd H8 T (.tup ((addL st' c).map V.int))) T ((addL st' c).map V.int) := upd_same
        generalize upd H8 T (.tup ((addL st' c).map V.int)) = H9 at s9 g9 ⊢
        have s79 := s8.trans s9
        refine place_call ((hG1.same s17).same s79) hs g9 la (fun x hx => ?_) fun x10 H10 s10 hx10 => ?_
        · obtain ⟨i, hi⟩ := List.getElem?_of_mem hx
          obtain ⟨a1, b1, ha1, hb1, rfl⟩ := zipW_get hi
          exact smz_mono (smz_add (hs'.q _ (List.mem_of_getElem? ha1)) (zc _ (List.mem_of_getElem? hb1))) (by decide)
        have ad : ∀ r, r < B.length → (subL (addL st' c) st).getD r 0 = (subL st' st).getD r 0 + c.getD r 0 := fun r hr => by
          have l1 := hs.l
          rw [subL_get (by omega) (by omega), subL_get (by omega) (by omega), addL_get (by omega) (by omega)]
          omega
        rw [place_unw B.length (by omega) (by rw [hs.l]; exact Nat.le_refl _), unw_add tri e1 uz ad] at hx10
        obtain ⟨pf, rfl, rf⟩ := hx10
        have s710 := s79.trans s10
        refine ⟨.ref L, rfl, .inl ⟨rfl, _, SqL.of (s710 _ _ g7)⟩, .int B.length, rfl, (B.length : Int), rfl, by omega, by omega, fun Z nZ => ?_⟩
        rw [Int.toNat_natCast]
        have ry10 := (ry.same s7).same s710
        refine lc_to (walk_range (lo := 0) (n := B.length)) (z.map V.int) (by rw [List.length_map, lz]) (small (by omega)) nZ (fun H' s => True.intro) ?_ ?_
        · rintro i w v11 H11 H11' Qy hw' hi s11 ⟨rfl, rfl⟩ hq
          obtain ⟨u, hu, rfl⟩ := map_get hw'
          have ei : (0 + (i : Int)) = ((i : Nat) : Int) := by omega
          have gf : ((List.range B.length).map fun j => y.getD j 0 + z.getD j 0)[i]? = some (y.getD i 0 + u) := by
            rw [List.getElem?_map, List.getElem?_range hi, ← getD_of hu]
            rfl
          have gy := Vk.getD_at (xs := y) (i := i) (by omega)
          have eu : y.getD i 0 + u - y.getD i 0 = u := by omega
          refine ⟨rfl, .ref pf, rfl, .int (0 + i), rfl, pf, _, 0 + i, .int (y.getD i 0 + u), rfl, rfl, (rf.same s11).1.t, atI_at ei (get_map gf), .ref py, rfl, .int (0 + i), rfl, py, _, 0 + i, .int (y.getD i 0), rfl, rfl, (ry10.same s11).1.t, atI_at ei (get_map gy), _, _, rfl, rfl, ?_⟩
          dsimp only
          rw [eu]
          exact hq _ (Same.refl _)
        intro H11 s11 d11
        have s711 := s710.trans s11
        have g11 := s711 _ _ g7
        have ZL : Z ≠ L := Ne.symm (ne_of_none (s710 _ _ g7) nZ)
        have C11 := C7.same s711
        refine ⟨L, _, _, rfl, rfl, g11, by rw [List.length_map, l7]; exact small (by omega), lq' ++ [Z], ⟨_, _, _, _, _, rfl⟩, same_put (s7.trans s711) nL, by rw [upd_same, List.map_append]; rfl, by rw [upd_ne LcL]; exact s711 _ _ d7, ⟨C11.1, fun i p r e1 e2 => ⟨⟨tp_put (C11.2 i p r e1 e2).1.1 g11, (C11.2 i p r e1 e2).1.2⟩, (C11.2 i p r e1 e2).2⟩⟩, by rw [List.length_append, l7]; rfl, fun i p' z' h1 h2 => ?_⟩
        by_cases hi : i < lq'.length
        · rw [List.getElem?_append_left hi] at h1
          obtain ⟨m1, m2⟩ := R7 i p' z' h1 h2
          exact ⟨by rw [upd_ne m2]; exact s711 _ _ m1, m2⟩
        · have hj2 := (List.getElem?_eq_some_iff.mp h1).1
          rw [List.length_append] at hj2
          have hj3 : i = lq'.length := by
            simp only [List.length_cons, List.length_nil] at hj2
            omega
          subst hj3
          rw [List.getElem?_append_right (Nat.le_refl _), Nat.sub_self] at h1
          obtain rfl := Option.some.inj h1
          rw [l7] at h2
          obtain rfl := Option.some.inj (hz.symm.trans h2)
          exact ⟨by rw [upd_ne ZL]; exact d11, ZL⟩
      · rintro σ H7 ⟨lq', ⟨y5, y6, y9, y10, y11, rfl⟩, s7, g7, d7, C7, l7, R7⟩
        have lqm : (cq.map V.ref).length = B.length := by rw [List.length_map, lq]
        rw [lqm] at l7
        have s17 := s14.trans s7
        refine ⟨.int B.length, rfl, (B.length : Int), rfl, by omega, by omega, fun D nD => ?_⟩
        rw [Int.toNat_natCast]
        have line : ∀ j, j < B.length → ∃ p z, lq'[j]? = some p ∧ cs[j]? = some z ∧ H7 p = some (.lst (z.map V.int)) ∧ z.length = B.length := fun j hj => by
          have h1 : lq'[j]? = some (lq'[j]'(by omega)) := List.getElem?_eq_getElem (by omega)
          have h2 : cs[j]? = some (cs[j]'(by omega)) := List.getElem?_eq_getElem (by omega)
          have hc : (colsI B' B.length)[j]? = some ((colsI B' B.length)[j]'(by unfold colsI; rw [List.length_map, List.length_range]; exact hj)) := List.getElem?_eq_getElem _
          exact ⟨_, _, h1, h2, (R7 j _ _ h1 h2).1, unwI_len _ _ (csz j _ _ hc h2)⟩
        refine lc_objs (walk_range (lo := 0) (n := B.length)) (fun i => .tup ((cs.map fun z => z.getD i 0).map V.int)) (small (by omega)) nD (fun H' s => True.intro) ?_ ?_
        · rintro i x H8 H8' Qy hi s8 ⟨rfl, rfl⟩ hq
          have ei : (0 + (i : Int)) = ((i : Nat) : Int) := by omega
          refine ⟨rfl, .int B.length, rfl, (B.length : Int), rfl, by omega, by omega, fun D2 nD2 => ?_⟩
          rw [Int.toNat_natCast]
          refine lc_to (walk_range (lo := 0) (n := B.length)) ((cs.map fun z => z.getD i 0).map V.int) (by rw [List.length_map, List.length_map, lcs]) (small (by omega)) nD2 (fun H' s => True.intro) ?_ ?_
          · rintro j x v9 H9 H9' Qy hv9 hj s9 ⟨rfl, rfl⟩ hq
            obtain ⟨u, hu, rfl⟩ := map_get hv9
            obtain ⟨z', hz', rfl⟩ := map_get hu
            obtain ⟨p, z, e1, e2', e3, e4⟩ := line j hj
            obtain rfl := Option.some.inj (e2'.symm.trans hz')
            have ej : (0 + (j : Int)) = ((j : Nat) : Int) := by omega
            have s89 := s8.trans s9
            exact ⟨rfl, .ref L, rfl, .int (0 + j), rfl, L, _, 0 + j, .ref p, rfl, rfl, SqL.of (s89 _ _ g7), atI_at ej (get_map e1), .int (0 + i), rfl, p, _, 0 + i, .int (z.getD i 0), rfl, rfl, SqL.of (s89 _ _ e3), atI_at ei (get_map (Vk.getD_at (by omega))), hq _ (Same.refl _)⟩
          · intro H9 s9 d9
            exact ⟨D2, _, rfl, .inl ⟨SqL.of d9, fun T nT => hq T _ (s9.trans (same_new nT)) (s9.free nT) upd_same⟩⟩
        intro H8 us s8 d8 lu ndu fru obu
        refine ⟨D, _, rfl, .inl ⟨SqL.of d8, fun TT nTT => ?_⟩⟩
        have s9 : Same H8 (upd H8 TT (.tup (us.map V.ref))) := same_new nTT
        have g9 : Tp (upd H8 TT (.tup (us.map V.ref))) TT (us.map V.ref) := upd_same
        generalize upd H8 TT (.tup (us.map V.ref)) = H9 at s9 g9 ⊢
        refine ⟨.ref r, rfl, .ref TT, rfl, .ref py, rfl, by show 2 ≤ sizeLine; decide, fun p np => ?_⟩
        have s10 : Same H9 (upd H9 p (.tup [.ref TT, .ref py])) := same_new np
        have g10 : Tp (upd H9 p (.tup [.ref TT, .ref py])) p [.ref TT, .ref py] := upd_same
        generalize upd H9 p (.tup [.ref TT, .ref py]) = H10 at s10 g10 ⊢
        have s710 := (s8.trans s9).trans s10
        have s410 := s7.trans s710
        have lci : (colsI cs B.length).length = B.length := by
          unfold colsI
          rw [List.length_map, List.length_range]
        have g310 := g3.same s410
        have rowsD : ∀ ks : List Addr, ks.length = B.length → (∀ (i : Nat) (k : Addr) (z : List Int), ks[i]? = some k → (colsI cs B.length)[i]? = some z → Tp H10 k (z.map V.int)) → DpAll K H10 (ks.map V.ref) ((colsI cs B.length).map dRow) := fun ks lk hk => dp_all ks _ (by rw [List.length_map, lci, lk]) fun i k d e1 e2 => by
          obtain ⟨z, hz, rfl⟩ := map_get e2
          exact dp_row (hk i k z e1 hz)
        refine ⟨.ref r, .ref p, .tuple [.tuple ((colsI cs B.length).map dRow), dRow y], rfl, .tup (g1.same s410).t (.cons (.tup (g2.same s410).t (rowsD qs (by rw [g3.1, lci]) fun i k z e1 e2 => (g310.2 i k z e1 e2).1.1)) (.cons (dp_row (g4.same s410).1) .nil)), .tup g10.t (.cons (.tup (g9.same s10).t (rowsD us (by rw [lu]) fun i k z e1 e2 => ?_)) (.cons (dp_row (ry.same s410).1) .nil)), ?_, q _ (s14.trans s410)⟩
        · obtain rfl := colsI_get e2
          exact (s9.trans s10) _ _ (obu i k e1)
        · have fr : ∀ d ∈ (colsI cs B.length).map dRow, FitN 1 9 d := fun d hd => by
            obtain ⟨z, hz, rfl⟩ := List.mem_map.mp hd
            obtain ⟨i, hi⟩ := List.getElem?_of_mem hz
            have hi' : i < qs.length := by
              rw [g3.1]
              exact (List.getElem?_eq_some_iff.mp hi).1
            obtain ⟨Rz, lz⟩ := g3.2 i qs[i] z (List.getElem?_eq_getElem hi') hi
            exact fit_ints (k := 0) 9 z Rz.2.2 (by omega)
          have f1 : FitN 2 90 (.tuple ((colsI cs B.length).map dRow)) := .tup (fit_all (k := 1) (a := 9) 9 _ fr (by rw [List.length_map, lci]; exact n9))
          have f2 : FitN 2 9 (dRow y) := (fit_ints (k := 1) 9 y g4.2.2 (by omega))
          exact FitN.mono (.tup (.cons (n := 200) f1 (.cons (n := 20) (b := 0) f2 .nil (by decide)) (by decide))) (by decide) (by decide)
end
end K13
namespace K13
open PySem PySem.Spec PyProof.Rows L2 Vk
abbrev s_leading : Stmt := topS 16
theorem sc_leading : FnScope ["grid", "count", "table", "s", "row"] ["grid", "count"] (defScope s_leading) := ⟨rfl, rfl, rfl, by decide +kernel, rfl, by decide +kernel, by decide +kernel⟩
def spLeading : Sp := fun vs H Q _ => ∃ (g : Addr) (n : Nat) (B : List (List Int)) (s : List Int), vs = [.ref g, .int n] ∧ Gr H g B s ∧ B.length ≤ 9 ∧ n ≤ B.length ∧ ∀ r tt ty qs H', Same H H' → Tp H' r [.ref tt, .ref ty] → Tp H' tt (qs.map V.ref) → Rw H' qs ((B.take n).map (List.take n)) → Tp H' ty ((s.take n).map V.int) → Q (.ref r) H'
section
variable {P : Program} {w : World} {K : PySem.W.Frag} {mg : Str → Option Value} {base : Heap}
theorem ok_leading {f : Addr} {fd : FuncData} (F : Fun K "leading" "leading" s_leading f fd) (m_tuple : mg "tuple" = none) : FnOk P w K mg base CX0 1 f fd ["grid", "count"] spLeading := by
  have sc := sc_leading
  refine F.ok sc (fun vs H Q E h => ?_) (fun cdv A outer s H vs Q E hr h => ?_)
  · obtain ⟨g, n, B, s, rfl, _⟩ := h
    rfl
  · obtain ⟨g, n, B, st, rfl, ⟨tb, ts, ps, h1, h2, hR, h4, h5⟩, l9, ln, q⟩ := h
    refine ⟨_, (pss_cons (ps_asg (pv 0) (pg_tup (n := 2) (by rfl) (pgs_cons (pg_name (i := 2) sc.nd rfl (Or.inl rfl)) (pgs_cons (pg_name (i := 3) sc.nd rfl (Or.inl rfl)) pgs_nil))))
    (pss_one (ps_ret (pe_tup (pa_cons (pe_callTy call_tuple_of (by rfl) m_tuple (by decide +kernel) (pa_cons (pe_lc (own := [("row", 4)]) (g := gName 4) (by rfl) sc.nd (pi_tup (pe_slice sl_tupA (pv 2) po_none (po_some (pv 1)))) (blkOk_by (own := [("row", 4)]) (N := ["grid", "count", "table", "s", "row"]) (sc := defScope s_leading) (by decide +kernel)) (fun _ _ _ _ _ => pg_name (i := 4) sc.nd rfl (Or.inl rfl)) (fun _ _ _ _ _ => pts_nil) (fun _ _ _ _ _ => (pe_slice (sl_tupAK (K := K) rfl) (pv 4) po_none (po_some (pv 1))))) pa_nil)) (pa_cons (pe_slice sl_tupA (pv 3) po_none (po_some (pv 1))) pa_nil)))))), ?_⟩
    refine ⟨.ref g, rfl, g, _, rfl, h1.t, rfl, .ref tb, [.ref ts], rfl, .ref ts, [], rfl, rfl, ?_⟩
    refine ⟨.ref tb, rfl, .int n, rfl, n, rfl, ?_⟩
    refine slice_tp h2 fun r1 H1 s1 g1 => ?_
    rw [cut_to, ← List.map_take] at g1
    have lp : ((ps.take n).map V.ref).length = n := by
      rw [List.length_map, List.length_take, hR.1]
      omega
    refine ⟨r1, rfl, ⟨_, g1.t⟩, fun D nD => ?_⟩
    refine lc_tps (walk_tup (K := K) (a := r1) (xs := (ps.take n).map V.ref)) ((B.take n).map (List.take n)) (by rw [lp, List.length_map, List.length_take]; omega) (by rw [lp]; exact small (by omega)) nD (fun H' s => (g1.same s).t) ?_ ?_
    · rintro i x y H0 H0' Qy hy hi s0 ⟨rfl, hx⟩ hq
      obtain ⟨p, hp, rfl⟩ := map_get hx
      obtain ⟨r, hr', rfl⟩ := map_get hy
      have hin : i < n := by omega
      rw [List.getElem?_take_of_lt hin] at hp hr'
      obtain ⟨Rp, _⟩ := hR.2 i p r hp hr'
      refine ⟨rfl, .ref p, rfl, .int n, rfl, n, rfl, ?_⟩
      refine slice_tp ((Rp.same s1).same s0).1 fun r2 H2 s2 g2 => ?_
      rw [cut_to, ← List.map_take] at g2
      exact hq r2 H2 s2 g2
    intro H2 us s2 d2 W2
    refine ⟨D, _, rfl, .inl ⟨SqL.of d2, fun T nT => ?_⟩⟩
    have s3 : Same H2 (upd H2 T (.tup (us.map V.ref))) := same_new nT
    have g3 : Tp (upd H2 T (.tup (us.map V.ref))) T (us.map V.ref) := upd_same
    generalize upd H2 T (.tup (us.map V.ref)) = H3 at s3 g3 ⊢
    have s13 := (s1.trans s2).trans s3
    refine ⟨.ref ts, rfl, .int n, rfl, n, rfl, ?_⟩
    refine slice_tp (h4.same s13).1 fun r4 H4 s4 g4 => ?_
    rw [cut_to, ← List.map_take] at g4
    refine ⟨by show 2 ≤ sizeLine; decide, fun p np => ?_⟩
    have s5 := same_new (o := .tup [.ref T, .ref r4]) np
    exact q p T r4 us _ (s13.trans (s4.trans s5)) upd_same (g3.same (s4.trans s5)) (W2.same (s3.trans (s4.trans s5))) (g4.same s5)
end
end K13
namespace K13
open PySem PySem.Spec PyProof.Rows L2 Vk
/-- an entry of a form put in -/
theorem putI_val {c : Int} {cs : List Int} {rows : List (List Int)} {n : Nat} (h : ∀ (i : Nat) (r : List Int), rows[i]? = some r → r.length = n + 1) (k : Nat) (hk : k ≤ n) : ∀ m, m ≤ rows.length → (putI c cs rows n m).getD k 0 = (if k = 0 then c else 0) + S m fun j => cs.getD j 0 * (rows.getD j []).getD k 0
  | 0, _ => by
    show (c :: List.replicate n 0).getD k 0 = _ + 0
    cases k with
    | zero => rw [if_pos rfl, Int.add_zero]; rfl
    | succ k =>
      rw [if_neg (by omega)]
      show (List.replicate n (0 : Int)).getD k 0 = 0 + 0
      rw [List.getD_eq_getElem?_getD, List.getElem?_replicate]
      split <;> rfl
  | m + 1, hm => by
    have ih := putI_val (c := c) (cs := cs) h k hk m (by omega)
    have l1 : (putI c cs rows n m).length = n + 1 := putI_len h m (by omega)
    have hrow : rows[m]? = some (rows.getD m []) := by
      rw [List.getD_eq_getElem?_getD, List.getElem?_eq_getElem (by omega)]
      rfl
    have l2 := h m _ hrow
    show (List.zipWith (fun a b => a + cs.getD m 0 * b) (putI c cs rows n m) (rows.getD m [])).getD k 0 = _ + (S m (fun j => cs.getD j 0 * (rows.getD j []).getD k 0) + _)
    rw [List.getD_eq_getElem?_getD, List.getElem?_zipWith, Vk.getD_at (xs := putI c cs rows n m) (i := k) (by omega), Vk.getD_at (xs := rows.getD m []) (i := k) (by omega), ih]
    show _ + _ + cs.getD m 0 * (rows.getD m []).getD k 0 = _ + (_ + cs.getD m 0 * (rows.getD m []).getD k 0)
    omega
theorem gforms_at {B : List (List Int)} {s : List Int} (hl : s.length = B.length) {j : Nat} (hj : j < B.length) : (gforms B s).getD j [] = s.getD j 0 :: B.getD j [] := by
  have h1 := Vk.getD_at (xs := s) (i := j) (by omega)
  have h2 : B[j]? = some (B.getD j []) := by
    rw [List.getD_eq_getElem?_getD, List.getElem?_eq_getElem hj]
    rfl
  rw [List.getD_eq_getElem?_getD]
  unfold gforms
  rw [List.getElem?_zipWith, h1, h2]
  rfl
theorem gforms_wide {B : List (List Int)} {s : List Int} (hw : ∀ r ∈ B, r.length = B.length) : ∀ (i : Nat) (r : List Int), (gforms B s)[i]? = some r → r.length = B.length + 1 := fun i r h => by
  obtain ⟨c, b, hc, hb, rfl⟩ := gforms_get h
  rw [List.length_cons, hw b (List.mem_of_getElem? hb)]
/-- the entries of the forms of inner points -/
theorem over_mt {B B' : List (List Int)} {s s' : List Int} (hl : s.length = B.length) (hl' : s'.length = B'.length) (lB : B'.length = B.length) (hw' : ∀ r ∈ B', r.length = B'.length) {i : Nat} (hi : i < B.length) :
    (∀ k, k < B.length → mt (extI (tailsI (overI B s B' s')) (headsI (overI B s B' s'))) i k = S B.length fun j => mt B i j * mt B' j k) ∧
    mt (extI (tailsI (overI B s B' s')) (headsI (overI B s B' s'))) i B.length = s.getD i 0 + S B.length fun j => mt B i j * s'.getD j 0 := by
  have gl' : (gforms B' s').length = B'.length := gforms_len hl'
  have wide := gforms_wide (s := s') hw'
  have hg : (gforms B s)[i]? = some (s.getD i 0 :: B.getD i []) := by
    rw [← gforms_at hl hi, List.getD_eq_getElem?_getD, List.getElem?_eq_getElem (by rw [gforms_len hl]; exact hi)]
    rfl
  have ho : (overI B s B' s')[i]? = some (putI (s.getD i 0) (B.getD i []) (gforms B' s') B'.length B'.length) := by
    unfold overI
    rw [List.getElem?_map, hg]
    rfl
  obtain ⟨P, hP⟩ : ∃ P, P = putI (s.getD i 0) (B.getD i []) (gforms B' s') B'.length B'.length := ⟨_, rfl⟩
  have lP : P.length = B'.length + 1 := by rw [hP]; exact putI_len wide _ (by rw [gl']; exact Nat.le_refl _)
  have vP : ∀ k, k ≤ B'.length → P.getD k 0 = (if k = 0 then s.getD i 0 else 0) + S B'.length fun j => (B.getD i []).getD j 0 * ((gforms B' s').getD j []).getD k 0 := fun k hk => by
    rw [hP]
    exact putI_val wide k hk _ (by rw [gl']; exact Nat.le_refl _)
  rw [← hP] at ho
  have e1 : (tailsI (overI B s B' s'))[i]? = some P.tail := by
    unfold tailsI
    rw [List.getElem?_map, ho]
    rfl
  have e2 : (headsI (overI B s B' s'))[i]? = some (P.headD 0) := by
    unfold headsI
    rw [List.getElem?_map, ho]
    rfl
  have e3 := extI_get e1 e2
  obtain ⟨p, xs, rfl⟩ : ∃ p xs, P = p :: xs := by
    cases P with
    | nil => cases lP
    | cons p xs => exact ⟨p, xs, rfl⟩
  rw [List.length_cons] at lP
  have lx : xs.length = B.length := by omega
  constructor
  · intro k hk
    unfold mt
    rw [e3]
    show (xs ++ [p]).getD k 0 = _
    rw [List.getD_eq_getElem?_getD, List.getElem?_append_left (by omega), ← List.getD_eq_getElem?_getD]
    have v := vP (k + 1) (by omega)
    rw [if_neg (by omega), Int.zero_add] at v
    have v : xs.getD k 0 = _ := v
    rw [v, lB]
    exact S_congr _ fun j hj => by rw [gforms_at hl' (by omega)]; rfl
  · unfold mt
    rw [e3]
    show (xs ++ [p]).getD B.length 0 = _
    rw [List.getD_eq_getElem?_getD, List.getElem?_append_right (by omega), lx, Nat.sub_self]
    have v := vP 0 (by omega)
    rw [if_pos rfl] at v
    have v : p = _ := v
    show p = _
    rw [v, lB]
    congr 1
    exact S_congr _ fun j hj => by rw [gforms_at hl' (by omega)]; rfl
/-- row steps after row steps -/
theorem over_tri {n : Nat} {b b' : Mt} (t : Tri n b) (t' : Tri n b') : Tri n (fun i k => S n fun j => b i j * b' j k) ∧ ∀ i, i < n → (S n fun j => b i j * b' j i) = b i i * b' i i := by
  have dia : ∀ i, i < n → (S n fun j => b i j * b' j i) = b i i * b' i i := fun i hi => by
    have h1 : S n (fun j => b i j * b' j i) = S (i + 1) fun j => b i j * b' j i := S_cut (i + 1) n (by omega) fun j h1 h2 => by rw [t.up i j (by omega) h2, Int.zero_mul]
    rw [h1]
    show S i _ + _ = _
    have h2 : S i (fun j => b i j * b' j i) = S i fun _ => 0 := S_congr i fun j hj => by rw [t'.up j i hj hi, Int.mul_zero]
    rw [h2, S_zero, Int.zero_add]
  refine ⟨⟨fun i hi => ?_, fun i k h1 h2 => ?_⟩, dia⟩
  · show 0 < S n fun j => b i j * b' j i
    rw [dia i hi]
    exact Int.mul_pos (t.pos i hi) (t'.pos i hi)
  · have h : S n (fun j => b i j * b' j k) = S n fun _ => 0 := S_congr n fun j hj => by
      by_cases hij : i < j
      · rw [t.up i j hij hj, Int.zero_mul]
      · rw [t'.up j k (by omega) h2, Int.mul_zero]
    show S n (fun j => b i j * b' j k) = 0
    rw [h, S_zero]
/-- a point of an inner point -/
theorem over_pt {n : Nat} {b b' : Mt} {e : Mt} {s s' : Vc} (he : ∀ i, i < n → (∀ k, k < n → e i k = S n fun j => b i j * b' j k) ∧ e i n = s i + S n fun j => b i j * s' j) (z : Vc) : ∀ i, i < n → pt n e z i = s i + mv n b (fun j => s' j + mv n b' z j) i := fun i hi => by
  obtain ⟨h1, h2⟩ := he i hi
  unfold pt
  rw [h2, mv_add, mv_mv]
  have h3 : mv n e z i = mv n (fun i k => S n fun j => b i j * b' j k) z i := S_congr n fun k hk => by rw [h1 k hk]
  rw [h3]
  show s i + mv n b s' i + _ = _
  omega
end K13
namespace K13
open PySem PySem.Spec PyProof.Rows L2 Vk
theorem S_abs {f : Nat → Int} {M : Nat} : ∀ n, (∀ j, j < n → (f j).natAbs ≤ M) → (S n f).natAbs ≤ n * M
  | 0, _ => by
    show (0 : Int).natAbs ≤ _
    exact Nat.zero_le _
  | n + 1, h => by
    have h1 := S_abs n fun j hj => h j (by omega)
    have h2 := h n (by omega)
    show (S n f + f n).natAbs ≤ _
    rw [Nat.succ_mul]
    omega
/-- the entries of a point -/
theorem ptI_at {B : List (List Int)} {s y : List Int} (hl : s.length = B.length) (hw : ∀ r ∈ B, r.length = B.length) {i : Nat} (hi : i < B.length) : (ptI B s y).getD i 0 = s.getD i 0 + mv B.length (mt B) (at_ y) i := by
  have hg : (gforms B s)[i]? = some (s.getD i 0 :: B.getD i []) := by
    rw [← gforms_at hl hi, List.getD_eq_getElem?_getD, List.getElem?_eq_getElem (by rw [gforms_len hl]; exact hi)]
    rfl
  have hr : B[i]? = some (B.getD i []) := by
    rw [List.getD_eq_getElem?_getD, List.getElem?_eq_getElem hi]
    rfl
  rw [List.getD_eq_getElem?_getD]
  unfold ptI
  rw [List.getElem?_map, hg]
  show s.getD i 0 + dot (B.getD i []) y = _
  rw [dot_S _ _ B.length (by rw [hw _ (List.mem_of_getElem? hr)]; exact Nat.min_le_left _ _)]
  rfl
theorem ptI_len {B : List (List Int)} {s y : List Int} (hl : s.length = B.length) : (ptI B s y).length = B.length := by
  unfold ptI
  rw [List.length_map, gforms_len hl]
theorem ptI_sm {B : List (List Int)} {s y : List Int} {k : Nat} (hs : Gs B s) (hy : ∀ x ∈ y, SmZ k x) : ∀ x ∈ ptI B s y, SmZ (k + 30) x := fun x hx => by
  obtain ⟨i, hi⟩ := List.getElem?_of_mem hx
  unfold ptI at hi
  obtain ⟨fm, hf, rfl⟩ := map_get hi
  obtain ⟨c, b, hc, hb, rfl⟩ := gforms_get hf
  have hm := List.mem_of_getElem? hb
  have h9 := hs.n
  have hl := hs.w b hm
  have d : SmZ (k + 29) (dot b y) := smz_mono (dot_sm (hs.b b hm) hy) (by omega)
  exact smz_add (smz_mono (hs.q c (List.mem_of_getElem? hc)) (by omega)) d
/-- row steps of a table with its start behind -/
theorem ext_mt {T : List (List Int)} {t : List Int} (hl : t.length = T.length) (hw : ∀ r ∈ T, r.length = T.length) {i : Nat} (hi : i < T.length) : (∀ k, k < T.length → mt (extI T t) i k = mt T i k) ∧ mt (extI T t) i T.length = t.getD i 0 := by
  have h1 : T[i]? = some (T.getD i []) := by
    rw [List.getD_eq_getElem?_getD, List.getElem?_eq_getElem hi]
    rfl
  have h2 := Vk.getD_at (xs := t) (i := i) (by omega)
  have e := extI_get h1 h2
  have lr := hw _ (List.mem_of_getElem? h1)
  constructor
  · intro k hk
    unfold mt
    rw [e, List.getD_eq_getElem?_getD, List.getElem?_append_left (by omega), ← List.getD_eq_getElem?_getD]
  · unfold mt
    rw [e, List.getD_eq_getElem?_getD, List.getElem?_append_right (by omega), lr, Nat.sub_self]
    rfl
theorem pt_ext {T : List (List Int)} {t : List Int} (hl : t.length = T.length) (hw : ∀ r ∈ T, r.length = T.length) (z : Vc) {i : Nat} (hi : i < T.length) : pt T.length (mt (extI T t)) z i = t.getD i 0 + mv T.length (mt T) z i := by
  obtain ⟨h1, h2⟩ := ext_mt hl hw hi
  unfold pt
  rw [h2]
  congr 1
  exact S_congr _ fun k hk => by rw [h1 k hk]
/-- the one writing is one -/
theorem wr_of {T : List (List Int)} {t : List Int} {e0 : Mt} (hl : t.length = T.length) (hw : ∀ r ∈ T, r.length = T.length) (h : Red T.length T.length e0 (mt (extI T t))) : Wr T t ∧ Tri T.length (mt T) ∧ ∀ i, i < T.length → dg T i = e0 i i := by
  have e : ∀ i, i < T.length → ∀ k, k < T.length → mt (extI T t) i k = mt T i k := fun i hi => (ext_mt hl hw hi).1
  have e2 : ∀ i, i < T.length → mt (extI T t) i T.length = t.getD i 0 := fun i hi => (ext_mt hl hw hi).2
  have d : ∀ i, i < T.length → mt (extI T t) i i = dg T i := fun i hi => e i hi i hi
  have tri : Tri T.length (mt T) := ⟨fun i hi => by rw [← e i hi i hi]; exact h.tri.pos i hi, fun i j h1 h2 => by rw [← e i (by omega) j h2]; exact h.tri.up i j h1 h2⟩
  refine ⟨⟨fun i hi => tri.pos i hi, hw, hl, fun i hi => ?_, fun i j hi hj => ?_, fun i j h1 h2 => tri.up i j h1 h2⟩, tri, fun i hi => by rw [← d i hi]; exact h.dia i hi⟩
  · have r := (h.row i hi hi).1
    rw [e2 i hi, d i hi] at r
    exact r
  · have r := (h.row i hi hi).2 j hj
    rw [e i hi j (by omega), d i hi] at r
    exact r
end K13
namespace K13
open PySem PySem.Spec PyProof.Rows L2 Vk
abbrev s_wright : Stmt := topS 33
theorem sc_wright : FnScope ["m", "grid_so", "size_so", "inner_so", "told", "step", "whole", "i", "due", "z", "t", "back"] ["m", "grid_so", "size_so"] (defScope s_wright) := ⟨rfl, rfl, rfl, by decide +kernel, rfl, by decide +kernel, by decide +kernel⟩
/-- a place in a grid of at most four letters -/
theorem place_call4 {H : Hp} {Q : VK} {E : XK} {g a : Addr} {B : List (List Int)} {s t : List Int} (hG : Gr H g B s) (hs : Gs B s) (h4 : B.length ≤ 4) (ha : Row H a t) (lt : t.length = B.length) (zt : ∀ x ∈ t, SmZ 170 x)
    (k : ∀ x H1, Same H H1 → OpV H1 x (placeI B s t B.length) → Q x H1) : spPlace [.ref g, .ref a] H Q E := by
  refine ⟨g, a, B, s, t, rfl, hG, ha, lt, hs.n, hs.p, fun i y hi e => ?_, fun e H' s' => k .non H' s' (by rw [e]; rfl), fun y e r H' s' hr => k (.ref r) H' s' (by rw [e]; exact ⟨r, rfl, hr⟩)⟩
  rw [place_unw i (by omega) (by rw [hs.l]; exact hi)] at e
  intro x hx
  have hn := hs.n
  exact smz_mono (unw_sm hs.b (fun r hr => by rw [hs.w r hr]; exact hn) hs.p (sub_sm zt fun x hx => smz_mono (hs.q x hx) (by decide)) i y hi e x hx) (by omega)
/-- what is known of a drawn grid -/
structure Gd (n : Nat) (B : List (List Int)) (s : List Int) : Prop where
  n : B.length = n
  g : Gs B s
  t : Tri B.length (mt B)
  e : ∀ i k, (mt B i k).natAbs ≤ 9
  s : ∀ i, (s.getD i 0).natAbs ≤ 9
theorem gd_of {n : Nat} {most : Int} {B : List (List Int)} {s : List Int} (h : GridOk n most B s) (hn : n ≤ 4) (hm : most ≤ 9) : Gd n B s := by
  obtain ⟨h1, h2, h3, h4⟩ := h
  have row : ∀ i, i < n → ∀ k, (mt B i k).natAbs ≤ 9 := fun i hi k => by
    obtain ⟨r1, r2, r3, r4, r5⟩ := h3 i hi
    unfold mt
    rcases Nat.lt_trichotomy k i with h | h | h
    · have := r4 k h
      omega
    · subst h
      omega
    · rw [r5 k h]
      decide
  have out : ∀ i, ¬ i < n → B.getD i [] = [] := fun i hi => by
    rw [List.getD_eq_getElem?_getD, List.getElem?_eq_none (by omega)]
    rfl
  have ent : ∀ i k, (mt B i k).natAbs ≤ 9 := fun i k => by
    by_cases hi : i < n
    · exact row i hi k
    · unfold mt
      rw [out i hi]
      show (0 : Int).natAbs ≤ 9
      decide
  have se : ∀ i, (s.getD i 0).natAbs ≤ 9 := fun i => by
    by_cases hi : i < n
    · obtain ⟨a0, a1⟩ := h4 i hi
      have := ent i i
      have e : dg B i = mt B i i := rfl
      omega
    · rw [List.getD_eq_getElem?_getD, List.getElem?_eq_none (by omega)]
      decide
  have sm9 : ∀ x : Int, x.natAbs ≤ 9 → SmZ 20 x := fun x hx => Nat.lt_of_le_of_lt hx (by decide)
  refine ⟨h1, ⟨fun r hr x hx => ?_, fun x hx => ?_, fun i hi => ?_, fun r hr => ?_, by omega, by omega⟩, ⟨fun i hi => ?_, fun i j a b => ?_⟩, ent, se⟩
  · obtain ⟨i, hi⟩ := List.getElem?_of_mem hr
    obtain ⟨k, hk⟩ := List.getElem?_of_mem hx
    have e : mt B i k = x := by
      unfold mt
      have e1 : B.getD i [] = r := by
        rw [List.getD_eq_getElem?_getD, hi]
        rfl
      rw [e1, List.getD_eq_getElem?_getD, hk]
      rfl
    rw [← e]
    exact sm9 _ (ent i k)
  · obtain ⟨k, hk⟩ := List.getElem?_of_mem hx
    have e : s.getD k 0 = x := by
      rw [List.getD_eq_getElem?_getD, hk]
      rfl
    rw [← e]
    exact sm9 _ (se k)
  · have := (h3 i (by omega)).2.1
    show 0 < (B.getD i []).getD i 0
    omega
  · obtain ⟨i, hi⟩ := List.getElem?_of_mem hr
    have hil := (List.getElem?_eq_some_iff.mp hi).1
    have := (h3 i (by omega)).1
    rw [List.getD_eq_getElem?_getD, hi] at this
    rw [h1]
    exact this
  · have := (h3 i (by omega)).2.1
    show 0 < (B.getD i []).getD i 0
    omega
  · exact (h3 i (by omega)).2.2.2.2 j a
/-- what grid_within is handed -/
theorem over_ok {n : Nat} {B B' : List (List Int)} {s s' : List Int} (h : Gd n B s) (h' : Gd n B' s') (hn : n ≤ 4) : Sml (extI (tailsI (overI B s B' s')) (headsI (overI B s B' s'))) 15 ∧ Tri B.length (mt (extI (tailsI (overI B s B' s')) (headsI (overI B s B' s')))) ∧
    ∀ i, i < B.length → mt (extI (tailsI (overI B s B' s')) (headsI (overI B s B' s'))) i i = dg B i * dg B' i := by
  have lB : B'.length = B.length := by rw [h'.n, h.n]
  have om := fun i (hi : i < B.length) => over_mt (s := s) (s' := s') h.g.l h'.g.l lB h'.g.w hi
  have t' : Tri B.length (mt B') := by
    have := h'.t
    rw [lB] at this
    exact this
  obtain ⟨ot, od⟩ := over_tri h.t t'
  have l4 : B.length ≤ 4 := by rw [h.n]; exact hn
  have lo : (overI B s B' s').length = B.length := by unfold overI; rw [List.length_map, gforms_len h.g.l]
  have lE : (extI (tailsI (overI B s B' s')) (headsI (overI B s B' s'))).length = B.length := by
    unfold extI tailsI headsI
    rw [List.length_zipWith, List.length_map, List.length_map, Nat.min_self, lo]
  have prod : ∀ a b : Int, a.natAbs ≤ 9 → b.natAbs ≤ 9 → (a * b).natAbs ≤ 81 := fun a b ha hb => by
    rw [Int.natAbs_mul]
    exact Nat.mul_le_mul ha hb
  refine ⟨fun r hr x hx => ?_, ⟨fun i hi => ?_, fun i j h1 h2 => ?_⟩, fun i hi => ?_⟩
  · obtain ⟨i, hi⟩ := List.getElem?_of_mem hr
    obtain ⟨k, hk⟩ := List.getElem?_of_mem hx
    have hil : i < B.length := by
      rw [← lE]
      exact (List.getElem?_eq_some_iff.mp hi).1
    have e : mt (extI (tailsI (overI B s B' s')) (headsI (overI B s B' s'))) i k = x := by
      unfold mt
      have e1 : (extI (tailsI (overI B s B' s')) (headsI (overI B s B' s'))).getD i [] = r := by
        rw [List.getD_eq_getElem?_getD, hi]
        rfl
      rw [e1, List.getD_eq_getElem?_getD, hk]
      rfl
    have hkl := (List.getElem?_eq_some_iff.mp hk).1
    have lr : r.length ≤ B.length + 1 := by
      have wide := gforms_wide (s := s') h'.g.w
      unfold extI at hi
      rw [List.getElem?_zipWith] at hi
      cases e1 : (tailsI (overI B s B' s'))[i]? with
      | none => rw [e1] at hi; cases hi
      | some u =>
        cases e2 : (headsI (overI B s B' s'))[i]? with
        | none => rw [e1, e2] at hi; cases hi
        | some v =>
          rw [e1, e2] at hi
          obtain rfl := (Option.some.inj hi).symm
          unfold tailsI at e1
          obtain ⟨P, hP, rfl⟩ := map_get e1
          unfold overI at hP
          obtain ⟨fm, _, rfl⟩ := map_get hP
          rw [List.length_append, List.length_tail, putI_len wide _ (by rw [gforms_len h'.g.l]; exact Nat.le_refl _)]
          show _ + 1 ≤ _
          omega
    rw [← e]
    by_cases hkn : k < B.length
    · rw [(om i hil).1 k hkn]
      have b := S_abs (M := 81) B.length fun j hj => prod (mt B i j) (mt B' j k) (h.e i j) (h'.e j k)
      have : B.length * 81 ≤ 4 * 81 := Nat.mul_le_mul_right _ l4
      exact Nat.lt_of_le_of_lt (Nat.le_trans b this) (by decide)
    · obtain rfl : k = B.length := by omega
      rw [(om i hil).2]
      have b := S_abs (M := 81) B.length fun j hj => prod (mt B i j) (s'.getD j 0) (h.e i j) (h'.s j)
      have : B.length * 81 ≤ 4 * 81 := Nat.mul_le_mul_right _ l4
      have hsi := h.s i
      refine Nat.lt_of_le_of_lt (show _ ≤ 9 + 324 by omega) (by decide)
  · rw [(om i hi).1 i hi]
    exact ot.pos i hi
  · rw [(om i (by omega)).1 j h2]
    exact ot.up i j h1 h2
  · rw [(om i hi).1 i hi]
    exact od i hi
end K13
namespace K13
open PySem PySem.Spec PyProof.Rows L2 Vk
theorem Gr.but {m g : Addr} {H H' : Hp} {B : List (List Int)} {s : List Int} {kvs : List (Key × V)} (h : Gr H g B s) (hm : H m = some (.dK kvs)) (b : SameBut m H H') : Gr H' g B s := by
  obtain ⟨tb, ts, ps, h1, h2, h3, h4, h5⟩ := h
  exact ⟨tb, ts, ps, h1.but hm b, h2.but hm b, h3.but hm b, h4.but hm b, h5⟩
/-- told points and places -/
theorem told_in {n : Nat} {B B' T : List (List Int)} {s s' t z : List Int} (h : Gd n B s) (h' : Gd n B' s') (hn : n ≤ 4) (lT : T.length = B.length) (lt : t.length = T.length) (wT : ∀ r ∈ T, r.length = T.length)
    (R : Red B.length B.length (mt (extI (tailsI (overI B s B' s')) (headsI (overI B s B' s')))) (mt (extI T t))) (lz : z.length = B.length) :
    (unwI T (subL (ptI B s (ptI B' s' z)) t) T.length).isSome = true ∧ ∃ w : List Int, unwI B (subL (ptI T t z) s) B.length = some w ∧ (unwI B' (subL w s') B'.length).isSome = true := by
  have lB : B'.length = B.length := by rw [h'.n, h.n]
  have om := fun i (hi : i < B.length) => over_mt (s := s) (s' := s') h.g.l h'.g.l lB h'.g.w hi
  have l1 := h.g.l
  have l2 := h'.g.l
  have R' : Red T.length T.length (mt (extI (tailsI (overI B s B' s')) (headsI (overI B s B' s')))) (mt (extI T t)) := by
    rw [lT]
    exact R
  obtain ⟨wr, triT, _⟩ := wr_of lt wT R'
  have op := fun y : Vc => over_pt (n := B.length) (b := mt B) (b' := mt B') (e := mt (extI (tailsI (overI B s B' s')) (headsI (overI B s B' s')))) (s := fun i => s.getD i 0) (s' := fun j => s'.getD j 0) om y
  have pe : ∀ (y : Vc) i, i < B.length → pt B.length (mt (extI T t)) y i = t.getD i 0 + mv B.length (mt T) y i := fun y i hi => by
    have := pt_ext lt wT y (i := i) (by omega)
    rw [lT] at this
    exact this
  have inn : ∀ j, j < B.length → (ptI B' s' z).getD j 0 = s'.getD j 0 + mv B.length (mt B') (at_ z) j := fun j hj => by
    have := ptI_at (y := z) h'.g.l h'.g.w (i := j) (by omega)
    rw [lB] at this
    exact this
  constructor
  · obtain ⟨y, hy⟩ := R.lat.1 (at_ z)
    rw [← unw_iff triT]
    refine ⟨y, fun r hr => ?_⟩
    have hr' : r < B.length := by omega
    have e := hy r hr'
    rw [op (at_ z) r hr', pe y r hr'] at e
    have la : (ptI B s (ptI B' s' z)).length = B.length := ptI_len h.g.l
    rw [subL_get (by omega) (by omega), ptI_at h.g.l h.g.w hr']
    have c : mv B.length (mt B) (at_ (ptI B' s' z)) r = mv B.length (mt B) (fun j => s'.getD j 0 + mv B.length (mt B') (at_ z) j) r := S_congr _ fun j hj => by
      show mt B r j * (ptI B' s' z).getD j 0 = _
      rw [inn j hj]
    rw [c, lT]
    omega
  · obtain ⟨y, hy⟩ := R.lat.2 (at_ z)
    have key : ∀ r, r < B.length → mv B.length (mt B) (fun j => s'.getD j 0 + mv B.length (mt B') y j) r = (subL (ptI T t z) s).getD r 0 := fun r hr => by
      have e := hy r hr
      rw [op y r hr, pe (at_ z) r hr] at e
      have la : (ptI T t z).length = T.length := ptI_len lt
      rw [subL_get (by omega) (by omega), ptI_at lt wT (by omega), lT]
      omega
    refine ⟨_, some_unw h.t key _ (Nat.le_refl _), ?_⟩
    rw [← unw_iff h'.t]
    refine ⟨y, fun r hr => ?_⟩
    have hr' : r < B.length := by omega
    rw [subL_get (by rw [List.length_map, List.length_range]; omega) (by omega)]
    have e : ((List.range B.length).map fun j => s'.getD j 0 + mv B.length (mt B') y j).getD r 0 = s'.getD r 0 + mv B.length (mt B') y r := by
      rw [List.getD_eq_getElem?_getD, List.getElem?_map, List.getElem?_range hr']
      rfl
    rw [e, lB]
    omega
/-- the product of the sides -/
def prodS (f : Nat → Int) : Nat → Int
  | 0 => 1
  | n + 1 => prodS f n * f n
theorem prodS_pos {f : Nat → Int} : ∀ n, (∀ j, j < n → 0 < f j) → 0 < prodS f n
  | 0, _ => by
    show (0 : Int) < 1
    decide
  | n + 1, h => Int.mul_pos (prodS_pos n fun j hj => h j (by omega)) (h n (by omega))
theorem prodS_congr {f g : Nat → Int} : ∀ n, (∀ j, j < n → f j = g j) → prodS f n = prodS g n
  | 0, _ => rfl
  | n + 1, h => by
    show prodS f n * f n = prodS g n * g n
    rw [prodS_congr n fun j hj => h j (by omega), h n (by omega)]
theorem prodS_sm {f : Nat → Int} {k : Nat} : ∀ n, (∀ j, j < n → SmZ k (f j)) → SmZ (k * n + 1) (prodS f n)
  | 0, _ => (by decide : (1 : Int).natAbs < 2 ^ 1)
  | n + 1, h => by
    have h1 := prodS_sm n fun j hj => h j (by omega)
    exact smz_mono (smz_mul h1 (h n (by omega))) (by rw [Nat.mul_succ]; omega)
end K13
namespace K13
open PySem PySem.Spec PyProof.Rows L2 Vk
def spWright : Sp := fun vs H Q _ => ∃ (m c g : Addr) (q n : Nat) (B : List (List Int)) (s : List Int), vs = [.ref m, .ref g, .int n] ∧ MOk H m c q ∧ q ≤ 4000 ∧ n ≤ 4 ∧ Gr H g B s ∧ Gd n B s ∧ ∀ H', SameBut m H H' → MOk H' m c (q + 60) → Q (.bl true) H'
section
variable {P : Program} {w : World} {K : PySem.W.Frag} {mg : Str → Option Value} {base : Heap}
theorem ok_wright {f : Addr} {fd : FuncData} (F : Fun K "_law_within_right" "_law_within_right" s_wright f fd) (C__law_grid : Cal P w K mg base 2 "_law_grid" ["m", "size_so", "most"] spGrid) (C_grid_within : Cal P w K mg base 4 "grid_within" ["grid", "inner"] spGwithin) (C__law_is_grid : Cal P w K mg base 1 "_law_is_grid" ["value_so"] spIsgrid) (C__law_drawn : Cal P w K mg base 3 "_law_drawn" ["m", "size_so", "most"] spDrawn) (C__law_point : Cal P w K mg base 1 "_law_point" ["grid_so", "y"] spPat) (C__law_place : Cal P w K mg base 1 "_law_place" ["grid_so", "t"] spPlace) (C__law_map_right : CalG P w K mg base 5 "_law_map_right" ["m", "grid_so", "inner_so"] spMright)
    (m_len : mg "len" = none) (m_range : mg "range" = none) : FnG P w K mg base 6 f fd ["m", "grid_so", "size_so"] spWright := by
  have sc := sc_wright
  refine okG F sc (fun vs H Q E h => ?_) (fun cdv A outer s H vs Q E hG0 hr h => ?_)
  · obtain ⟨m, c, g, q, n, B, s, rfl, _⟩ := h
    rfl
  · obtain ⟨m, c, g, q, n, B, st, rfl, hM, hq, hn, hGr, gd, k⟩ := h
    have hG : Quiet (cxOf CX0 P w K mg base ["m", "grid_so", "size_so", "inner_so", "told", "step", "whole", "i", "due", "z", "t", "back"] "_law_within_right" (defScope s_wright) f cdv A outer s H E).nox.A := hG0.deeper _
    refine ⟨_, (pss_cons (ps_set (i := 3) sc.nd rfl (Or.inl rfl) (call_ C__law_grid (hr.mono (by decide)) (by rfl) (pa_cons (pv 0) (pa_cons (pv 2) (pa_cons pe_int pa_nil)))))
    (pss_cons (ps_set (i := 4) sc.nd rfl (Or.inl rfl) (call_ C_grid_within (hr.mono (by decide)) (by rfl) (pa_cons (pv 1) (pa_cons (pv 3) pa_nil))))
    (pss_cons (ps_if (PW.pt (pw_or (pt_not (pt_val (call_ C__law_is_grid (hr.mono (by decide)) (by rfl) (pa_cons (pv 4) pa_nil)))) (pw_or1 (pt_cmpR op_ne (pe_callB call_len_seq (by rfl) m_len (by decide +kernel) (pa_cons (pe_ix ix_tup (pv 4) pe_int (fun _ _ => rfl)) pa_nil)) (pv 2) (nomark _)))))
      (pss_one (ps_ret pe_bl))
      pss_nil)
    (pss_cons (ps_for PassesOwn.never rfl (pi_range1 rfl m_range (pa_cons pe_int pa_nil)) (pg_name (i := 5) sc.nd rfl (Or.inl rfl))
      (pss_cons (ps_set (i := 9) sc.nd rfl (Or.inl rfl) (call_ C__law_drawn (hr.mono (by decide)) (by rfl) (pa_cons (pv 0) (pa_cons (pv 2) (pa_cons pe_int pa_nil)))))
    (pss_cons (ps_set (i := 10) sc.nd rfl (Or.inl rfl) (call_ C__law_point (hr.mono (by decide)) (by rfl) (pa_cons (pv 1) (pa_cons (call_ C__law_point (hr.mono (by decide)) (by rfl) (pa_cons (pv 3) (pa_cons (pv 9) pa_nil))) pa_nil))))
    (pss_cons (ps_if (pt_cmpR op_isN (call_ C__law_place (hr.mono (by decide)) (by rfl) (pa_cons (pv 4) (pa_cons (pv 10) pa_nil))) pe_non (nomark _))
      (pss_one (ps_ret pe_bl))
      pss_nil)
    (pss_cons (ps_set (i := 11) sc.nd rfl (Or.inl rfl) (call_ C__law_place (hr.mono (by decide)) (by rfl) (pa_cons (pv 1) (pa_cons (call_ C__law_point (hr.mono (by decide)) (by rfl) (pa_cons (pv 4) (pa_cons (pv 9) pa_nil))) pa_nil))))
    (pss_one (ps_if (PW.pt (pw_or (pt_cmpR op_isN (pv 11) pe_non (nomark _)) (pw_or1 (pt_cmpR op_isN (call_ C__law_place (hr.mono (by decide)) (by rfl) (pa_cons (pv 3) (pa_cons (pv 11) pa_nil))) pe_non (nomark _)))))
      (pss_one (ps_ret pe_bl))
      pss_nil)))))))
    (pss_cons (ps_set (i := 6) sc.nd rfl (Or.inl rfl) pe_int)
    (pss_cons (ps_for PassesOwn.never rfl (pi_range1 rfl m_range (pa_cons (pv 2) pa_nil)) (pg_name (i := 7) sc.nd rfl (Or.inl rfl))
      (pss_cons (ps_set (i := 6) sc.nd rfl (Or.inl rfl) (pe_op op_mulW (pv 6) (pe_ix ix_tup (pe_ix ix_tup (pe_ix ix_tup (pv 4) pe_int (fun _ _ => rfl)) (pv 7) (fun _ _ => rfl)) (pv 7) (fun _ _ => rfl))))
    (pss_one (ps_if (pt_cmpR op_lt (pv 6) pe_int (nomark _))
      (pss_one (ps_ret pe_bl))
      pss_nil))))
    (pss_cons (ps_set (i := 8) sc.nd rfl (Or.inl rfl) pe_int)
    (pss_cons (ps_for PassesOwn.never rfl (pi_range1 rfl m_range (pa_cons (pv 2) pa_nil)) (pg_name (i := 7) sc.nd rfl (Or.inl rfl))
      (pss_one (ps_set (i := 8) sc.nd rfl (Or.inl rfl) (pe_op op_mulW (pe_op op_mulW (pv 8) (pe_ix ix_tup (pe_ix ix_tup (pe_ix ix_tup (pv 1) pe_int (fun _ _ => rfl)) (pv 7) (fun _ _ => rfl)) (pv 7) (fun _ _ => rfl))) (pe_ix ix_tup (pe_ix ix_tup (pe_ix ix_tup (pv 3) pe_int (fun _ _ => rfl)) (pv 7) (fun _ _ => rfl)) (pv 7) (fun _ _ => rfl))))))
    (pss_one (ps_ret (pe_and (pe_cmpR op_eq (pv 6) (pv 8) (nomark _)) (pe_and (callG hG C__law_map_right (hr.mono (by decide)) (by rfl) (pa_cons (pv 0) (pa_cons (pv 1) (pa_cons (pv 4) pa_nil)))) (pe_one (callG hG C__law_map_right (hr.mono (by decide)) (by rfl) (pa_cons (pv 0) (pa_cons (pv 1) (pa_cons (pv 3) pa_nil))))))))))))))))), ?_⟩
    have hB := gd.n
    refine ⟨.ref m, rfl, .int n, rfl, m, c, q, n, 3, rfl, hM, by omega, hn, by decide, by decide, fun H1 h B' st' b1 M1 nh hI gok => ?_⟩
    have gd' := gd_of gok hn (by decide)
    have hB' := gd'.n
    obtain ⟨kv0, hm0⟩ := hM.m_some
    have hG1 := hGr.but hm0 b1
    obtain ⟨osm, otri, odia⟩ := over_ok gd gd' hn
    refine ⟨.ref g, rfl, .ref h, rfl, g, h, B, st, B', st', rfl, hG1, hI, by omega, by omega, osm, otri, fun r T t H2 s2 hT lT R => ?_⟩
    have lB' : B'.length = B.length := by omega
    have hB2 : B.length ≤ 4 := by omega
    obtain ⟨tt, tsT, qT, f1, f2, f3, f4, f5⟩ := id hT
    have wT : ∀ r ∈ T, r.length = T.length := fun z hz => by
      obtain ⟨i, hi⟩ := List.getElem?_of_mem hz
      have il : i < qT.length := by
        rw [f3.1]
        exact (List.getElem?_eq_some_iff.mp hi).1
      exact (f3.2 i qT[i] z (List.getElem?_eq_getElem il) hi).2
    have R' : Red T.length T.length (mt (extI (tailsI (overI B st B' st')) (headsI (overI B st B' st')))) (mt (extI T t)) := by
      rw [lT]
      exact R
    obtain ⟨wr, triT, dT⟩ := wr_of f5 wT R'
    refine ⟨.ref r, rfl, r, T, t, rfl, hT, by omega, wr, fun H3 s3 => ⟨_, rfl, iteF ?_⟩⟩
    refine ⟨.ref r, rfl, r, _, 1, .ref tsT, rfl, rfl, (f1.same s3).t, atI_nat (j := 1) rfl, tsT, _, rfl, .inr (f4.same s3).1.t, .int n, rfl, rfl, _, rfl, iteF' (by rw [List.length_map, f5, lT, hB, decide_eq_true rfl]; rfl) ?_⟩
    have s23 := s2.trans s3
    have b3 : SameBut m H H3 := b1.trans (SameBut.of s23)
    have M3 := M1.same s23
    obtain ⟨kv3, hm3⟩ := M3.m_some
    have gsT : Gs T t := by
      have zd : ∀ i, i < T.length → dg T i ≤ 81 := fun i hi => by
        rw [dT i hi, odia i (by omega)]
        have e1 := gd.e i i
        have e2 := gd'.e i i
        have e3 : (dg B i * dg B' i).natAbs ≤ 9 * 9 := by
          rw [Int.natAbs_mul]
          exact Nat.mul_le_mul e1 e2
        omega
      have sm : ∀ x : Int, 0 ≤ x → x ≤ 81 → SmZ 20 x := fun x h0 h1 => Nat.lt_of_le_of_lt (show x.natAbs ≤ 81 by omega) (by decide)
      refine ⟨fun z hz x hx => ?_, fun x hx => ?_, wr.p, wT, f5, by omega⟩
      · obtain ⟨i, hi⟩ := List.getElem?_of_mem hz
        obtain ⟨j, hj⟩ := List.getElem?_of_mem hx
        have il := (List.getElem?_eq_some_iff.mp hi).1
        have jl := (List.getElem?_eq_some_iff.mp hj).1
        have lz := wT z hz
        have e : mt T i j = x := by
          unfold mt
          have e1 : T.getD i [] = z := by
            rw [List.getD_eq_getElem?_getD, hi]
            rfl
          rw [e1, List.getD_eq_getElem?_getD, hj]
          rfl
        rw [← e]
        have := zd i il
        have := wr.p i il
        rcases Nat.lt_trichotomy j i with hji | hji | hji
        · obtain ⟨a0, a1⟩ := wr.lo i j il hji
          exact sm _ a0 (by omega)
        · subst hji
          have e3 : mt T j j = dg T j := rfl
          exact sm _ (by omega) (by omega)
        · rw [wr.up i j hji (by omega)]
          exact sm 0 (by decide) (by decide)
      · obtain ⟨i, hi⟩ := List.getElem?_of_mem hx
        have il := (List.getElem?_eq_some_iff.mp hi).1
        have e : t.getD i 0 = x := by
          rw [List.getD_eq_getElem?_getD, hi]
          rfl
        obtain ⟨a0, a1⟩ := wr.s0 i (by omega)
        have := zd i (by omega)
        rw [← e]
        exact sm _ a0 (by omega)
    have hG3 := hG1.same s23
    have hI3 := hI.same s23
    have hT3 := hT.same s3
    refine ⟨3, rfl, by decide, by decide, for_range (lo := 0) (n := 3) (fun i σ H' => (∃ y5 y6 y7 y8 y9 y10 y11, σ = [some (.ref m), some (.ref g), some (.int n), some (.ref h), some (.ref r), y5, y6, y7, y8, y9, y10, y11]) ∧ SameBut m H3 H' ∧ MOk H' m c (q + 20 + 8 * i)) ⟨⟨_, _, _, _, _, _, _, rfl⟩, SameBut.refl _ _, M3⟩ ?_ ?_⟩
    · rintro i σ H4 hi ⟨⟨y5, y6, y7, y8, y9, y10, y11, rfl⟩, b4, M4⟩
      refine ⟨.ref m, rfl, .int n, rfl, m, c, _, n, 9, rfl, M4, by omega, by omega, by decide, by decide, fun H5 zr z b5 M5 rz lz bz => ?_⟩
      have b35 := b4.trans b5
      have hG5 := hG3.but hm3 b35
      have hI5 := hI3.but hm3 b35
      have hT5 := hT3.but hm3 b35
      have zz : ∀ x ∈ z, SmZ 4 x := fun x hx => by
        have := bz x hx
        exact Nat.lt_of_le_of_lt (show x.natAbs ≤ 9 by omega) (by decide)
      have lzB : z.length = B.length := by omega
      obtain ⟨in1, w, in2, in3⟩ := told_in gd gd' hn lT f5 wT R lzB
      refine ⟨.ref g, rfl, .ref h, rfl, .ref zr, rfl, h, zr, B', st', z, rfl, hI5, by omega, rz, by omega, fun p6 H6 s6 g6 => ?_⟩
      have l6 : (ptI B' st' z).length = B'.length := ptI_len gd'.g.l
      have z6 := ptI_sm gd'.g zz
      refine ⟨g, p6, B, st, ptI B' st' z, rfl, hG5.same s6, by omega, ⟨g6, by omega, fun x hx => smz_mono (z6 x hx) (by decide)⟩, by omega, fun p7 H7 s7 g7 => ?_⟩
      have l7 : (ptI B st (ptI B' st' z)).length = B.length := ptI_len gd.g.l
      have z7 := ptI_sm gd.g z6
      have s57 := s6.trans s7
      refine ⟨.ref r, rfl, .ref p7, rfl, ?_⟩
      unfold tNil
      refine place_call4 (hT5.same s57) gsT (by omega) ⟨g7, by omega, fun x hx => smz_mono (z7 x hx) (by decide)⟩ (by omega) (fun x hx => smz_mono (z7 x hx) (by decide)) fun x8 H8 s8 hx8 => ?_
      rw [place_unw T.length (by omega) (by rw [f5]; exact Nat.le_refl _)] at hx8
      obtain ⟨y8', hy8⟩ := Option.isSome_iff_exists.mp in1
      rw [hy8] at hx8
      obtain ⟨r8, rfl, _⟩ := hx8
      refine ⟨rfl, _, rfl, ?_⟩
      rw [decide_eq_false (show ¬ V.ref r8 = V.non from fun z => by cases z)]
      refine iteF ?_
      have s58 := s57.trans s8
      refine ⟨.ref g, rfl, .ref r, rfl, .ref zr, rfl, r, zr, T, t, z, rfl, hT5.same s58, by omega, rz.same s58, by omega, fun p9 H9 s9 g9 => ?_⟩
      have l9 : (ptI T t z).length = T.length := ptI_len f5
      have z9 := ptI_sm gsT zz
      have s59 := s58.trans s9
      refine place_call4 (hG5.same s59) gd.g hB2 ⟨g9, by omega, fun x hx => smz_mono (z9 x hx) (by decide)⟩ (by omega) (fun x hx => smz_mono (z9 x hx) (by decide)) fun x10 H10 s10 hx10 => ?_
      rw [place_unw B.length (by omega) (by rw [gd.g.l]; exact Nat.le_refl _), in2] at hx10
      obtain ⟨pw, rfl, rw10⟩ := hx10
      have s510 := s59.trans s10
      have lw := unwI_len _ _ in2
      have zw : ∀ x ∈ w, SmZ 170 x := fun x hx => smz_mono (unw_sm gd.g.b (fun r hr => by rw [gd.g.w r hr]; omega) gd.g.p (k := 50) (sub_sm (k := 49) (fun x hx => smz_mono (z9 x hx) (by decide)) fun x hx => smz_mono (gd.g.q x hx) (by decide)) _ w (Nat.le_refl _) in2 x hx) (by omega)
      refine ⟨.ref pw, rfl, rfl, _, rfl, ?_⟩
      rw [decide_eq_false (show ¬ V.ref pw = V.non from fun z => by cases z)]
      refine iteF ⟨.ref h, rfl, .ref pw, rfl, ?_⟩
      refine place_call4 (hI5.same s510) gd'.g (by omega) rw10 (by omega) zw fun x11 H11 s11 hx11 => ?_
      rw [place_unw B'.length (by omega) (by rw [gd'.g.l]; exact Nat.le_refl _)] at hx11
      obtain ⟨y11', hy11⟩ := Option.isSome_iff_exists.mp in3
      rw [hy11] at hx11
      obtain ⟨r11, rfl, _⟩ := hx11
      refine ⟨rfl, _, rfl, ?_⟩
      rw [decide_eq_false (show ¬ V.ref r11 = V.non from fun z => by cases z)]
      exact iteF ⟨⟨_, _, _, _, _, _, _, rfl⟩, b35.trans (SameBut.of (s510.trans s11)), ((M5.same s510).same s11).mono (by omega)⟩
    rintro σ H4 ⟨⟨y5, y6, y7, y8, y9, y10, y11, rfl⟩, b4, M4⟩
    have hG4 := hG3.but hm3 b4
    have hI4 := hI3.but hm3 b4
    have hT4 := hT3.but hm3 b4
    have sd : ∀ {X : List (List Int)} {x : List Int}, Gs X x → ∀ i, i < X.length → SmZ 20 (dg X i) := fun {X x} hX i hi => by
      have hr : X[i]? = some (X.getD i []) := by
        rw [List.getD_eq_getElem?_getD, List.getElem?_eq_getElem hi]
        rfl
      have hm := List.mem_of_getElem? hr
      exact hX.b _ hm _ (List.mem_of_getElem? (Vk.getD_at (xs := X.getD i []) (i := i) (by rw [hX.w _ hm]; exact hi)))
    obtain ⟨tt4, ts4, q4, f14, f24, f34, f44, f54⟩ := id hT4
    obtain ⟨tg, sg_, qg, a1, a2, a3, a4, a5⟩ := id hG4
    obtain ⟨th, sh, qh, c1, c2, c3, c4, c5⟩ := id hI4
    refine ⟨.int n, rfl, (n : Int), rfl, by omega, by omega, ?_⟩
    rw [Int.toNat_natCast]
    refine for_range (lo := 0) (n := n) (fun i σ H' => (∃ y5 y7 y8 y9 y10 y11, σ = [some (.ref m), some (.ref g), some (.int n), some (.ref h), some (.ref r), y5, some (.int (prodS (dg T) i)), y7, y8, y9, y10, y11]) ∧ Same H4 H') ⟨⟨_, _, _, _, _, _, rfl⟩, Same.refl _⟩ ?_ ?_
    · rintro i σ H5 hi ⟨⟨y5, y7, y8, y9, y10, y11, rfl⟩, s5⟩
      have ei : (0 + (i : Int)) = ((i : Nat) : Int) := by omega
      obtain ⟨p, hp, Rp, lr, hdi⟩ := row_at f34 (i := i) (by omega)
      have sp := prodS_sm (f := dg T) (k := 20) i fun j hj => sd gsT j (by omega)
      have pp := prodS_pos (f := dg T) (i + 1) fun j hj => wr.p j (by omega)
      refine ⟨.int (prodS (dg T) i), rfl, .ref r, rfl, r, _, 0, .ref tt4, rfl, rfl, (f14.same s5).t, atI_nat (j := 0) rfl, .int (0 + i), rfl, tt4, _, 0 + i, .ref p, rfl, rfl, (f24.same s5).t, atI_at ei (get_map hp), .int (0 + i), rfl, p, _, 0 + i, .int (dg T i), rfl, rfl, (Rp.same s5).1.t, atI_at ei (get_map hdi), prodS (dg T) i, dg T i, rfl, rfl, mulB (by omega) (by decide) sp (sd gsT i (by omega)) (by omega), ?_⟩
      have pp : 0 < prodS (dg T) i * dg T i := pp
      refine ⟨.int (prodS (dg T) i * dg T i), rfl, prodS (dg T) i * dg T i, 1, rfl, rfl, _, rfl, iteF' (decide_eq_false (by omega)) ?_⟩
      exact ⟨⟨_, _, _, _, _, _, rfl⟩, s5⟩
    rintro σ H5 ⟨⟨y5, y7, y8, y9, y10, y11, rfl⟩, s5⟩
    refine ⟨.int n, rfl, (n : Int), rfl, by omega, by omega, ?_⟩
    rw [Int.toNat_natCast]
    refine for_range (lo := 0) (n := n) (fun i σ H' => (∃ y5 y7 y9 y10 y11, σ = [some (.ref m), some (.ref g), some (.int n), some (.ref h), some (.ref r), y5, some (.int (prodS (dg T) n)), y7, some (.int (prodS (fun j => dg B j * dg B' j) i)), y9, y10, y11]) ∧ Same H4 H') ⟨⟨_, _, _, _, _, rfl⟩, s5⟩ ?_ ?_
    · rintro i σ H6 hi ⟨⟨y5, y7, y9, y10, y11, rfl⟩, s6⟩
      have ei : (0 + (i : Int)) = ((i : Nat) : Int) := by omega
      obtain ⟨p, hp, Rp, _, hdi⟩ := row_at a3 (i := i) (by omega)
      obtain ⟨p', hp', Rp', _, hdi'⟩ := row_at c3 (i := i) (by omega)
      have s1' := sd gd.g i (by omega)
      have s2' := sd gd'.g i (by omega)
      have sp := prodS_sm (f := fun j => dg B j * dg B' j) (k := 40) i fun j hj => smz_mul (sd gd.g j (by omega)) (sd gd'.g j (by omega))
      refine ⟨.int (prodS (fun j => dg B j * dg B' j) i), rfl, .ref g, rfl, g, _, 0, .ref tg, rfl, rfl, (a1.same s6).t, atI_nat (j := 0) rfl, .int (0 + i), rfl, tg, _, 0 + i, .ref p, rfl, rfl, (a2.same s6).t, atI_at ei (get_map hp), .int (0 + i), rfl, p, _, 0 + i, .int (dg B i), rfl, rfl, (Rp.same s6).1.t, atI_at ei (get_map hdi), _, dg B i, rfl, rfl, mulB (by omega) (by decide) sp s1' (by omega), ?_⟩
      refine ⟨.ref h, rfl, h, _, 0, .ref th, rfl, rfl, (c1.same s6).t, atI_nat (j := 0) rfl, .int (0 + i), rfl, th, _, 0 + i, .ref p', rfl, rfl, (c2.same s6).t, atI_at ei (get_map hp'), .int (0 + i), rfl, p', _, 0 + i, .int (dg B' i), rfl, rfl, (Rp'.same s6).1.t, atI_at ei (get_map hdi'), _, dg B' i, rfl, rfl, mulB (by omega) (by decide) (smz_mul sp s1') s2' (by omega), ?_⟩
      refine ⟨⟨y5, some (.int (0 + i)), y9, y10, y11, ?_⟩, s6⟩
      show _ = [some (.ref m), some (.ref g), some (.int n), some (.ref h), some (.ref r), y5, some (.int (prodS (dg T) n)), some (.int (0 + i)), some (.int (prodS (fun j => dg B j * dg B' j) i * (dg B i * dg B' i))), y9, y10, y11]
      rw [← Int.mul_assoc]
      rfl
    rintro σ H6 ⟨⟨y5, y7, y9, y10, y11, rfl⟩, s6⟩
    have ee : prodS (dg T) n = prodS (fun j => dg B j * dg B' j) n := prodS_congr n fun j hj => by rw [dT j (by omega), odia j (by omega)]
    refine ⟨.int (prodS (dg T) n), rfl, .int (prodS (fun j => dg B j * dg B' j) n), rfl, rfl, _, rfl, ?_⟩
    rw [ee, decide_eq_true rfl]
    refine iteT ⟨.ref m, rfl, .ref g, rfl, .ref r, rfl, g, r, .ref m, B, st, T, t, rfl, hG4.same s6, hT4.same s6, lT, gd.g, gsT, gd.t, fun H7 s7 => ⟨_, rfl, iteT ⟨.ref m, rfl, .ref g, rfl, .ref h, rfl, g, h, .ref m, B, st, B', st', rfl, (hG4.same s6).same s7, (hI4.same s6).same s7, lB', gd.g, gd'.g, gd.t, fun H8 s8 => ?_⟩⟩⟩
    have s48 := (s6.trans s7).trans s8
    exact k _ (b3.trans (b4.trans (SameBut.of s48))) ((M4.same s48).mono (by omega))
end
end K13
namespace K13
open PySem PySem.Spec PyProof.Rows L2 Vk
/-- a form on a grid has the form's value at the point -/
theorem fon_val {B : List (List Int)} {s cs one : List Int} {c : Int} (hl : s.length = B.length) (hw : ∀ r ∈ B, r.length = B.length) (hc : cs.length = B.length) (ho : one.length = B.length) {h : Int} {tl : List Int}
    (e : putI c cs (gforms B s) B.length B.length = h :: tl) : h + dot tl one = c + dot cs (ptI B s one) := by
  have gl : (gforms B s).length = B.length := gforms_len hl
  have wide := gforms_wide (s := s) hw
  have vP : ∀ k, k ≤ B.length → (h :: tl).getD k 0 = (if k = 0 then c else 0) + S B.length fun j => cs.getD j 0 * ((gforms B s).getD j []).getD k 0 := fun k hk => by
    rw [← e]
    exact putI_val wide k hk _ (by rw [gl]; exact Nat.le_refl _)
  have lP : (h :: tl).length = B.length + 1 := by
    rw [← e]
    exact putI_len wide _ (by rw [gl]; exact Nat.le_refl _)
  have lt : tl.length = B.length := by
    rw [List.length_cons] at lP
    omega
  have v0 : h = c + S B.length fun j => cs.getD j 0 * s.getD j 0 := by
    have v := vP 0 (by omega)
    rw [if_pos rfl] at v
    rw [S_congr (g := fun j => cs.getD j 0 * s.getD j 0) B.length fun j hj => by rw [gforms_at hl hj]; rfl] at v
    exact v
  have v1 : ∀ k, k < B.length → tl.getD k 0 = S B.length fun j => cs.getD j 0 * mt B j k := fun k hk => by
    have v := vP (k + 1) (by omega)
    rw [if_neg (by omega), Int.zero_add] at v
    rw [S_congr (g := fun j => cs.getD j 0 * mt B j k) B.length fun j hj => by rw [gforms_at hl hj]; rfl] at v
    exact v
  rw [dot_S tl one B.length (by rw [lt]; exact Nat.min_le_left _ _), dot_S cs (ptI B s one) B.length (by rw [hc]; exact Nat.min_le_left _ _), v0]
  rw [S_congr (f := fun j => cs.getD j 0 * (ptI B s one).getD j 0) (g := fun j => cs.getD j 0 * s.getD j 0 + S B.length fun k => cs.getD j 0 * (mt B j k * one.getD k 0)) B.length fun j hj => by
    show cs.getD j 0 * (ptI B s one).getD j 0 = cs.getD j 0 * s.getD j 0 + S B.length fun k => cs.getD j 0 * (mt B j k * one.getD k 0)
    rw [ptI_at hl hw hj, Int.mul_add, S_mul]
    rfl]
  rw [S_add, S_swap]
  rw [S_congr (f := fun j => tl.getD j 0 * one.getD j 0) (g := fun k => S B.length fun j => cs.getD j 0 * (mt B j k * one.getD k 0)) B.length fun k hk => by
    show tl.getD k 0 * one.getD k 0 = S B.length fun j => cs.getD j 0 * (mt B j k * one.getD k 0)
    rw [v1 k hk, ← S_mul_r]
    exact S_congr _ fun j hj => Int.mul_assoc _ _ _]
  omega
/-- the entries of a form on a drawn grid are small -/
theorem fon_sm {n : Nat} {B : List (List Int)} {s cs : List Int} {c : Int} (gd : Gd n B s) (hn : n ≤ 4) (hc : cs.length = B.length) (zc : c.natAbs ≤ 40) (zs : ∀ j, (cs.getD j 0).natAbs ≤ 40) {l : List Int}
    (e : putI c cs (gforms B s) B.length B.length = l) : ∀ x ∈ l, SmZ 12 x := fun x hx => by
  have gl : (gforms B s).length = B.length := gforms_len gd.g.l
  have wide := gforms_wide (s := s) gd.g.w
  obtain ⟨k, hk⟩ := List.getElem?_of_mem hx
  have lP : l.length = B.length + 1 := by
    rw [← e]
    exact putI_len wide _ (by rw [gl]; exact Nat.le_refl _)
  have kl := (List.getElem?_eq_some_iff.mp hk).1
  have v : l.getD k 0 = (if k = 0 then c else 0) + S B.length fun j => cs.getD j 0 * ((gforms B s).getD j []).getD k 0 := by
    rw [← e]
    exact putI_val wide k (by omega) _ (by rw [gl]; exact Nat.le_refl _)
  have ex : l.getD k 0 = x := by
    rw [List.getD_eq_getElem?_getD, hk]
    rfl
  have sb := S_abs (f := fun j => cs.getD j 0 * ((gforms B s).getD j []).getD k 0) (M := 40 * 9) B.length fun j hj => by
    show (cs.getD j 0 * ((gforms B s).getD j []).getD k 0).natAbs ≤ 40 * 9
    rw [Int.natAbs_mul, gforms_at gd.g.l hj]
    refine Nat.mul_le_mul (zs j) ?_
    cases k with
    | zero => exact gd.s j
    | succ k => exact gd.e j k
  have hb : B.length ≤ 4 := by rw [gd.n]; exact hn
  have s4 : B.length * (40 * 9) ≤ 4 * (40 * 9) := Nat.mul_le_mul_right _ hb
  rw [← ex, v]
  refine Nat.lt_of_le_of_lt (?_ : _ ≤ 1480) (by decide)
  split <;> omega
/-- the unit rows -/
def unitR (n i : Nat) : List Int := (List.range n).map fun j => if i = j then 1 else 0
theorem unitR_len (n i : Nat) : (unitR n i).length = n := by
  unfold unitR
  rw [List.length_map, List.length_range]
theorem unitR_sm (n i : Nat) : ∀ x ∈ unitR n i, SmZ 4 x := fun x hx => by
  obtain ⟨j, _, rfl⟩ := List.mem_map.mp hx
  split <;> decide
/-- the points that are tried -/
def lotR (n : Nat) (y : List Int) : List (List Int) := (List.replicate n 0 :: (List.range n).map (unitR n)) ++ [y]
theorem lotR_len (n : Nat) (y : List Int) : (lotR n y).length = n + 2 := by
  unfold lotR
  rw [List.length_append, List.length_cons, List.length_map, List.length_range]
  rfl
theorem lotR_all {n : Nat} {y : List Int} (hy : y.length = n) (sy : ∀ x ∈ y, SmZ 5 x) : ∀ r ∈ lotR n y, r.length = n ∧ ∀ x ∈ r, SmZ 5 x := fun r hr => by
  unfold lotR at hr
  rcases List.mem_append.mp hr with h | h
  · rcases List.mem_cons.mp h with rfl | h
    · refine ⟨List.length_replicate .., fun x hx => ?_⟩
      obtain ⟨_, rfl⟩ := List.mem_replicate.mp hx
      decide
    · obtain ⟨i, _, rfl⟩ := List.mem_map.mp h
      exact ⟨unitR_len n i, fun x hx => smz_mono (unitR_sm n i x hx) (by decide)⟩
  · obtain rfl := List.mem_singleton.mp h
    exact ⟨hy, sy⟩
end K13
namespace K13
open PySem PySem.Spec PyProof.Rows L2 Vk
abbrev s_pright : Stmt := topS 32
theorem sc_pright : FnScope ["m", "grid_so", "size_so", "t", "told", "form", "lot", "one", "y", "near", "c", "i", "j"] ["m", "grid_so", "size_so"] (defScope s_pright) := ⟨rfl, rfl, rfl, by decide +kernel, rfl, by decide +kernel, by decide +kernel⟩
theorem opv_dp {K : PySem.W.Frag} {H : Hp} {x : V} {u : Option (List Int)} (h : OpV H x u) : Dp K H x (dOpt u) := by
  cases u with
  | none =>
    obtain rfl : x = .non := h
    exact .non
  | some r =>
    obtain ⟨p, rfl, hp⟩ := h
    exact dp_row hp.1
theorem opv_fit {H : Hp} {x : V} {u : Option (List Int)} (h : OpV H x u) (hu : ∀ y, u = some y → y.length ≤ 9) : FitN 1 9 (dOpt u) := by
  cases u with
  | none => exact FitN.non
  | some r =>
    obtain ⟨p, rfl, hp⟩ := h
    exact fit_ints (k := 0) 9 r hp.2.2 (hu r rfl)
theorem opv_same {H H' : Hp} {x : V} {u : Option (List Int)} (h : OpV H x u) (s : Same H H') : OpV H' x u := by
  cases u with
  | none => exact h
  | some r =>
    obtain ⟨p, e, hp⟩ := h
    exact ⟨p, e, hp.same s⟩
theorem pin_call4 {H : Hp} {Q : VK} {E : XK} {g a : Addr} {B : List (List Int)} {s t : List Int} (hG : Gr H g B s) (hs : Gs B s) (h4 : B.length ≤ 4) (ha : Row H a t) (lt : t.length = B.length) (zt : ∀ x ∈ t, SmZ 170 x)
    (k : ∀ x H1, Same H H1 → OpV H1 x (unwI B (subL t s) B.length) → Q x H1) : spPin [.ref g, .ref a] H Q E :=
  pin_call hG ha lt hs.n hs.p (fun i y hi e x hx => by
    have hn := hs.n
    exact smz_mono (unw_sm hs.b (fun r hr => by rw [hs.w r hr]; exact hn) hs.p (sub_sm zt fun x hx => smz_mono (hs.q x hx) (by decide)) i y hi e x hx) (by omega)) k
theorem call_isiK {X : Cx} {K : PySem.W.Frag} (h : X.K = K) : CallR X (.builtin "isinstance") (rIsi K) := by
  subst h
  exact call_isi
def spPright : Sp := fun vs H Q _ => ∃ (m c g : Addr) (q n : Nat) (B : List (List Int)) (s : List Int), vs = [.ref m, .ref g, .int n] ∧ MOk H m c q ∧ q ≤ 5000 ∧ n ≤ 4 ∧ Gr H g B s ∧ Gd n B s ∧ ∀ H', SameBut m H H' → MOk H' m c (q + 60) → Q (.bl true) H'
section
variable {P : Program} {w : World} {K : PySem.W.Frag} {mg : Str → Option Value} {base : Heap}
theorem ok_pright {f : Addr} {fd : FuncData} (F : Fun K "_law_points_right" "_law_points_right" s_pright f fd) (C__law_drawn : Cal P w K mg base 3 "_law_drawn" ["m", "size_so", "most"] spDrawn) (C__law_point : Cal P w K mg base 1 "_law_point" ["grid_so", "y"] spPat) (C_point_at : Cal P w K mg base 3 "point_at" ["grid", "y"] spPat) (C_place_in : Cal P w K mg base 3 "place_in" ["grid", "t"] spPin) (C__law_like : CalG P w K mg base 1 "_law_like" ["got", "due"] (spLike K)) (C__law_place : Cal P w K mg base 1 "_law_place" ["grid_so", "t"] spPlace) (C_form_on : Cal P w K mg base 3 "form_on" ["grid", "form"] spFon) (C__law_value : Cal P w K mg base 1 "_law_value" ["form", "t"] spFval)
    (m_isinstance : mg "isinstance" = none) (m_tuple : mg "tuple" = none) (m_int : mg "int" = none) (m_bool : mg "bool" = none) (m_len : mg "len" = none) (m_range : mg "range" = none) : FnG P w K mg base 4 f fd ["m", "grid_so", "size_so"] spPright := by
  have sc := sc_pright
  refine okG F sc (fun vs H Q E h => ?_) (fun cdv A outer s H vs Q E hG0 hr h => ?_)
  · obtain ⟨m, c, g, q, n, B, s, rfl, _⟩ := h
    rfl
  · obtain ⟨m, c, g, q, n, B, st, rfl, hM, hq, hn, hGr, gd, k⟩ := h
    have hG : Quiet (cxOf CX0 P w K mg base ["m", "grid_so", "size_so", "t", "told", "form", "lot", "one", "y", "near", "c", "i", "j"] "_law_points_right" (defScope s_pright) f cdv A outer s H E).nox.A := hG0.deeper _
    refine ⟨_, (pss_cons (ps_par (i := 8) (j := 9) (by rfl) sc.nd rfl rfl (by decide) rfl rfl (pa_cons (call_ C__law_drawn (hr.mono (by decide)) (by rfl) (pa_cons (pv 0) (pa_cons (pv 2) (pa_cons pe_int pa_nil)))) (pa_cons (call_ C__law_drawn (hr.mono (by decide)) (by rfl) (pa_cons (pv 0) (pa_cons (pv 2) (pa_cons pe_int pa_nil)))) pa_nil)) (by rfl))
    (pss_cons (ps_set (i := 3) sc.nd rfl (Or.inl rfl) (call_ C__law_point (hr.mono (by decide)) (by rfl) (pa_cons (pv 1) (pa_cons (pv 8) pa_nil))))
    (pss_cons (ps_set (i := 4) sc.nd rfl (Or.inl rfl) (pe_lst (pa_cons (call_ C_point_at (hr.mono (by decide)) (by rfl) (pa_cons (pv 1) (pa_cons (pv 8) pa_nil))) (pa_cons (call_ C_place_in (hr.mono (by decide)) (by rfl) (pa_cons (pv 1) (pa_cons (pv 3) pa_nil))) (pa_cons (call_ C_place_in (hr.mono (by decide)) (by rfl) (pa_cons (pv 1) (pa_cons (pv 9) pa_nil))) pa_nil)))))
    (pss_cons (ps_if (pt_not (pt_val (callG hG C__law_like (hr.mono (by decide)) (by rfl) (pa_cons (pv 4) (pa_cons (pe_lst (pa_cons (pv 3) (pa_cons (pv 8) (pa_cons (call_ C__law_place (hr.mono (by decide)) (by rfl) (pa_cons (pv 1) (pa_cons (pv 9) pa_nil))) pa_nil)))) pa_nil)))))
      (pss_one (ps_ret pe_bl))
      pss_nil)
    (pss_cons (ps_set (i := 5) sc.nd rfl (Or.inl rfl) (call_ C__law_drawn (hr.mono (by decide)) (by rfl) (pa_cons (pv 0) (pa_cons (pe_op op_add (pv 2) pe_int) (pa_cons pe_int pa_nil)))))
    (pss_cons (ps_set (i := 4) sc.nd rfl (Or.inl rfl) (call_ C_form_on (hr.mono (by decide)) (by rfl) (pa_cons (pv 1) (pa_cons (pv 5) pa_nil))))
    (pss_cons (ps_if (PW.pt (pw_or (pt_not (pt_val (pe_callB call_isi (by rfl) m_isinstance (by decide +kernel) (pa_cons (pv 4) (pa_cons (pe_bltn (v := .ty "tuple") (by rfl) m_tuple (by decide +kernel) rfl) pa_nil))))) (pw_or1 (pt_cmpR op_ne (pe_callB call_len_seq (by rfl) m_len (by decide +kernel) (pa_cons (pv 4) pa_nil)) (pe_op op_add (pv 2) pe_int) (nomark _)))))
      (pss_one (ps_ret pe_bl))
      pss_nil)
    (pss_cons (ps_if (pt_cmpR (op_neD hr.units) (pe_lc (own := [("c", 10)]) (g := gName 10) (by rfl) sc.nd (pi_tup (pv 4)) (blkOk_by (own := [("c", 10)]) (N := ["m", "grid_so", "size_so", "t", "told", "form", "lot", "one", "y", "near", "c", "i", "j"]) (sc := defScope s_pright) (by decide +kernel)) (fun _ _ _ _ _ => pg_name (i := 10) sc.nd rfl (Or.inl rfl)) (fun _ _ _ _ _ => (pts_one (PW.pt (pw_or (pt_not (pt_val (pe_callB (call_isiK (K := K) rfl) (by rfl) m_isinstance (by decide +kernel) (pa_cons (pv 10) (pa_cons (pe_bltn (v := .ty "int") (by rfl) m_int (by decide +kernel) rfl) pa_nil))))) (pw_or1 (pt_val (pe_callB (call_isiK (K := K) rfl) (by rfl) m_isinstance (by decide +kernel) (pa_cons (pv 10) (pa_cons (pe_bltn (v := .ty "bool") (by rfl) m_bool (by decide +kernel) rfl) pa_nil))))))))) (fun _ _ _ _ _ => (pv 10))) (pe_lst pa_nil) (nomark _))
      (pss_one (ps_ret pe_bl))
      pss_nil)
    (pss_cons (ps_set (i := 6) sc.nd rfl (Or.inl rfl) (pe_op op_cat (pe_lst (pa_cons (pe_op (op_tmsK (K := K) rfl) (pe_tup (pa_cons pe_int pa_nil)) (pv 2)) pa_nil)) (pe_lc (own := [("i", 11)]) (g := gName 11) (by rfl) sc.nd (pi_range1 rfl m_range (pa_cons (pv 2) pa_nil)) (blkOk_by (own := [("i", 11)]) (N := ["m", "grid_so", "size_so", "t", "told", "form", "lot", "one", "y", "near", "c", "i", "j"]) (sc := defScope s_pright) (by decide +kernel)) (fun _ _ _ _ _ => pg_name (i := 11) sc.nd rfl (Or.inr rfl)) (fun _ _ _ _ _ => pts_nil) (fun _ _ _ _ _ => (pe_callTy (call_tuple_ofK (K := K) rfl) (by rfl) m_tuple (by decide +kernel) (pa_cons (pe_lc (own := [("j", 12)]) (g := gName 12) (by rfl) sc.nd (pi_range1 rfl m_range (pa_cons (pv 2) pa_nil)) (blkOk_by (own := [("j", 12)]) (N := ["m", "grid_so", "size_so", "t", "told", "form", "lot", "one", "y", "near", "c", "i", "j"]) (sc := { kind := .function, names := [(".0", .local), ("i", .cell), ("tuple", .globalImplicit), ("range", .globalImplicit), ("size_so", .cell)], isGenerator := false, isCoroutine := false }) (by decide +kernel)) (fun _ _ _ _ _ => pg_name (i := 12) sc.nd rfl (Or.inl rfl)) (fun _ _ _ _ _ => pts_nil) (fun _ _ _ _ _ => (pe_ifExp (pt_cmpR op_eq (pv 11) (pv 12) (nomark _)) pe_int pe_int))) pa_nil))))))
    (pss_cons (ps_for PassesOwn.never rfl (pi_list (pe_op op_cat (pv 6) (pe_lst (pa_cons (pv 8) pa_nil)))) (pg_name (i := 7) sc.nd rfl (Or.inl rfl))
      (pss_one (ps_if (pt_cmpR op_ne (call_ C__law_value (hr.mono (by decide)) (by rfl) (pa_cons (pv 4) (pa_cons (pv 7) pa_nil))) (call_ C__law_value (hr.mono (by decide)) (by rfl) (pa_cons (pv 5) (pa_cons (call_ C__law_point (hr.mono (by decide)) (by rfl) (pa_cons (pv 1) (pa_cons (pv 7) pa_nil))) pa_nil))) (nomark _))
      (pss_one (ps_ret pe_bl))
      pss_nil)))
    (pss_one (ps_ret pe_bl)))))))))))), ?_⟩
    have hB := gd.n
    have h4 : B.length ≤ 4 := by omega
    obtain ⟨kv0, hm0⟩ := hM.m_some
    refine ⟨.ref m, rfl, .int n, rfl, m, c, q, n, 30, rfl, hM, by omega, by omega, by decide, by decide, fun H1 yr y b1 M1 ry ly zy => ?_⟩
    obtain ⟨kv1, hm1⟩ := M1.m_some
    refine ⟨.ref m, rfl, .int n, rfl, m, c, _, n, 60, rfl, M1, by omega, by omega, by decide, by decide, fun H2 nr ne b2 M2 rn ln zn => ?_⟩
    have ry2 := ry.but hm1 b2
    have b12 := b1.trans b2
    have hG2 := hGr.but hm0 b12
    have zy5 : ∀ x ∈ y, SmZ 5 x := fun x hx => by
      have := zy x hx
      exact Nat.lt_of_le_of_lt (show x.natAbs ≤ 30 by omega) (by decide)
    have zn6 : ∀ x ∈ ne, SmZ 6 x := fun x hx => by
      have := zn x hx
      exact Nat.lt_of_le_of_lt (show x.natAbs ≤ 60 by omega) (by decide)
    refine ⟨_, _, rfl, .ref g, rfl, .ref yr, rfl, g, yr, B, st, y, rfl, hG2, by omega, ry2, by omega, fun tr H3 s3 g3 => ?_⟩
    have lt3 : (ptI B st y).length = B.length := ptI_len gd.g.l
    have zt3 := ptI_sm gd.g zy5
    have rt3 : Row H3 tr (ptI B st y) := ⟨g3, by omega, fun x hx => smz_mono (zt3 x hx) (by decide)⟩
    refine ⟨.ref g, rfl, .ref yr, rfl, g, yr, B, st, y, rfl, hG2.same s3, by omega, ry2.same s3, by omega, fun p1 H4 s4 g4 => ?_⟩
    have s24 := s3.trans s4
    refine ⟨.ref g, rfl, .ref tr, rfl, ?_⟩
    unfold tNil
    refine pin_call4 (hG2.same s24) gd.g h4 (rt3.same s4) lt3 (fun x hx => smz_mono (zt3 x hx) (by decide)) fun x2 H5 s5 hx2 => ?_
    have s25 := s24.trans s5
    have e2 : unwI B (subL (ptI B st y) st) B.length = some y := by
      rw [some_unw (y := at_ y) gd.t (fun r hr => by rw [subL_get (by omega) (by rw [gd.g.l]; exact hr), ptI_at gd.g.l gd.g.w hr]; omega) B.length (Nat.le_refl _)]
      congr 1
      apply List.ext_getElem?
      intro i
      rw [List.getElem?_map]
      by_cases hi : i < B.length
      · rw [List.getElem?_range hi, Vk.getD_at (xs := y) (i := i) (by omega)]
        rfl
      · rw [List.getElem?_eq_none (by rw [List.length_range]; omega), List.getElem?_eq_none (by omega)]
        rfl
    rw [e2] at hx2
    refine ⟨.ref g, rfl, .ref nr, rfl, ?_⟩
    refine pin_call4 (hG2.same s25) gd.g h4 (rn.same s25) (by omega) (fun x hx => smz_mono (zn6 x hx) (by decide)) fun x3 H6 s6 hx3 => ?_
    have s26 := s25.trans s6
    refine ⟨by show 3 ≤ sizeLine; decide, fun L nL => ?_⟩
    have s7 : Same H6 (upd H6 L (.lst [.ref p1, x2, x3])) := same_new nL
    have g7 : upd H6 L (.lst [.ref p1, x2, x3]) L = some (.lst [.ref p1, x2, x3]) := upd_same
    generalize upd H6 L (.lst [.ref p1, x2, x3]) = H7 at s7 g7 ⊢
    have s27 := s26.trans s7
    refine ⟨.ref L, rfl, .ref tr, rfl, .ref yr, rfl, .ref g, rfl, .ref nr, rfl, ?_⟩
    refine place_call4 (hG2.same s27) gd.g h4 (rn.same s27) (by omega) (fun x hx => smz_mono (zn6 x hx) (by decide)) fun x4 H8 s8 hx4 => ?_
    rw [place_unw B.length (by omega) (by rw [gd.g.l]; exact Nat.le_refl _)] at hx4
    have s28 := s27.trans s8
    refine ⟨by show 3 ≤ sizeLine; decide, fun L2 nL2 => ?_⟩
    have s9 : Same H8 (upd H8 L2 (.lst [.ref tr, .ref yr, x4])) := same_new nL2
    have g9 : upd H8 L2 (.lst [.ref tr, .ref yr, x4]) L2 = some (.lst [.ref tr, .ref yr, x4]) := upd_same
    generalize upd H8 L2 (.lst [.ref tr, .ref yr, x4]) = H9 at s9 g9 ⊢
    have s29 := s28.trans s9
    have s89 := s8.trans s9
    have s49 := ((s5.trans s6).trans s7).trans s89
    generalize hu : unwI B (subL ne st) B.length = u at hx3 hx4
    have lu : ∀ z, u = some z → z.length ≤ 9 := fun z hz => by
      rw [hz] at hu
      have := unwI_len _ _ hu
      omega
    refine ⟨.ref L, .ref L2, .list [dRow (ptI B st y), dRow y, dOpt u], rfl, .lst (SqL.of (s89 _ _ g7)) (.cons (dp_row (g4.same s49)) (.cons (opv_dp (u := some y) (opv_same hx2 ((s6.trans s7).trans s89))) (.cons (opv_dp (opv_same hx3 (s7.trans s89))) .nil))), .lst (SqL.of g9) (.cons (dp_row (rt3.same (s4.trans s49)).1) (.cons (dp_row (ry2.same s29).1) (.cons (opv_dp (opv_same hx4 s9)) .nil))), ?_, _, rfl, iteF ?_⟩
    · exact FitN.mono (FitN.list (k := 1) (n := 30) (.cons (n := 30) (fit_ints (k := 0) 9 _ rt3.2.2 (by omega)) (.cons (n := 20) (fit_ints (k := 0) 9 _ ry.2.2 (by omega)) (.cons (n := 10) (opv_fit hx3 lu) (.nil (n := 0)) (by decide)) (by decide)) (by decide))) (by decide) (by decide)
    have b9 : SameBut m H H9 := b12.trans (SameBut.of s29)
    have M9 := M2.same s29
    have ry9 := ry2.same s29
    clear s24 s25 s26 s27 s28 s89 s49 s9 s8 s7 s6 s5 s4 s3 g9 g7 g4 hx2 hx3 hx4
    obtain ⟨kv9, hm9⟩ := M9.m_some
    refine ⟨.ref m, rfl, .int n, rfl, n, 1, rfl, rfl, m, c, _, n + 1, 40, rfl, M9, by omega, by omega, by decide, by decide, fun HA fr fm bA MA rf lf zf => ?_⟩
    have bA' := b9.trans bA
    have hGA := hGr.but hm0 bA'
    have ryA := ry9.but hm9 bA
    obtain ⟨c0, cs, rfl⟩ : ∃ c0 cs, fm = c0 :: cs := by
      cases fm with
      | nil => cases lf
      | cons a l => exact ⟨a, l, rfl⟩
    have lcs : cs.length = B.length := by
      rw [List.length_cons] at lf
      omega
    have zcs : ∀ j, (cs.getD j 0).natAbs ≤ 40 := fun j => by
      by_cases hj : j < cs.length
      · have := zf _ (List.mem_cons_of_mem _ (List.mem_of_getElem? (Vk.getD_at hj)))
        omega
      · rw [List.getD_eq_getElem?_getD, List.getElem?_eq_none (by omega)]
        decide
    have zc0 : c0.natAbs ≤ 40 := by
      have := zf c0 (List.mem_cons_self ..)
      omega
    refine ⟨.ref g, rfl, .ref fr, rfl, g, fr, B, st, c0, cs, rfl, hGA, by omega, rf, lcs, fun r1 HB sB gB => ?_⟩
    obtain ⟨h0, tl, eP⟩ : ∃ h0 tl, putI c0 cs (gforms B st) B.length B.length = h0 :: tl := by
      have lP := putI_len (c := c0) (cs := cs) (gforms_wide (s := st) gd.g.w) B.length (by rw [gforms_len gd.g.l]; exact Nat.le_refl _)
      cases hP : putI c0 cs (gforms B st) B.length B.length with
      | nil =>
        rw [hP] at lP
        cases lP
      | cons a l => exact ⟨a, l, rfl⟩
    have zP := fon_sm gd hn lcs zc0 zcs eP
    have ltl : tl.length = B.length := by
      have lP := putI_len (c := c0) (cs := cs) (gforms_wide (s := st) gd.g.w) B.length (by rw [gforms_len gd.g.l]; exact Nat.le_refl _)
      rw [eP, List.length_cons] at lP
      omega
    rw [eP] at gB
    have r1B : Row HB r1 (h0 :: tl) := ⟨gB, by rw [List.length_cons]; omega, fun x hx => smz_mono (zP x hx) (by decide)⟩
    have rfB := rf.same sB
    have hGB := hGA.same sB
    have ryB := ryA.same sB
    have or1 : Oky HB (.ref r1) "tuple" := .tup gB
    refine ⟨.ref r1, rfl, .ref r1, .ty "tuple", _, _, _, rfl, .ty _, or1.ty, kit_ty or1.kTup, _, rfl, iteF ?_⟩
    refine ⟨.ref r1, rfl, r1, _, rfl, .inr gB.t, .int n, rfl, n, 1, rfl, rfl, rfl, _, rfl, iteF' (by rw [List.length_map, List.length_cons, ltl, hB]; exact congrArg (! ·) (decide_eq_true rfl)) ?_⟩
    refine ⟨.ref r1, rfl, r1, rfl, ⟨_, gB.t⟩, fun D nD => ?_⟩
    refine lc_fl (walk_tup (K := K) (a := r1) (xs := (h0 :: tl).map V.int)) (fun _ => false) (fun _ => .non) (by rw [List.length_map, List.length_cons]; exact small (by omega)) nD (fun H' s => (gB.same s).t) ?_ ?_
    · rintro j x HC HC' Qy Nx hj sC ⟨rfl, hx⟩ _ hnk
      obtain ⟨v, hv, rfl⟩ := map_get hx
      have oi : Oky HC' (.int v) "int" := .int v
      exact ⟨rfl, .int v, rfl, .int v, .ty "int", _, _, _, rfl, .ty _, oi.ty, kit_ty oi.kInt, _, rfl, iteF ⟨.int v, rfl, .int v, .ty "bool", _, _, _, rfl, .ty _, oi.ty, kit_ty oi.kBool, _, rfl, iteF (hnk rfl _ (Same.refl _))⟩⟩
    intro HC sC gC
    have eC : ((List.range ((h0 :: tl).map V.int).length).filter fun _ => false).map (fun _ => V.non) = [] := by simp
    rw [eC] at gC
    refine ⟨by show 0 ≤ sizeLine; decide, fun Z nZ => ?_⟩
    have sD : Same HC (upd HC Z (.lst [])) := same_new nZ
    have gD : upd HC Z (.lst []) Z = some (.lst []) := upd_same
    have gC := sD _ _ gC
    generalize upd HC Z (.lst []) = HD at sD gD gC ⊢
    refine ⟨.list [], .list [], .lst (SqL.of gC) .nil, .lst (SqL.of gD) .nil, by decide, by decide, _, rfl, iteF' (by rfl) ?_⟩
    have sBD := sC.trans sD
    refine ⟨by show 1 ≤ sizeLine; decide, fun U nU => ?_⟩
    have sU : Same HD (upd HD U (.tup [.int 0])) := same_new nU
    have gU : Tp (upd HD U (.tup [.int 0])) U [.int 0] := upd_same
    generalize upd HD U (.tup [.int 0]) = HE at sU gU ⊢
    refine ⟨.int n, rfl, ?_⟩
    refine tms_tp (k := n) rfl gU (by simp) (by omega) (by decide) fun zr HF sF gF => ?_
    rw [show (List.replicate n [V.int 0]).flatten = (List.replicate n (0 : Int)).map V.int by simp] at gF
    refine ⟨by show 1 ≤ sizeLine; decide, fun L1 nL1 => ?_⟩
    have sG : Same HF (upd HF L1 (.lst [.ref zr])) := same_new nL1
    have gG : upd HF L1 (.lst [.ref zr]) L1 = some (.lst [.ref zr]) := upd_same
    generalize upd HF L1 (.lst [.ref zr]) = HG at sG gG ⊢
    have gF := gF.same sG
    have sBG := ((sBD.trans sU).trans sF).trans sG
    refine ⟨.int n, rfl, (n : Int), rfl, by omega, by omega, fun D2 nD2 => ?_⟩
    rw [Int.toNat_natCast]
    refine lc_objs (walk_range (lo := 0) (n := n)) (fun i => .tup ((unitR n i).map V.int)) (small (by omega)) nD2 (fun H' s => True.intro) ?_ ?_
    · rintro i x H8 H8' Qy hi s8 ⟨rfl, rfl⟩ hq
      refine ⟨rfl, .int n, rfl, (n : Int), rfl, by omega, by omega, fun D3 nD3 => ?_⟩
      rw [Int.toNat_natCast]
      refine lc_to (walk_range (lo := 0) (n := n)) ((unitR n i).map V.int) (by rw [List.length_map, unitR_len]) (small (by omega)) nD3 (fun H' s => True.intro) ?_ ?_
      · rintro j x v9 H9 H9' Qy hv9 hj s9 ⟨rfl, rfl⟩ hq
        obtain ⟨u9, hu9, rfl⟩ := map_get hv9
        have eu : u9 = if i = j then 1 else 0 := by
          unfold unitR at hu9
          rw [List.getElem?_map, List.getElem?_range hj] at hu9
          exact (Option.some.inj hu9).symm
        refine ⟨rfl, .int (0 + i), rfl, .int (0 + j), rfl, rfl, _, rfl, ite2 (fun z => ?_) (fun z => ?_)⟩
        · have z := V.int.inj (of_decide_eq_true z)
          rw [if_pos (by omega)] at eu
          rw [eu] at hq
          exact hq _ (Same.refl _)
        · have z : ¬ (0 + (i : Int) = 0 + j) := fun y => z (decide_eq_true (by rw [y]))
          rw [if_neg (by omega)] at eu
          rw [eu] at hq
          exact hq _ (Same.refl _)
      · intro H9 s9 d9
        exact ⟨D3, _, rfl, .inl ⟨SqL.of d9, fun T nT => hq T _ (s9.trans (same_new nT)) (s9.free nT) upd_same⟩⟩
    intro HH us sH dH lus _ _ obu
    refine ⟨L1, D2, _, _, rfl, rfl, sH _ _ gG, dH, ?_, fun L3 nL3 => ?_⟩
    · rw [List.length_map, lus]
      exact Nat.le_of_lt (small (by show 1 + n ≤ 100; omega))
    have sI : Same HH (upd HH L3 (.lst ([.ref zr] ++ us.map V.ref))) := same_new nL3
    have gI : upd HH L3 (.lst ([.ref zr] ++ us.map V.ref)) L3 = some (.lst ([.ref zr] ++ us.map V.ref)) := upd_same
    generalize upd HH L3 (.lst ([.ref zr] ++ us.map V.ref)) = HI at sI gI ⊢
    refine ⟨.ref L3, rfl, .ref yr, rfl, by show 1 ≤ sizeLine; decide, fun L4 nL4 => ?_⟩
    have sJ : Same HI (upd HI L4 (.lst [.ref yr])) := same_new nL4
    have gJ : upd HI L4 (.lst [.ref yr]) L4 = some (.lst [.ref yr]) := upd_same
    generalize upd HI L4 (.lst [.ref yr]) = HJ at sJ gJ ⊢
    refine ⟨L3, L4, _, _, rfl, rfl, sJ _ _ gI, gJ, ?_, fun A nA => ?_⟩
    · rw [List.length_append, List.length_map, lus]
      exact Nat.le_of_lt (small (by show 1 + n + 1 ≤ 100; omega))
    have sK : Same HJ (upd HJ A (.lst ([.ref zr] ++ us.map V.ref ++ [.ref yr]))) := same_new nA
    have gK : upd HJ A (.lst ([.ref zr] ++ us.map V.ref ++ [.ref yr])) A = some (.lst ((zr :: us ++ [yr]).map V.ref)) := by
      rw [upd_same]
      simp
    generalize upd HJ A (.lst ([.ref zr] ++ us.map V.ref ++ [.ref yr])) = HK at sK gK ⊢
    have sHK := (sI.trans sJ).trans sK
    have sGK := sH.trans sHK
    have sBK := sBG.trans sGK
    have W : Rw HK (zr :: us ++ [yr]) (lotR n y) := by
      refine Rw.snoc (ss := List.replicate n 0 :: (List.range n).map (unitR n)) ⟨by rw [List.length_cons, List.length_cons, lus, List.length_map, List.length_range], fun i p r e1 e2 => ?_⟩ (ryB.same sBK).1
      cases i with
      | zero =>
        obtain rfl := Option.some.inj e1
        obtain rfl := Option.some.inj e2
        exact gF.same sGK
      | succ i =>
        have e1 : us[i]? = some p := e1
        have e2 : ((List.range n).map (unitR n))[i]? = some r := e2
        have hi : i < n := by
          have := (List.getElem?_eq_some_iff.mp e1).1
          omega
        rw [List.getElem?_map, List.getElem?_range hi] at e2
        obtain rfl := Option.some.inj e2
        exact sHK _ _ (obu i p e1)
    have lall : ((zr :: us ++ [yr]).map V.ref).length = n + 2 := by
      rw [List.length_map, W.1, lotR_len]
    have rall := lotR_all (n := n) (by omega) zy5
    refine ⟨A, rfl, ⟨_, SqL.of gK⟩, ?_⟩
    refine for_it (walk_list (K := K) (a := A) (xs := (zr :: us ++ [yr]).map V.ref)) (fun i σ H' => (∃ y6 y7 y10 y11 y12, σ = [some (.ref m), some (.ref g), some (.int n), some (.ref tr), some (.ref r1), some (.ref fr), y6, y7, some (.ref yr), some (.ref nr), y10, y11, y12]) ∧ Same HK H') ⟨⟨_, _, _, _, _, rfl⟩, Same.refl _⟩ (fun i σ H' _ p => SqL.of (p.2 _ _ gK)) ?_ ?_
    · rintro i x σ H3 H3' hi ⟨⟨y6, y7, y10, y11, y12, rfl⟩, s3⟩ ⟨rfl, hx⟩
      obtain ⟨p, hp, rfl⟩ := map_get hx
      rw [lall] at hi
      have hr' : (lotR n y)[i]? = some ((lotR n y)[i]'(by rw [lotR_len]; exact hi)) := List.getElem?_eq_getElem _
      generalize (lotR n y)[i]'(by rw [lotR_len]; exact hi) = one at hr'
      obtain ⟨l1, z1⟩ := rall one (List.mem_of_getElem? hr')
      have Tpp := (W.2 i p one hp hr').same s3
      have Rp : Row H3' p one := ⟨Tpp, by omega, fun x hx => smz_mono (z1 x hx) (by decide)⟩
      have s0 := sBK.trans s3
      refine ⟨.ref r1, rfl, .ref p, rfl, r1, p, h0, tl, one, rfl, r1B.same s0, Rp, by omega, fun H4 s4 => ?_⟩
      have s04 := s0.trans s4
      refine ⟨.ref fr, rfl, .ref g, rfl, .ref p, rfl, g, p, B, st, one, rfl, hGB.same s04, by omega, Rp.same s4, by omega, fun p5 H5 s5 g5 => ?_⟩
      have l5 : (ptI B st one).length = B.length := ptI_len gd.g.l
      have z5 := ptI_sm gd.g z1
      refine ⟨fr, p5, c0, cs, _, rfl, (rfB.same s04).same s5, ⟨g5, by omega, fun x hx => smz_mono (z5 x hx) (by decide)⟩, by omega, fun H6 s6 => ?_⟩
      rw [fon_val gd.g.l gd.g.w lcs (by omega) eP]
      exact ⟨rfl, _, rfl, iteF' (by rw [decide_eq_true rfl]; rfl) ⟨⟨_, _, _, _, _, rfl⟩, s3.trans ((s4.trans s5).trans s6)⟩⟩
    rintro σ H3 ⟨⟨y6, y7, y10, y11, y12, rfl⟩, s3⟩
    have sA3 := sB.trans (sBK.trans s3)
    exact k _ (bA'.trans (SameBut.of sA3)) ((MA.same sA3).mono (by omega))
end
end K13
namespace K13
open PySem PySem.Spec PyProof.Rows L2 Vk
abbrev s_law : Stmt := topS 35
theorem sc_law : FnScope ["script", "turn", "none", "told", "m", "size_so", "grid_so", "count", "due", "row"] ["script"] (defScope s_law) := ⟨rfl, rfl, rfl, by decide +kernel, rfl, by decide +kernel, by decide +kernel⟩
def spLaw (K : PySem.W.Frag) : Sp := fun vs H Q _ => ∃ (a : Addr) (ns : List Int), vs = [.ref a] ∧ SqL K H a (ns.map V.int) ∧ ns.length ≤ 63 ∧ ∀ H', Q (.bl true) H'
theorem gs_nil : Gs [] [] := ⟨fun r h => (by cases h), fun x h => (by cases h), fun i h => (by cases h), fun r h => (by cases h), rfl, by decide⟩
theorem red_nil {n : Nat} (h : n = 0) {a b : Mt} : Tri n a := by
  subst h
  exact ⟨fun i hi => by omega, fun i j h1 h2 => by omega⟩
section
variable {P : Program} {w : World} {K : PySem.W.Frag} {mg : Str → Option Value} {base : Heap}
theorem ok_law {f : Addr} {fd : FuncData} (F : Fun K "law" "law" s_law f fd) (C__law_begun : Cal P w K mg base 1 "_law_begun" ["script", "k_so"] (spBegun K)) (C__law_draw : Cal P w K mg base 1 "_law_draw" ["m", "bound"] spDraw) (C__law_of : Cal P w K mg base 2 "_law_of" ["m", "some"] spOf) (C__law_grid : Cal P w K mg base 2 "_law_grid" ["m", "size_so", "most"] spGrid) (C__law_points_right : CalG P w K mg base 4 "_law_points_right" ["m", "grid_so", "size_so"] spPright) (C__law_within_right : CalG P w K mg base 6 "_law_within_right" ["m", "grid_so", "size_so"] spWright)
    (C__law_like : CalG P w K mg base 1 "_law_like" ["got", "due"] (spLike K)) (C_leading : Cal P w K mg base 1 "leading" ["grid", "count"] spLeading) (C_point_at : Cal P w K mg base 3 "point_at" ["grid", "y"] spPat) (C_place_in : Cal P w K mg base 3 "place_in" ["grid", "t"] spPin) (C_form_on : Cal P w K mg base 3 "form_on" ["grid", "form"] spFon) (C_grid_within : Cal P w K mg base 4 "grid_within" ["grid", "inner"] spGwithin) (C_place_map : Cal P w K mg base 4 "place_map" ["grid", "inner"] spPmap)
    (m_range : mg "range" = none) (m_tuple : mg "tuple" = none) : FnG P w K mg base 7 f fd ["script"] (spLaw K) := by
  have sc := sc_law
  refine okG F sc (fun vs H Q E h => ?_) (fun cdv A outer s H vs Q E hG0 hr h => ?_)
  · obtain ⟨a, ns, rfl, _⟩ := h
    rfl
  · obtain ⟨a0, ns, rfl, hS, hl, k⟩ := h
    have hG := hG0.deeper (envOfC "law" (defScope s_law) s.heap.objs.size f cdv)
    refine ⟨_, (pss_cons (ps_for PassesOwn.never rfl (pi_range1 rfl m_range (pa_cons pe_int pa_nil)) (pg_name (i := 1) sc.nd rfl (Or.inl rfl))
      (pss_cons (ps_set (i := 4) sc.nd rfl (Or.inl rfl) (call_ C__law_begun (hr.mono (by decide)) (by rfl) (pa_cons (pv 0) (pa_cons (pv 1) pa_nil))))
    (pss_one (ps_for PassesOwn.never rfl (pi_list (pe_lst (pa_cons pe_int (pa_cons pe_int (pa_cons pe_int (pa_cons (call_ C__law_draw (hr.mono (by decide)) (by rfl) (pa_cons (pv 4) (pa_cons pe_int pa_nil))) pa_nil)))))) (pg_name (i := 5) sc.nd rfl (Or.inl rfl))
      (pss_cons (ps_set (i := 6) sc.nd rfl (Or.inl rfl) (call_ C__law_grid (hr.mono (by decide)) (by rfl) (pa_cons (pv 4) (pa_cons (pv 5) (pa_cons (call_ C__law_of (hr.mono (by decide)) (by rfl) (pa_cons (pv 4) (pa_cons (pe_lst (pa_cons pe_int (pa_cons pe_int (pa_cons pe_int pa_nil)))) pa_nil))) pa_nil)))))
    (pss_cons (ps_if (PW.pt (pw_or (pt_not (pt_val (callG hG C__law_points_right (hr.mono (by decide)) (by rfl) (pa_cons (pv 4) (pa_cons (pv 6) (pa_cons (pv 5) pa_nil)))))) (pw_or1 (pt_not (pt_val (callG hG C__law_within_right (hr.mono (by decide)) (by rfl) (pa_cons (pv 4) (pa_cons (pv 6) (pa_cons (pv 5) pa_nil)))))))))
      (pss_one (ps_ret pe_bl))
      pss_nil)
    (pss_cons (ps_set (i := 7) sc.nd rfl (Or.inr rfl) (call_ C__law_draw (hr.mono (by decide)) (by rfl) (pa_cons (pv 4) (pa_cons (pe_op op_add (pv 5) pe_int) pa_nil))))
    (pss_cons (ps_set (i := 8) sc.nd rfl (Or.inl rfl) (pe_tup (pa_cons (pe_callTy call_tuple_of (by rfl) m_tuple (by decide +kernel) (pa_cons (pe_lc (own := [("row", 9)]) (g := gName 9) (by rfl) sc.nd (pi_tup (pe_slice sl_tupA (pe_ix ix_tup (pv 6) pe_int (fun _ _ => rfl)) po_none (po_some (pv 7)))) (blkOk_by (own := [("row", 9)]) (N := ["script", "turn", "none", "told", "m", "size_so", "grid_so", "count", "due", "row"]) (sc := defScope s_law) (by decide +kernel)) (fun _ _ _ _ _ => pg_name (i := 9) sc.nd rfl (Or.inl rfl)) (fun _ _ _ _ _ => pts_nil) (fun _ _ _ _ _ => (pe_slice (sl_tupAK (K := K) rfl) (pv 9) po_none (po_some (pv 7))))) pa_nil)) (pa_cons (pe_slice sl_tupA (pe_ix ix_tup (pv 6) pe_int (fun _ _ => rfl)) po_none (po_some (pv 7))) pa_nil))))
    (pss_one (ps_if (pt_not (pt_val (callG hG C__law_like (hr.mono (by decide)) (by rfl) (pa_cons (call_ C_leading (hr.mono (by decide)) (by rfl) (pa_cons (pv 6) (pa_cons (pv 7) pa_nil))) (pa_cons (pv 8) pa_nil)))))
      (pss_one (ps_ret pe_bl))
      pss_nil))))))))))
    (pss_cons (ps_set (i := 2) sc.nd rfl (Or.inl rfl) (pe_tup (pa_cons (pe_tup pa_nil) (pa_cons (pe_tup pa_nil) pa_nil))))
    (pss_cons (ps_set (i := 3) sc.nd rfl (Or.inl rfl) (pe_lst (pa_cons (call_ C_point_at (hr.mono (by decide)) (by rfl) (pa_cons (pv 2) (pa_cons (pe_tup pa_nil) pa_nil))) (pa_cons (call_ C_place_in (hr.mono (by decide)) (by rfl) (pa_cons (pv 2) (pa_cons (pe_tup pa_nil) pa_nil))) (pa_cons (call_ C_form_on (hr.mono (by decide)) (by rfl) (pa_cons (pv 2) (pa_cons (pe_tup (pa_cons pe_int pa_nil)) pa_nil))) (pa_cons (call_ C_grid_within (hr.mono (by decide)) (by rfl) (pa_cons (pv 2) (pa_cons (pv 2) pa_nil))) pa_nil))))))
    (pss_cons (ps_set (i := 3) sc.nd rfl (Or.inl rfl) (pe_op op_cat (pv 3) (pe_lst (pa_cons (call_ C_leading (hr.mono (by decide)) (by rfl) (pa_cons (pv 2) (pa_cons pe_int pa_nil))) (pa_cons (call_ C_place_map (hr.mono (by decide)) (by rfl) (pa_cons (pv 2) (pa_cons (pv 2) pa_nil))) pa_nil)))))
    (pss_one (ps_ret (callG hG C__law_like (hr.mono (by decide)) (by rfl) (pa_cons (pv 3) (pa_cons (pe_lst (pa_cons (pe_tup pa_nil) (pa_cons (pe_tup pa_nil) (pa_cons (pe_tup (pa_cons pe_int pa_nil)) (pa_cons (pv 2) (pa_cons (pv 2) (pa_cons (pe_tup (pa_cons (pe_tup pa_nil) (pa_cons (pe_tup pa_nil) pa_nil))) pa_nil))))))) pa_nil))))))))), ?_⟩
    refine ⟨3, rfl, by decide, by decide, for_range (lo := 0) (n := 3) (fun i σ H' => (∃ y1 y2 y3 y4 y5 y6 y7 y8 y9, σ = [some (.ref a0), y1, y2, y3, y4, y5, y6, y7, y8, y9]) ∧ SqL K H' a0 (ns.map V.int)) ⟨⟨none, none, none, none, none, none, none, none, none, rfl⟩, hS⟩ ?_ ?_⟩
    · rintro i σ H0 hi ⟨⟨y1, y2, y3, y4, y5, y6, y7, y8, y9, rfl⟩, hS0⟩
      refine ⟨.ref a0, rfl, .int (0 + i), rfl, a0, 0 + i, ns, rfl, hS0, hl, by omega, by omega, fun H1 m cc s1 nm M1 => ?_⟩
      refine ⟨.ref m, rfl, m, cc, 0, 5, rfl, M1, by decide, by decide, by decide, fun H2 v b2 M2 v0 v1 => ?_⟩
      refine ⟨by show 4 ≤ sizeLine; decide, fun L nL => ?_⟩
      have s3 : Same H2 (upd H2 L (.lst [.int 1, .int 2, .int 3, .int v])) := same_new nL
      have g3 : upd H2 L (.lst [.int 1, .int 2, .int 3, .int v]) L = some (.lst [.int 1, .int 2, .int 3, .int v]) := upd_same
      obtain ⟨kv2, hm2⟩ := M2.m_some
      have Lm : L ≠ m := Ne.symm (ne_of_none hm2 nL)
      generalize upd H2 L (.lst [.int 1, .int 2, .int 3, .int v]) = H3 at s3 g3 ⊢
      have M3 := M2.same s3
      have b13 := b2.trans (SameBut.of s3)
      refine ⟨L, rfl, ⟨_, SqL.of g3⟩, ?_⟩
      refine for_it (walk_list (K := K) (a := L) (xs := [.int 1, .int 2, .int 3, .int v])) (fun j σ H' => (∃ y2 y3 y5 y6 y7 y8 y9, σ = [some (.ref a0), some (.int (0 + i)), y2, y3, some (.ref m), y5, y6, y7, y8, y9]) ∧ SameBut m H3 H' ∧ MOk H' m cc (1 + 150 * j)) ⟨⟨_, _, _, _, _, _, _, rfl⟩, SameBut.refl _ _, M3⟩ (fun j σ H' _ p => SqL.of (p.2.1 _ _ Lm g3)) ?_ ?_
      · rintro j x σ H4 H4' hj ⟨⟨y2, y3, y5, y6, y7, y8, y9, rfl⟩, b4, M4⟩ ⟨rfl, hx⟩
        have hj : j < 4 := hj
        obtain ⟨n, hn, rfl⟩ : ∃ n : Nat, n ≤ 4 ∧ x = .int n := by
          match j, hj, hx with
          | 0, _, hx => exact ⟨1, by decide, (Option.some.inj hx).symm⟩
          | 1, _, hx => exact ⟨2, by decide, (Option.some.inj hx).symm⟩
          | 2, _, hx => exact ⟨3, by decide, (Option.some.inj hx).symm⟩
          | 3, _, hx => exact ⟨v.toNat, by omega, by rw [← Option.some.inj hx, Int.toNat_of_nonneg v0]⟩
        clear hx
        refine ⟨.ref m, rfl, .int n, rfl, .ref m, rfl, by show 3 ≤ sizeLine; decide, fun L2 nL2 => ?_⟩
        have s5 : Same H4' (upd H4' L2 (.lst [.int 2, .int 4, .int 9])) := same_new nL2
        have g5 : upd H4' L2 (.lst [.int 2, .int 4, .int 9]) L2 = some (.lst [.int 2, .int 4, .int 9]) := upd_same
        generalize upd H4' L2 (.lst [.int 2, .int 4, .int 9]) = H5 at s5 g5 ⊢
        refine ⟨m, cc, L2, _, [.int 2, .int 4, .int 9], rfl, M4.same s5, by omega, g5, by decide, by decide, fun H6 x6 b6 M6 hx6 => ?_⟩
        obtain ⟨most, e6, m1, m9⟩ : ∃ most : Int, x6 = .int most ∧ 1 ≤ most ∧ most ≤ 9 := by
          rcases List.mem_cons.mp hx6 with rfl | h
          · exact ⟨2, rfl, by decide, by decide⟩
          rcases List.mem_cons.mp h with rfl | h
          · exact ⟨4, rfl, by decide, by decide⟩
          rcases List.mem_cons.mp h with rfl | h
          · exact ⟨9, rfl, by decide, by decide⟩
          cases h
        subst e6
        refine ⟨m, cc, _, n, most, rfl, M6, by omega, hn, m1, by omega, fun H7 g B s b7 M7 ng hI gok => ?_⟩
        have gd := gd_of gok hn m9
        have hB := gd.n
        refine ⟨.ref m, rfl, .ref g, rfl, .int n, rfl, m, cc, g, _, n, B, s, rfl, M7, by omega, hn, hI, gd, fun H8 b8 M8 => ⟨_, rfl, iteF ?_⟩⟩
        obtain ⟨kv7, hm7⟩ := M7.m_some
        have hI8 := hI.but hm7 b8
        refine ⟨.ref m, rfl, .ref g, rfl, .int n, rfl, m, cc, g, _, n, B, s, rfl, M8, by omega, hn, hI8, gd, fun H9 b9 M9 => ⟨_, rfl, iteF ?_⟩⟩
        obtain ⟨kv8, hm8⟩ := M8.m_some
        have hI9 := hI8.but hm8 b9
        refine ⟨.ref m, rfl, .int n, rfl, n, 1, rfl, rfl, m, cc, _, (n : Int) + 1, rfl, M9, by omega, by omega, Nat.lt_of_le_of_lt (show ((n : Int) + 1).natAbs ≤ 5 by omega) (by decide), fun H10 cv b10 M10 c0 c1 => ?_⟩
        obtain ⟨cnt, rfl⟩ : ∃ cnt : Nat, cv = cnt := ⟨cv.toNat, by omega⟩
        have hcn : cnt ≤ B.length := by omega
        obtain ⟨kv9, hm9⟩ := M9.m_some
        have hI10 := hI9.but hm9 b10
        obtain ⟨tb, ts, ps, h1, h2, hR, h4, h5⟩ := id hI10
        refine ⟨.ref g, rfl, g, _, 0, .ref tb, rfl, rfl, h1.t, atI_nat (j := 0) rfl, .int cnt, rfl, cnt, rfl, ?_⟩
        refine slice_tp h2 fun r1 H11 s11 g11 => ?_
        rw [cut_to, ← List.map_take] at g11
        have lp : ((ps.take cnt).map V.ref).length = cnt := by
          rw [List.length_map, List.length_take, hR.1]
          omega
        refine ⟨r1, rfl, ⟨_, g11.t⟩, fun D nD => ?_⟩
        refine lc_tps (walk_tup (K := K) (a := r1) (xs := (ps.take cnt).map V.ref)) ((B.take cnt).map (List.take cnt)) (by rw [lp, List.length_map, List.length_take]; omega) (by rw [lp]; exact small (by omega)) nD (fun H' s => (g11.same s).t) ?_ ?_
        · rintro i x y Ha Ha' Qy hy hi sa ⟨rfl, hx⟩ hq
          obtain ⟨p, hp, rfl⟩ := map_get hx
          obtain ⟨r, hr', rfl⟩ := map_get hy
          have hin : i < cnt := by omega
          rw [List.getElem?_take_of_lt hin] at hp hr'
          obtain ⟨Rp, _⟩ := hR.2 i p r hp hr'
          refine ⟨rfl, .ref p, rfl, .int cnt, rfl, cnt, rfl, ?_⟩
          refine slice_tp ((Rp.same s11).same sa).1 fun r2 Hb sb gb => ?_
          rw [cut_to, ← List.map_take] at gb
          exact hq r2 Hb sb gb
        intro H12 us s12 d12 W12
        refine ⟨D, _, rfl, .inl ⟨SqL.of d12, fun T nT => ?_⟩⟩
        have s13 : Same H12 (upd H12 T (.tup (us.map V.ref))) := same_new nT
        have g13 : Tp (upd H12 T (.tup (us.map V.ref))) T (us.map V.ref) := upd_same
        generalize upd H12 T (.tup (us.map V.ref)) = H13 at s13 g13 ⊢
        have s103 := (s11.trans s12).trans s13
        refine ⟨.ref g, rfl, g, _, 1, .ref ts, rfl, rfl, (h1.same s103).t, atI_nat (j := 1) rfl, .int cnt, rfl, cnt, rfl, ?_⟩
        refine slice_tp (h4.same s103).1 fun r4 H14 s14 g14 => ?_
        rw [cut_to, ← List.map_take] at g14
        refine ⟨by show 2 ≤ sizeLine; decide, fun p np => ?_⟩
        have s15 : Same H14 (upd H14 p (.tup [.ref T, .ref r4])) := same_new np
        have g15 : Tp (upd H14 p (.tup [.ref T, .ref r4])) p [.ref T, .ref r4] := upd_same
        generalize upd H14 p (.tup [.ref T, .ref r4]) = H15 at s15 g15 ⊢
        have s105 := (s103.trans s14).trans s15
        refine ⟨.ref g, rfl, .int cnt, rfl, g, cnt, B, s, rfl, hI10.same s105, by omega, hcn, fun r tt ty qs H16 s16 a1 a2 a3 a4 => ?_⟩
        have s356 := (s14.trans s15).trans s16
        have rowsD : ∀ (ks : List Addr), Rw H16 ks ((B.take cnt).map (List.take cnt)) → DpAll K H16 (ks.map V.ref) (((B.take cnt).map (List.take cnt)).map dRow) := fun ks hk => dp_all ks _ (by rw [hk.1, List.length_map (f := dRow)]) fun i k d e1 e2 => by
          obtain ⟨z, hz, rfl⟩ := map_get e2
          exact dp_row (hk.2 i k z e1 hz)
        refine ⟨.ref p, rfl, .ref r, .ref p, .tuple [.tuple (((B.take cnt).map (List.take cnt)).map dRow), dRow (s.take cnt)], rfl, .tup a1.t (.cons (.tup a2.t (rowsD qs a3)) (.cons (dp_row a4) .nil)), .tup (g15.same s16).t (.cons (.tup (g13.same s356).t (rowsD us (W12.same (s13.trans s356)))) (.cons (dp_row (g14.same (s15.trans s16))) .nil)), ?_, _, rfl, iteF ?_⟩
        · have fr : ∀ d ∈ ((B.take cnt).map (List.take cnt)).map dRow, FitN 1 9 d := fun d hd => by
            obtain ⟨z, hz, rfl⟩ := List.mem_map.mp hd
            obtain ⟨z0, hz0, rfl⟩ := List.mem_map.mp hz
            have hzB := List.mem_of_mem_take hz0
            exact fit_ints (k := 0) 9 _ (fun x hx => smz_mono (gd.g.b z0 hzB x (List.mem_of_mem_take hx)) (by decide)) (by rw [List.length_take, gd.g.w z0 hzB]; omega)
          have f1 : FitN 2 90 (.tuple (((B.take cnt).map (List.take cnt)).map dRow)) := .tup (fit_all (k := 1) (a := 9) 9 _ fr (by rw [List.length_map, List.length_map, List.length_take]; omega))
          have f2 : FitN 2 9 (dRow (s.take cnt)) := fit_ints (k := 1) 9 _ (fun x hx => smz_mono (gd.g.q x (List.mem_of_mem_take hx)) (by decide)) (by rw [List.length_take]; omega)
          exact FitN.mono (.tup (.cons (n := 200) f1 (.cons (n := 20) (b := 0) f2 .nil (by decide)) (by decide))) (by decide) (by decide)
        · have bE : SameBut m H4' H16 := (SameBut.of s5).trans (b6.trans (b7.trans (b8.trans (b9.trans (b10.trans (SameBut.of (s105.trans s16)))))))
          exact ⟨⟨_, _, _, _, _, _, _, rfl⟩, b4.trans bE, ((M10.same s105).same s16).mono (by omega)⟩
      · rintro σ H4 ⟨⟨y2, y3, y5, y6, y7, y8, y9, rfl⟩, b4, M4⟩
        exact ⟨⟨_, _, _, _, _, _, _, _, _, rfl⟩, sql_same hS0 (sm_but nm s1 (b13.trans b4))⟩
    · rintro σ H0 ⟨⟨y1, y2, y3, y4, y5, y6, y7, y8, y9, rfl⟩, hS0⟩
      clear hS hS0
      refine ⟨by show 0 ≤ sizeLine; decide, fun e1 ne1 => ?_⟩
      have se1 : Same H0 (upd H0 e1 (.tup [])) := same_new ne1
      have ge1 : upd H0 e1 (.tup []) e1 = some (.tup []) := upd_same
      generalize upd H0 e1 (.tup []) = H1 at se1 ge1 ⊢
      refine ⟨by show 0 ≤ sizeLine; decide, fun e2 ne2 => ?_⟩
      have se2 : Same H1 (upd H1 e2 (.tup [])) := same_new ne2
      have ge2 : upd H1 e2 (.tup []) e2 = some (.tup []) := upd_same
      generalize upd H1 e2 (.tup []) = H2 at se2 ge2 ⊢
      refine ⟨by show 2 ≤ sizeLine; decide, fun N nN => ?_⟩
      have sN : Same H2 (upd H2 N (.tup [.ref e1, .ref e2])) := same_new nN
      have gN : upd H2 N (.tup [.ref e1, .ref e2]) N = some (.tup [.ref e1, .ref e2]) := upd_same
      generalize upd H2 N (.tup [.ref e1, .ref e2]) = H3 at sN gN ⊢
      have rn : ∀ {H : Hp} {a : Addr}, H a = some (.tup []) → Row H a [] := fun h => ⟨h, by decide, fun x hx => by cases hx⟩
      have gr : Gr H3 N [] [] := ⟨e1, e2, [], gN, ((se2.trans sN) _ _ ge1 : _), ⟨rfl, fun i p r e1 _ => by cases e1⟩, rn (sN _ _ ge2), rfl⟩
      refine ⟨.ref N, rfl, ?_⟩
      refine ⟨by show 0 ≤ sizeLine; decide, fun a1 na1 => ?_⟩
      have sa1 : Same H3 (upd H3 a1 (.tup [])) := same_new na1
      have ga1 : upd H3 a1 (.tup []) a1 = some (.tup []) := upd_same
      generalize upd H3 a1 (.tup []) = H4 at sa1 ga1 ⊢
      refine ⟨N, a1, [], [], [], rfl, gr.same sa1, by decide, rn ga1, rfl, fun p1 H5 s5 g5 => ?_⟩
      have g5 : Tp H5 p1 [] := g5
      refine ⟨.ref N, rfl, ?_⟩
      refine ⟨by show 0 ≤ sizeLine; decide, fun a2 na2 => ?_⟩
      have sa2 : Same H5 (upd H5 a2 (.tup [])) := same_new na2
      have ga2 : upd H5 a2 (.tup []) a2 = some (.tup []) := upd_same
      generalize upd H5 a2 (.tup []) = H6 at sa2 ga2 ⊢
      have s36 := (sa1.trans s5).trans sa2
      unfold tNil
      refine pin_call4 (gr.same s36) gs_nil (by decide) (rn ga2) rfl (fun x hx => by cases hx) fun x2 H7 s7 h7 => ?_
      have h7 : OpV H7 x2 (some []) := h7
      have s37 := s36.trans s7
      refine ⟨.ref N, rfl, ?_⟩
      refine ⟨by show 1 ≤ sizeLine; decide, fun a3 na3 => ?_⟩
      have sa3 : Same H7 (upd H7 a3 (.tup [.int 4])) := same_new na3
      have ga3 : upd H7 a3 (.tup [.int 4]) a3 = some (.tup [.int 4]) := upd_same
      generalize upd H7 a3 (.tup [.int 4]) = H8 at sa3 ga3 ⊢
      have s38 := s37.trans sa3
      refine ⟨N, a3, [], [], 4, [], rfl, gr.same s38, by decide, ⟨ga3, by decide, fun x hx => ?_⟩, rfl, fun p3 H9 s9 g9 => ?_⟩
      · obtain rfl := List.mem_singleton.mp hx
        decide
      have g9 : Tp H9 p3 ([4].map V.int) := g9
      have s39 := s38.trans s9
      refine ⟨.ref N, rfl, .ref N, rfl, N, N, [], [], [], [], rfl, gr.same s39, gr.same s39, rfl, by decide, fun r hr => (by cases hr), ⟨fun i hi => (by cases hi), fun i j h1 h2 => absurd h2 (Nat.not_lt_zero _)⟩, fun p4 T tv H10 s10 gT lT R => ?_⟩
      obtain rfl := List.eq_nil_of_length_eq_zero lT
      have s310 := s39.trans s10
      refine ⟨by show 4 ≤ sizeLine; decide, fun L1 nL1 => ?_⟩
      have sL1 : Same H10 (upd H10 L1 (.lst [.ref p1, x2, .ref p3, .ref p4])) := same_new nL1
      have gL1 : upd H10 L1 (.lst [.ref p1, x2, .ref p3, .ref p4]) L1 = some (.lst [.ref p1, x2, .ref p3, .ref p4]) := upd_same
      generalize upd H10 L1 (.lst [.ref p1, x2, .ref p3, .ref p4]) = H11 at sL1 gL1 ⊢
      have s311 := s310.trans sL1
      refine ⟨.ref L1, rfl, .ref N, rfl, N, 0, [], [], rfl, gr.same s311, by decide, by decide, fun p5 tt ty qs H12 s12 b1 b2 b3 b4 => ?_⟩
      have s312 := s311.trans s12
      refine ⟨.ref N, rfl, .ref N, rfl, ?_⟩
      refine pmap_call (gr.same s312) (gr.same s312) rfl gs_nil gs_nil fun x6 H13 s13 h13 => ?_
      refine ⟨by show 2 ≤ sizeLine; decide, fun L2 nL2 => ?_⟩
      have sL2 : Same H13 (upd H13 L2 (.lst [.ref p5, x6])) := same_new nL2
      have gL2 : upd H13 L2 (.lst [.ref p5, x6]) L2 = some (.lst [.ref p5, x6]) := upd_same
      generalize upd H13 L2 (.lst [.ref p5, x6]) = H14 at sL2 gL2 ⊢
      have s1114 := (s12.trans s13).trans sL2
      refine ⟨L1, L2, _, _, rfl, rfl, s1114 _ _ gL1, gL2, by show 4 + 2 ≤ sizeLine; decide, fun L3 nL3 => ?_⟩
      have s15 : Same H14 (upd H14 L3 (.lst ([.ref p1, x2, .ref p3, .ref p4] ++ [.ref p5, x6]))) := same_new nL3
      have g15 : upd H14 L3 (.lst ([.ref p1, x2, .ref p3, .ref p4] ++ [.ref p5, x6])) L3 = some (.lst [.ref p1, x2, .ref p3, .ref p4, .ref p5, x6]) := upd_same
      generalize upd H14 L3 (.lst ([.ref p1, x2, .ref p3, .ref p4] ++ [.ref p5, x6])) = H15 at s15 g15 ⊢
      refine ⟨.ref L3, rfl, ?_⟩
      refine ⟨by show 0 ≤ sizeLine; decide, fun c1 nc1 => ?_⟩
      have sc1 : Same H15 (upd H15 c1 (.tup [])) := same_new nc1
      have gc1 : upd H15 c1 (.tup []) c1 = some (.tup []) := upd_same
      generalize upd H15 c1 (.tup []) = H16 at sc1 gc1 ⊢
      refine ⟨by show 0 ≤ sizeLine; decide, fun c2 nc2 => ?_⟩
      have sc2 : Same H16 (upd H16 c2 (.tup [])) := same_new nc2
      have gc2 : upd H16 c2 (.tup []) c2 = some (.tup []) := upd_same
      generalize upd H16 c2 (.tup []) = H17 at sc2 gc2 ⊢
      refine ⟨by show 1 ≤ sizeLine; decide, fun c3 nc3 => ?_⟩
      have sc3 : Same H17 (upd H17 c3 (.tup [.int 4])) := same_new nc3
      have gc3 : upd H17 c3 (.tup [.int 4]) c3 = some (.tup [.int 4]) := upd_same
      generalize upd H17 c3 (.tup [.int 4]) = H18 at sc3 gc3 ⊢
      refine ⟨.ref N, rfl, .ref N, rfl, ?_⟩
      refine ⟨by show 0 ≤ sizeLine; decide, fun c4 nc4 => ?_⟩
      have sc4 : Same H18 (upd H18 c4 (.tup [])) := same_new nc4
      have gc4 : upd H18 c4 (.tup []) c4 = some (.tup []) := upd_same
      generalize upd H18 c4 (.tup []) = H19 at sc4 gc4 ⊢
      refine ⟨by show 0 ≤ sizeLine; decide, fun c5 nc5 => ?_⟩
      have sc5 : Same H19 (upd H19 c5 (.tup [])) := same_new nc5
      have gc5 : upd H19 c5 (.tup []) c5 = some (.tup []) := upd_same
      generalize upd H19 c5 (.tup []) = H20 at sc5 gc5 ⊢
      refine ⟨by show 2 ≤ sizeLine; decide, fun c6 nc6 => ?_⟩
      have sc6 : Same H20 (upd H20 c6 (.tup [.ref c4, .ref c5])) := same_new nc6
      have gc6 : upd H20 c6 (.tup [.ref c4, .ref c5]) c6 = some (.tup [.ref c4, .ref c5]) := upd_same
      generalize upd H20 c6 (.tup [.ref c4, .ref c5]) = H21 at sc6 gc6 ⊢
      refine ⟨by show 6 ≤ sizeLine; decide, fun L4 nL4 => ?_⟩
      have sL4 : Same H21 (upd H21 L4 (.lst [.ref c1, .ref c2, .ref c3, .ref N, .ref N, .ref c6])) := same_new nL4
      have gL4 : upd H21 L4 (.lst [.ref c1, .ref c2, .ref c3, .ref N, .ref N, .ref c6]) L4 = some (.lst [.ref c1, .ref c2, .ref c3, .ref N, .ref N, .ref c6]) := upd_same
      generalize upd H21 L4 (.lst [.ref c1, .ref c2, .ref c3, .ref N, .ref N, .ref c6]) = H22 at sL4 gL4 ⊢
      have z18 := ((sc4.trans sc5).trans sc6).trans sL4
      have z15 := ((sc1.trans sc2).trans sc3).trans z18
      have z13 := (sL2.trans s15).trans z15
      have z12 := s13.trans z13
      have z10 := (sL1.trans s12).trans z12
      have z7 := ((sa3.trans s9).trans s10).trans z10
      have z3 := s37.trans z7
      have nl : ∀ {H : Hp} {a : Addr}, H a = some (.tup []) → Dp K H (.ref a) (dRow []) := fun h => dp_row (r := []) h
      obtain ⟨dN, hdN⟩ : ∃ d, d = PyData.tuple [.tuple [], dRow []] := ⟨_, rfl⟩
      have gd : ∀ {H : Hp} {a b c : Addr}, Tp H a [.ref b, .ref c] → H b = some (.tup []) → H c = some (.tup []) → Dp K H (.ref a) dN := fun h1 h2 h3 => by
        rw [hdN]
        exact .tup h1.t (.cons (.tup (Tp.t h2) .nil) (.cons (nl h3) .nil))
      have dNN : Dp K H22 (.ref N) dN := gd (z3 _ _ gN) (z3 _ _ ((se2.trans sN) _ _ ge1)) (z3 _ _ (sN _ _ ge2))
      have d1 : Dp K H22 (.ref p1) (dRow []) := nl (((sa2.trans s7).trans z7) _ _ g5)
      have d2 : Dp K H22 x2 (dRow []) := opv_dp (u := some []) (opv_same h7 z7)
      have d3 : Dp K H22 (.ref p3) (dRow [4]) := dp_row (r := [4]) ((s10.trans z10) _ _ g9)
      have d4 : Dp K H22 (.ref p4) dN := by
        obtain ⟨tb, ts, ps, k1, k2, kR, k4, k5⟩ := gT
        obtain rfl := List.eq_nil_of_length_eq_zero kR.1
        obtain rfl := List.eq_nil_of_length_eq_zero k5
        exact gd (z10 _ _ k1) (z10 _ _ k2) (z10 _ _ k4.1)
      have d5 : Dp K H22 (.ref p5) dN := by
        obtain rfl := List.eq_nil_of_length_eq_zero b3.1
        exact gd (z12 _ _ b1) (z12 _ _ b2) (z12 _ _ b4)
      have d6 : Dp K H22 x6 dN := by
        rcases h13 with ⟨h | h, _⟩ | ⟨y, cs, r, tt', ty', qs', hu, hos, rfl, k1, k2, k3, k4⟩
        · cases h
        · cases h
        · obtain rfl : [] = y := Option.some.inj hu
          cases cs with
          | cons a l => cases hos
          | nil =>
            obtain rfl := List.eq_nil_of_length_eq_zero k3.1
            exact gd (z13 _ _ k1) (z13 _ _ k2) (z13 _ _ k4.1)
      refine ⟨.ref L3, .ref L4, .list [dRow [], dRow [], dRow [4], dN, dN, dN], rfl, .lst (SqL.of (z15 _ _ g15)) (.cons d1 (.cons d2 (.cons d3 (.cons d4 (.cons d5 (.cons d6 .nil)))))), .lst (SqL.of gL4) (.cons (nl ((((sc2.trans sc3).trans z18)) _ _ gc1)) (.cons (nl ((sc3.trans z18) _ _ gc2)) (.cons (dp_row (r := [4]) (z18 _ _ gc3)) (.cons dNN (.cons dNN (.cons (gd (sL4 _ _ gc6) (((sc5.trans sc6).trans sL4) _ _ gc4) ((sc6.trans sL4) _ _ gc5)) .nil)))))), ?_, k _⟩
      have f0 : FitN 5 9 (dRow []) := fit_ints (k := 4) 9 [] (fun x hx => by cases hx) (by decide)
      have f4 : FitN 5 9 (dRow [4]) := fit_ints (k := 4) 9 [4] (fun x hx => by rw [List.mem_singleton.mp hx]; decide) (by decide)
      have fN : FitN 5 30 dN := by
        rw [hdN]
        exact .tup (.cons (n := 30) (FitN.tup (k := 3) (n := 9) .nil) (.cons (n := 20) (fit_ints (k := 3) 9 [] (fun x hx => by cases hx) (by decide)) (.nil (n := 0)) (by decide)) (by decide))
      exact FitN.mono (FitN.list (k := 5) (n := 200) (.cons (n := 200) f0 (.cons (n := 180) f0 (.cons (n := 160) f4 (.cons (n := 140) fN (.cons (n := 100) fN (.cons (n := 50) fN (.nil (n := 0)) (by decide)) (by decide)) (by decide)) (by decide)) (by decide)) (by decide))) (by decide) (by decide)
end
end K13
namespace K13
open PySem PySem.Spec PyProof.Rows L2 Vk
section
variable {P : Program} {w : World} {K : PySem.W.Frag} {mg : Str → Option Value} {base : Heap}
/-- a def of the text by its name -/
theorem cal_of {x : Str} {st : Stmt} {f : Addr} {fd : FuncData} {k : Nat} {ps : List Str} {sp : Sp} (F : Fun K x x st f fd) (g : mg x = some (.ref f)) (G : FnOk P w K mg base CX0 k f fd ps sp) (b : Binds K fd ps []) : Cal P w K mg base k x ps sp := ⟨f, fd, G, g, F.kp, b⟩
theorem calG_of {x : Str} {st : Stmt} {f : Addr} {fd : FuncData} {k : Nat} {ps : List Str} {sp : Sp} (F : Fun K x x st f fd) (g : mg x = some (.ref f)) (G : FnG P w K mg base k f fd ps sp) (b : Binds K fd ps []) : CalG P w K mg base k x ps sp := ⟨f, fd, G, g, F.kp, b⟩
theorem all_mk {l : PySem.W.OpenLaw} {h : Heap} {fa f_psum f_fval f_led f_putin f_turned f_gforms f_pat f_unw f_pin f_fon f_onew f_gby f_gwithin f_leading f_pmap f_begun f_draw f_of f_like f_signed f_isgrid f_grid f_lpoint f_place f_columns f_drawn f_value f_within f_pright f_wright f_mright f_law   : Addr} (X : K.In h) (G : h.Ns mainGlobals mg) (hfa : mg "law" = some (.ref fa))
     {od_psum an_psum od_fval an_fval od_led an_led od_putin an_putin od_turned an_turned od_gforms an_gforms od_pat an_pat od_unw an_unw od_pin an_pin od_fon an_fon od_onew an_onew od_gby an_gby od_gwithin an_gwithin od_leading an_leading od_pmap an_pmap od_begun an_begun od_draw an_draw od_of an_of od_like an_like od_signed an_signed od_isgrid an_isgrid od_grid an_grid od_lpoint an_lpoint od_place an_place od_columns an_columns od_drawn an_drawn od_value an_value od_within an_within od_pright an_pright od_wright an_wright od_mright an_mright od_law an_law : Option Addr} {sl_psum sl_fval sl_led sl_putin sl_turned sl_gforms sl_pat sl_unw sl_pin sl_fon sl_onew sl_gby sl_gwithin sl_leading sl_pmap sl_begun sl_draw sl_of sl_like sl_signed sl_isgrid sl_grid sl_lpoint sl_place sl_columns sl_drawn sl_value sl_within sl_pright sl_wright sl_mright sl_law : Array (Option Value)}
    {oc_psum kV_psum dc_psum pm_psum cd_psum ct_psum oc_fval kV_fval dc_fval pm_fval cd_fval ct_fval oc_led kV_led dc_led pm_led cd_led ct_led oc_putin kV_putin dc_putin pm_putin cd_putin ct_putin oc_turned kV_turned dc_turned pm_turned cd_turned ct_turned oc_gforms kV_gforms dc_gforms pm_gforms cd_gforms ct_gforms oc_pat kV_pat dc_pat pm_pat cd_pat ct_pat oc_unw kV_unw dc_unw pm_unw cd_unw ct_unw oc_pin kV_pin dc_pin pm_pin cd_pin ct_pin oc_fon kV_fon dc_fon pm_fon cd_fon ct_fon oc_onew kV_onew dc_onew pm_onew cd_onew ct_onew oc_gby kV_gby dc_gby pm_gby cd_gby ct_gby oc_gwithin kV_gwithin dc_gwithin pm_gwithin cd_gwithin ct_gwithin oc_leading kV_leading dc_leading pm_leading cd_leading ct_leading oc_pmap kV_pmap dc_pmap pm_pmap cd_pmap ct_pmap oc_begun kV_begun dc_begun pm_begun cd_begun ct_begun oc_draw kV_draw dc_draw pm_draw cd_draw ct_draw oc_of kV_of dc_of pm_of cd_of ct_of oc_like kV_like dc_like pm_like cd_like ct_like oc_signed kV_signed dc_signed pm_signed cd_signed ct_signed oc_isgrid kV_isgrid dc_isgrid pm_isgrid cd_isgrid ct_isgrid oc_grid kV_grid dc_grid pm_grid cd_grid ct_grid oc_lpoint kV_lpoint dc_lpoint pm_lpoint cd_lpoint ct_lpoint oc_place kV_place dc_place pm_place cd_place ct_place oc_columns kV_columns dc_columns pm_columns cd_columns ct_columns oc_drawn kV_drawn dc_drawn pm_drawn cd_drawn ct_drawn oc_value kV_value dc_value pm_value cd_value ct_value oc_within kV_within dc_within pm_within cd_within ct_within oc_pright kV_pright dc_pright pm_pright cd_pright ct_pright oc_wright kV_wright dc_wright pm_wright cd_wright ct_wright oc_mright kV_mright dc_mright pm_mright cd_mright ct_mright oc_law kV_law dc_law pm_law cd_law ct_law : Value}
    (a_psum : PySem.W.nsIn K mainGlobals "product_sum" = some (some (.ref f_psum)))
    (l_psum : K.lookup f_psum = some ⟨oc_psum, od_psum, .func (PySem.W.fnOf "product_sum" "product_sum" (defArgs s_psum) (defBody s_psum) (defScope s_psum) .none kV_psum dc_psum pm_psum an_psum (cd_psum) ct_psum), sl_psum⟩)
    (c_psum : PySem.W.codeIn K (cd_psum) "product_sum" = true)
    (k_psum : PySem.W.keepIn K (.ref f_psum) = true)
    (a_fval : PySem.W.nsIn K mainGlobals "form_value" = some (some (.ref f_fval)))
    (l_fval : K.lookup f_fval = some ⟨oc_fval, od_fval, .func (PySem.W.fnOf "form_value" "form_value" (defArgs s_fval) (defBody s_fval) (defScope s_fval) .none kV_fval dc_fval pm_fval an_fval (cd_fval) ct_fval), sl_fval⟩)
    (c_fval : PySem.W.codeIn K (cd_fval) "form_value" = true)
    (k_fval : PySem.W.keepIn K (.ref f_fval) = true)
    (a_led : PySem.W.nsIn K mainGlobals "led_form" = some (some (.ref f_led)))
    (l_led : K.lookup f_led = some ⟨oc_led, od_led, .func (PySem.W.fnOf "led_form" "led_form" (defArgs s_led) (defBody s_led) (defScope s_led) .none kV_led dc_led pm_led an_led (cd_led) ct_led), sl_led⟩)
    (c_led : PySem.W.codeIn K (cd_led) "led_form" = true)
    (k_led : PySem.W.keepIn K (.ref f_led) = true)
    (a_putin : PySem.W.nsIn K mainGlobals "put_in" = some (some (.ref f_putin)))
    (l_putin : K.lookup f_putin = some ⟨oc_putin, od_putin, .func (PySem.W.fnOf "put_in" "put_in" (defArgs s_putin) (defBody s_putin) (defScope s_putin) .none kV_putin dc_putin pm_putin an_putin (cd_putin) ct_putin), sl_putin⟩)
    (c_putin : PySem.W.codeIn K (cd_putin) "put_in" = true)
    (k_putin : PySem.W.keepIn K (.ref f_putin) = true)
    (a_turned : PySem.W.nsIn K mainGlobals "turned" = some (some (.ref f_turned)))
    (l_turned : K.lookup f_turned = some ⟨oc_turned, od_turned, .func (PySem.W.fnOf "turned" "turned" (defArgs s_turned) (defBody s_turned) (defScope s_turned) .none kV_turned dc_turned pm_turned an_turned (cd_turned) ct_turned), sl_turned⟩)
    (c_turned : PySem.W.codeIn K (cd_turned) "turned" = true)
    (k_turned : PySem.W.keepIn K (.ref f_turned) = true)
    (a_gforms : PySem.W.nsIn K mainGlobals "grid_forms" = some (some (.ref f_gforms)))
    (l_gforms : K.lookup f_gforms = some ⟨oc_gforms, od_gforms, .func (PySem.W.fnOf "grid_forms" "grid_forms" (defArgs s_gforms) (defBody s_gforms) (defScope s_gforms) .none kV_gforms dc_gforms pm_gforms an_gforms (cd_gforms) ct_gforms), sl_gforms⟩)
    (c_gforms : PySem.W.codeIn K (cd_gforms) "grid_forms" = true)
    (k_gforms : PySem.W.keepIn K (.ref f_gforms) = true)
    (a_pat : PySem.W.nsIn K mainGlobals "point_at" = some (some (.ref f_pat)))
    (l_pat : K.lookup f_pat = some ⟨oc_pat, od_pat, .func (PySem.W.fnOf "point_at" "point_at" (defArgs s_pat) (defBody s_pat) (defScope s_pat) .none kV_pat dc_pat pm_pat an_pat (cd_pat) ct_pat), sl_pat⟩)
    (c_pat : PySem.W.codeIn K (cd_pat) "point_at" = true)
    (k_pat : PySem.W.keepIn K (.ref f_pat) = true)
    (a_unw : PySem.W.nsIn K mainGlobals "_unwound" = some (some (.ref f_unw)))
    (l_unw : K.lookup f_unw = some ⟨oc_unw, od_unw, .func (PySem.W.fnOf "_unwound" "_unwound" (defArgs s_unw) (defBody s_unw) (defScope s_unw) .none kV_unw dc_unw pm_unw an_unw (cd_unw) ct_unw), sl_unw⟩)
    (c_unw : PySem.W.codeIn K (cd_unw) "_unwound" = true)
    (k_unw : PySem.W.keepIn K (.ref f_unw) = true)
    (a_pin : PySem.W.nsIn K mainGlobals "place_in" = some (some (.ref f_pin)))
    (l_pin : K.lookup f_pin = some ⟨oc_pin, od_pin, .func (PySem.W.fnOf "place_in" "place_in" (defArgs s_pin) (defBody s_pin) (defScope s_pin) .none kV_pin dc_pin pm_pin an_pin (cd_pin) ct_pin), sl_pin⟩)
    (c_pin : PySem.W.codeIn K (cd_pin) "place_in" = true)
    (k_pin : PySem.W.keepIn K (.ref f_pin) = true)
    (a_fon : PySem.W.nsIn K mainGlobals "form_on" = some (some (.ref f_fon)))
    (l_fon : K.lookup f_fon = some ⟨oc_fon, od_fon, .func (PySem.W.fnOf "form_on" "form_on" (defArgs s_fon) (defBody s_fon) (defScope s_fon) .none kV_fon dc_fon pm_fon an_fon (cd_fon) ct_fon), sl_fon⟩)
    (c_fon : PySem.W.codeIn K (cd_fon) "form_on" = true)
    (k_fon : PySem.W.keepIn K (.ref f_fon) = true)
    (a_onew : PySem.W.nsIn K mainGlobals "_one_writing" = some (some (.ref f_onew)))
    (l_onew : K.lookup f_onew = some ⟨oc_onew, od_onew, .func (PySem.W.fnOf "_one_writing" "_one_writing" (defArgs s_onew) (defBody s_onew) (defScope s_onew) .none kV_onew dc_onew pm_onew an_onew (cd_onew) ct_onew), sl_onew⟩)
    (c_onew : PySem.W.codeIn K (cd_onew) "_one_writing" = true)
    (k_onew : PySem.W.keepIn K (.ref f_onew) = true)
    (a_gby : PySem.W.nsIn K mainGlobals "_grid_by" = some (some (.ref f_gby)))
    (l_gby : K.lookup f_gby = some ⟨oc_gby, od_gby, .func (PySem.W.fnOf "_grid_by" "_grid_by" (defArgs s_gby) (defBody s_gby) (defScope s_gby) .none kV_gby dc_gby pm_gby an_gby (cd_gby) ct_gby), sl_gby⟩)
    (c_gby : PySem.W.codeIn K (cd_gby) "_grid_by" = true)
    (k_gby : PySem.W.keepIn K (.ref f_gby) = true)
    (a_gwithin : PySem.W.nsIn K mainGlobals "grid_within" = some (some (.ref f_gwithin)))
    (l_gwithin : K.lookup f_gwithin = some ⟨oc_gwithin, od_gwithin, .func (PySem.W.fnOf "grid_within" "grid_within" (defArgs s_gwithin) (defBody s_gwithin) (defScope s_gwithin) .none kV_gwithin dc_gwithin pm_gwithin an_gwithin (cd_gwithin) ct_gwithin), sl_gwithin⟩)
    (c_gwithin : PySem.W.codeIn K (cd_gwithin) "grid_within" = true)
    (k_gwithin : PySem.W.keepIn K (.ref f_gwithin) = true)
    (a_leading : PySem.W.nsIn K mainGlobals "leading" = some (some (.ref f_leading)))
    (l_leading : K.lookup f_leading = some ⟨oc_leading, od_leading, .func (PySem.W.fnOf "leading" "leading" (defArgs s_leading) (defBody s_leading) (defScope s_leading) .none kV_leading dc_leading pm_leading an_leading (cd_leading) ct_leading), sl_leading⟩)
    (c_leading : PySem.W.codeIn K (cd_leading) "leading" = true)
    (k_leading : PySem.W.keepIn K (.ref f_leading) = true)
    (a_pmap : PySem.W.nsIn K mainGlobals "place_map" = some (some (.ref f_pmap)))
    (l_pmap : K.lookup f_pmap = some ⟨oc_pmap, od_pmap, .func (PySem.W.fnOf "place_map" "place_map" (defArgs s_pmap) (defBody s_pmap) (defScope s_pmap) .none kV_pmap dc_pmap pm_pmap an_pmap (cd_pmap) ct_pmap), sl_pmap⟩)
    (c_pmap : PySem.W.codeIn K (cd_pmap) "place_map" = true)
    (k_pmap : PySem.W.keepIn K (.ref f_pmap) = true)
    (a_begun : PySem.W.nsIn K mainGlobals "_law_begun" = some (some (.ref f_begun)))
    (l_begun : K.lookup f_begun = some ⟨oc_begun, od_begun, .func (PySem.W.fnOf "_law_begun" "_law_begun" (defArgs s_begun) (defBody s_begun) (defScope s_begun) .none kV_begun dc_begun pm_begun an_begun (cd_begun) ct_begun), sl_begun⟩)
    (c_begun : PySem.W.codeIn K (cd_begun) "_law_begun" = true)
    (k_begun : PySem.W.keepIn K (.ref f_begun) = true)
    (a_draw : PySem.W.nsIn K mainGlobals "_law_draw" = some (some (.ref f_draw)))
    (l_draw : K.lookup f_draw = some ⟨oc_draw, od_draw, .func (PySem.W.fnOf "_law_draw" "_law_draw" (defArgs s_draw) (defBody s_draw) (defScope s_draw) .none kV_draw dc_draw pm_draw an_draw (cd_draw) ct_draw), sl_draw⟩)
    (c_draw : PySem.W.codeIn K (cd_draw) "_law_draw" = true)
    (k_draw : PySem.W.keepIn K (.ref f_draw) = true)
    (a_of : PySem.W.nsIn K mainGlobals "_law_of" = some (some (.ref f_of)))
    (l_of : K.lookup f_of = some ⟨oc_of, od_of, .func (PySem.W.fnOf "_law_of" "_law_of" (defArgs s_of) (defBody s_of) (defScope s_of) .none kV_of dc_of pm_of an_of (cd_of) ct_of), sl_of⟩)
    (c_of : PySem.W.codeIn K (cd_of) "_law_of" = true)
    (k_of : PySem.W.keepIn K (.ref f_of) = true)
    (a_like : PySem.W.nsIn K mainGlobals "_law_like" = some (some (.ref f_like)))
    (l_like : K.lookup f_like = some ⟨oc_like, od_like, .func (PySem.W.fnOf "_law_like" "_law_like" (defArgs s_like) (defBody s_like) (defScope s_like) .none kV_like dc_like pm_like an_like (cd_like) ct_like), sl_like⟩)
    (c_like : PySem.W.codeIn K (cd_like) "_law_like" = true)
    (k_like : PySem.W.keepIn K (.ref f_like) = true)
    (a_signed : PySem.W.nsIn K mainGlobals "_law_signed" = some (some (.ref f_signed)))
    (l_signed : K.lookup f_signed = some ⟨oc_signed, od_signed, .func (PySem.W.fnOf "_law_signed" "_law_signed" (defArgs s_signed) (defBody s_signed) (defScope s_signed) .none kV_signed dc_signed pm_signed an_signed (cd_signed) ct_signed), sl_signed⟩)
    (c_signed : PySem.W.codeIn K (cd_signed) "_law_signed" = true)
    (k_signed : PySem.W.keepIn K (.ref f_signed) = true)
    (a_isgrid : PySem.W.nsIn K mainGlobals "_law_is_grid" = some (some (.ref f_isgrid)))
    (l_isgrid : K.lookup f_isgrid = some ⟨oc_isgrid, od_isgrid, .func (PySem.W.fnOf "_law_is_grid" "_law_is_grid" (defArgs s_isgrid) (defBody s_isgrid) (defScope s_isgrid) .none kV_isgrid dc_isgrid pm_isgrid an_isgrid (cd_isgrid) ct_isgrid), sl_isgrid⟩)
    (c_isgrid : PySem.W.codeIn K (cd_isgrid) "_law_is_grid" = true)
    (k_isgrid : PySem.W.keepIn K (.ref f_isgrid) = true)
    (a_grid : PySem.W.nsIn K mainGlobals "_law_grid" = some (some (.ref f_grid)))
    (l_grid : K.lookup f_grid = some ⟨oc_grid, od_grid, .func (PySem.W.fnOf "_law_grid" "_law_grid" (defArgs s_grid) (defBody s_grid) (defScope s_grid) .none kV_grid dc_grid pm_grid an_grid (cd_grid) ct_grid), sl_grid⟩)
    (c_grid : PySem.W.codeIn K (cd_grid) "_law_grid" = true)
    (k_grid : PySem.W.keepIn K (.ref f_grid) = true)
    (a_lpoint : PySem.W.nsIn K mainGlobals "_law_point" = some (some (.ref f_lpoint)))
    (l_lpoint : K.lookup f_lpoint = some ⟨oc_lpoint, od_lpoint, .func (PySem.W.fnOf "_law_point" "_law_point" (defArgs s_lpoint) (defBody s_lpoint) (defScope s_lpoint) .none kV_lpoint dc_lpoint pm_lpoint an_lpoint (cd_lpoint) ct_lpoint), sl_lpoint⟩)
    (c_lpoint : PySem.W.codeIn K (cd_lpoint) "_law_point" = true)
    (k_lpoint : PySem.W.keepIn K (.ref f_lpoint) = true)
    (a_place : PySem.W.nsIn K mainGlobals "_law_place" = some (some (.ref f_place)))
    (l_place : K.lookup f_place = some ⟨oc_place, od_place, .func (PySem.W.fnOf "_law_place" "_law_place" (defArgs s_place) (defBody s_place) (defScope s_place) .none kV_place dc_place pm_place an_place (cd_place) ct_place), sl_place⟩)
    (c_place : PySem.W.codeIn K (cd_place) "_law_place" = true)
    (k_place : PySem.W.keepIn K (.ref f_place) = true)
    (a_columns : PySem.W.nsIn K mainGlobals "_law_columns" = some (some (.ref f_columns)))
    (l_columns : K.lookup f_columns = some ⟨oc_columns, od_columns, .func (PySem.W.fnOf "_law_columns" "_law_columns" (defArgs s_columns) (defBody s_columns) (defScope s_columns) .none kV_columns dc_columns pm_columns an_columns (cd_columns) ct_columns), sl_columns⟩)
    (c_columns : PySem.W.codeIn K (cd_columns) "_law_columns" = true)
    (k_columns : PySem.W.keepIn K (.ref f_columns) = true)
    (a_drawn : PySem.W.nsIn K mainGlobals "_law_drawn" = some (some (.ref f_drawn)))
    (l_drawn : K.lookup f_drawn = some ⟨oc_drawn, od_drawn, .func (PySem.W.fnOf "_law_drawn" "_law_drawn" (defArgs s_drawn) (defBody s_drawn) (defScope s_drawn) .none kV_drawn dc_drawn pm_drawn an_drawn (cd_drawn) ct_drawn), sl_drawn⟩)
    (c_drawn : PySem.W.codeIn K (cd_drawn) "_law_drawn" = true)
    (k_drawn : PySem.W.keepIn K (.ref f_drawn) = true)
    (a_value : PySem.W.nsIn K mainGlobals "_law_value" = some (some (.ref f_value)))
    (l_value : K.lookup f_value = some ⟨oc_value, od_value, .func (PySem.W.fnOf "_law_value" "_law_value" (defArgs s_value) (defBody s_value) (defScope s_value) .none kV_value dc_value pm_value an_value (cd_value) ct_value), sl_value⟩)
    (c_value : PySem.W.codeIn K (cd_value) "_law_value" = true)
    (k_value : PySem.W.keepIn K (.ref f_value) = true)
    (a_within : PySem.W.nsIn K mainGlobals "_law_is_within" = some (some (.ref f_within)))
    (l_within : K.lookup f_within = some ⟨oc_within, od_within, .func (PySem.W.fnOf "_law_is_within" "_law_is_within" (defArgs s_within) (defBody s_within) (defScope s_within) .none kV_within dc_within pm_within an_within (cd_within) ct_within), sl_within⟩)
    (c_within : PySem.W.codeIn K (cd_within) "_law_is_within" = true)
    (k_within : PySem.W.keepIn K (.ref f_within) = true)
    (a_pright : PySem.W.nsIn K mainGlobals "_law_points_right" = some (some (.ref f_pright)))
    (l_pright : K.lookup f_pright = some ⟨oc_pright, od_pright, .func (PySem.W.fnOf "_law_points_right" "_law_points_right" (defArgs s_pright) (defBody s_pright) (defScope s_pright) .none kV_pright dc_pright pm_pright an_pright (cd_pright) ct_pright), sl_pright⟩)
    (c_pright : PySem.W.codeIn K (cd_pright) "_law_points_right" = true)
    (k_pright : PySem.W.keepIn K (.ref f_pright) = true)
    (a_wright : PySem.W.nsIn K mainGlobals "_law_within_right" = some (some (.ref f_wright)))
    (l_wright : K.lookup f_wright = some ⟨oc_wright, od_wright, .func (PySem.W.fnOf "_law_within_right" "_law_within_right" (defArgs s_wright) (defBody s_wright) (defScope s_wright) .none kV_wright dc_wright pm_wright an_wright (cd_wright) ct_wright), sl_wright⟩)
    (c_wright : PySem.W.codeIn K (cd_wright) "_law_within_right" = true)
    (k_wright : PySem.W.keepIn K (.ref f_wright) = true)
    (a_mright : PySem.W.nsIn K mainGlobals "_law_map_right" = some (some (.ref f_mright)))
    (l_mright : K.lookup f_mright = some ⟨oc_mright, od_mright, .func (PySem.W.fnOf "_law_map_right" "_law_map_right" (defArgs s_mright) (defBody s_mright) (defScope s_mright) .none kV_mright dc_mright pm_mright an_mright (cd_mright) ct_mright), sl_mright⟩)
    (c_mright : PySem.W.codeIn K (cd_mright) "_law_map_right" = true)
    (k_mright : PySem.W.keepIn K (.ref f_mright) = true)
    (a_law : PySem.W.nsIn K mainGlobals "law" = some (some (.ref f_law)))
    (l_law : K.lookup f_law = some ⟨oc_law, od_law, .func (PySem.W.fnOf "law" "law" (defArgs s_law) (defBody s_law) (defScope s_law) .none kV_law dc_law pm_law an_law (cd_law) ct_law), sl_law⟩)
    (c_law : PySem.W.codeIn K (cd_law) "law" = true)
    (k_law : PySem.W.keepIn K (.ref f_law) = true)
    (m_isinstance : PySem.W.nsIn K mainGlobals "isinstance" = some none)
    (m_int : PySem.W.nsIn K mainGlobals "int" = some none)
    (m_bool : PySem.W.nsIn K mainGlobals "bool" = some none)
    (m_tuple : PySem.W.nsIn K mainGlobals "tuple" = some none)
    (m_len : PySem.W.nsIn K mainGlobals "len" = some none)
    (m_repr : PySem.W.nsIn K mainGlobals "repr" = some none)
    (m_range : PySem.W.nsIn K mainGlobals "range" = some none)
    (m_sum : PySem.W.nsIn K mainGlobals "sum" = some none)
    (m_enumerate : PySem.W.nsIn K mainGlobals "enumerate" = some none)
    (m_zip : PySem.W.nsIn K mainGlobals "zip" = some none)
    (m_list : PySem.W.nsIn K mainGlobals "list" = some none) :
    ∃ fd : FuncData, (∀ (s : Shared) (u : Value), BindsTo s fd ⟨[u], []⟩ [("script", u)]) ∧ ∀ base : Heap, K.In base → base.Ns mainGlobals mg → FnG l.prog w K mg base 7 fa fd ["script"] (spLaw K) := by
  obtain rfl := Value.ref.inj (Option.some.inj (hfa.symm.trans (PySem.W.mg_of X G a_law)))
  have F_psum := fun_mk (st := s_psum) l_psum c_psum k_psum
  have G_psum := PySem.W.mg_of X G a_psum
  have B_psum := F_psum.binds (ps := ["one", "other"]) fun _ _ _ _ _ _ us hl => match us, hl with | [_, _], _ => rfl
  have F_fval := fun_mk (st := s_fval) l_fval c_fval k_fval
  have G_fval := PySem.W.mg_of X G a_fval
  have B_fval := F_fval.binds (ps := ["form", "t"]) fun _ _ _ _ _ _ us hl => match us, hl with | [_, _], _ => rfl
  have F_led := fun_mk (st := s_led) l_led c_led k_led
  have G_led := PySem.W.mg_of X G a_led
  have B_led := F_led.binds (ps := ["form", "forms", "n"]) fun _ _ _ _ _ _ us hl => match us, hl with | [_, _, _], _ => rfl
  have F_putin := fun_mk (st := s_putin) l_putin c_putin k_putin
  have G_putin := PySem.W.mg_of X G a_putin
  have B_putin := F_putin.binds (ps := ["form", "forms", "n"]) fun _ _ _ _ _ _ us hl => match us, hl with | [_, _, _], _ => rfl
  have F_turned := fun_mk (st := s_turned) l_turned c_turned k_turned
  have G_turned := PySem.W.mg_of X G a_turned
  have B_turned := F_turned.binds (ps := ["rows", "width"]) fun _ _ _ _ _ _ us hl => match us, hl with | [_, _], _ => rfl
  have F_gforms := fun_mk (st := s_gforms) l_gforms c_gforms k_gforms
  have G_gforms := PySem.W.mg_of X G a_gforms
  have B_gforms := F_gforms.binds (ps := ["grid"]) fun _ _ _ _ _ _ us hl => match us, hl with | [_], _ => rfl
  have F_pat := fun_mk (st := s_pat) l_pat c_pat k_pat
  have G_pat := PySem.W.mg_of X G a_pat
  have B_pat := F_pat.binds (ps := ["grid", "y"]) fun _ _ _ _ _ _ us hl => match us, hl with | [_, _], _ => rfl
  have F_unw := fun_mk (st := s_unw) l_unw c_unw k_unw
  have G_unw := PySem.W.mg_of X G a_unw
  have B_unw := F_unw.binds (ps := ["table", "column"]) fun _ _ _ _ _ _ us hl => match us, hl with | [_, _], _ => rfl
  have F_pin := fun_mk (st := s_pin) l_pin c_pin k_pin
  have G_pin := PySem.W.mg_of X G a_pin
  have B_pin := F_pin.binds (ps := ["grid", "t"]) fun _ _ _ _ _ _ us hl => match us, hl with | [_, _], _ => rfl
  have F_fon := fun_mk (st := s_fon) l_fon c_fon k_fon
  have G_fon := PySem.W.mg_of X G a_fon
  have B_fon := F_fon.binds (ps := ["grid", "form"]) fun _ _ _ _ _ _ us hl => match us, hl with | [_, _], _ => rfl
  have F_onew := fun_mk (st := s_onew) l_onew c_onew k_onew
  have G_onew := PySem.W.mg_of X G a_onew
  have B_onew := F_onew.binds (ps := ["table", "s"]) fun _ _ _ _ _ _ us hl => match us, hl with | [_, _], _ => rfl
  have F_gby := fun_mk (st := s_gby) l_gby c_gby k_gby
  have G_gby := PySem.W.mg_of X G a_gby
  have B_gby := F_gby.binds (ps := ["forms"]) fun _ _ _ _ _ _ us hl => match us, hl with | [_], _ => rfl
  have F_gwithin := fun_mk (st := s_gwithin) l_gwithin c_gwithin k_gwithin
  have G_gwithin := PySem.W.mg_of X G a_gwithin
  have B_gwithin := F_gwithin.binds (ps := ["grid", "inner"]) fun _ _ _ _ _ _ us hl => match us, hl with | [_, _], _ => rfl
  have F_leading := fun_mk (st := s_leading) l_leading c_leading k_leading
  have G_leading := PySem.W.mg_of X G a_leading
  have B_leading := F_leading.binds (ps := ["grid", "count"]) fun _ _ _ _ _ _ us hl => match us, hl with | [_, _], _ => rfl
  have F_pmap := fun_mk (st := s_pmap) l_pmap c_pmap k_pmap
  have G_pmap := PySem.W.mg_of X G a_pmap
  have B_pmap := F_pmap.binds (ps := ["grid", "inner"]) fun _ _ _ _ _ _ us hl => match us, hl with | [_, _], _ => rfl
  have F_begun := fun_mk (st := s_begun) l_begun c_begun k_begun
  have G_begun := PySem.W.mg_of X G a_begun
  have B_begun := F_begun.binds (ps := ["script", "k_so"]) fun _ _ _ _ _ _ us hl => match us, hl with | [_, _], _ => rfl
  have F_draw := fun_mk (st := s_draw) l_draw c_draw k_draw
  have G_draw := PySem.W.mg_of X G a_draw
  have B_draw := F_draw.binds (ps := ["m", "bound"]) fun _ _ _ _ _ _ us hl => match us, hl with | [_, _], _ => rfl
  have F_of := fun_mk (st := s_of) l_of c_of k_of
  have G_of := PySem.W.mg_of X G a_of
  have B_of := F_of.binds (ps := ["m", "some"]) fun _ _ _ _ _ _ us hl => match us, hl with | [_, _], _ => rfl
  have F_like := fun_mk (st := s_like) l_like c_like k_like
  have G_like := PySem.W.mg_of X G a_like
  have B_like := F_like.binds (ps := ["got", "due"]) fun _ _ _ _ _ _ us hl => match us, hl with | [_, _], _ => rfl
  have F_signed := fun_mk (st := s_signed) l_signed c_signed k_signed
  have G_signed := PySem.W.mg_of X G a_signed
  have B_signed := F_signed.binds (ps := ["m", "most"]) fun _ _ _ _ _ _ us hl => match us, hl with | [_, _], _ => rfl
  have F_isgrid := fun_mk (st := s_isgrid) l_isgrid c_isgrid k_isgrid
  have G_isgrid := PySem.W.mg_of X G a_isgrid
  have B_isgrid := F_isgrid.binds (ps := ["value_so"]) fun _ _ _ _ _ _ us hl => match us, hl with | [_], _ => rfl
  have F_grid := fun_mk (st := s_grid) l_grid c_grid k_grid
  have G_grid := PySem.W.mg_of X G a_grid
  have B_grid := F_grid.binds (ps := ["m", "size_so", "most"]) fun _ _ _ _ _ _ us hl => match us, hl with | [_, _, _], _ => rfl
  have F_lpoint := fun_mk (st := s_lpoint) l_lpoint c_lpoint k_lpoint
  have G_lpoint := PySem.W.mg_of X G a_lpoint
  have B_lpoint := F_lpoint.binds (ps := ["grid_so", "y"]) fun _ _ _ _ _ _ us hl => match us, hl with | [_, _], _ => rfl
  have F_place := fun_mk (st := s_place) l_place c_place k_place
  have G_place := PySem.W.mg_of X G a_place
  have B_place := F_place.binds (ps := ["grid_so", "t"]) fun _ _ _ _ _ _ us hl => match us, hl with | [_, _], _ => rfl
  have F_columns := fun_mk (st := s_columns) l_columns c_columns k_columns
  have G_columns := PySem.W.mg_of X G a_columns
  have B_columns := F_columns.binds (ps := ["grid_so"]) fun _ _ _ _ _ _ us hl => match us, hl with | [_], _ => rfl
  have F_drawn := fun_mk (st := s_drawn) l_drawn c_drawn k_drawn
  have G_drawn := PySem.W.mg_of X G a_drawn
  have B_drawn := F_drawn.binds (ps := ["m", "size_so", "most"]) fun _ _ _ _ _ _ us hl => match us, hl with | [_, _, _], _ => rfl
  have F_value := fun_mk (st := s_value) l_value c_value k_value
  have G_value := PySem.W.mg_of X G a_value
  have B_value := F_value.binds (ps := ["form", "t"]) fun _ _ _ _ _ _ us hl => match us, hl with | [_, _], _ => rfl
  have F_within := fun_mk (st := s_within) l_within c_within k_within
  have G_within := PySem.W.mg_of X G a_within
  have B_within := F_within.binds (ps := ["grid_so", "inner_so"]) fun _ _ _ _ _ _ us hl => match us, hl with | [_, _], _ => rfl
  have F_pright := fun_mk (st := s_pright) l_pright c_pright k_pright
  have G_pright := PySem.W.mg_of X G a_pright
  have B_pright := F_pright.binds (ps := ["m", "grid_so", "size_so"]) fun _ _ _ _ _ _ us hl => match us, hl with | [_, _, _], _ => rfl
  have F_wright := fun_mk (st := s_wright) l_wright c_wright k_wright
  have G_wright := PySem.W.mg_of X G a_wright
  have B_wright := F_wright.binds (ps := ["m", "grid_so", "size_so"]) fun _ _ _ _ _ _ us hl => match us, hl with | [_, _, _], _ => rfl
  have F_mright := fun_mk (st := s_mright) l_mright c_mright k_mright
  have G_mright := PySem.W.mg_of X G a_mright
  have B_mright := F_mright.binds (ps := ["m", "grid_so", "inner_so"]) fun _ _ _ _ _ _ us hl => match us, hl with | [_, _, _], _ => rfl
  have F_law := fun_mk (st := s_law) l_law c_law k_law
  have G_law := PySem.W.mg_of X G a_law
  have B_law := F_law.binds (ps := ["script"]) fun _ _ _ _ _ _ us hl => match us, hl with | [_], _ => rfl
  have M_isinstance := PySem.W.mg_none_of X G m_isinstance
  have M_int := PySem.W.mg_none_of X G m_int
  have M_bool := PySem.W.mg_none_of X G m_bool
  have M_tuple := PySem.W.mg_none_of X G m_tuple
  have M_len := PySem.W.mg_none_of X G m_len
  have M_repr := PySem.W.mg_none_of X G m_repr
  have M_range := PySem.W.mg_none_of X G m_range
  have M_sum := PySem.W.mg_none_of X G m_sum
  have M_enumerate := PySem.W.mg_none_of X G m_enumerate
  have M_zip := PySem.W.mg_none_of X G m_zip
  have M_list := PySem.W.mg_none_of X G m_list
  refine ⟨PySem.W.fnOf "law" "law" (defArgs s_law) (defBody s_law) (defScope s_law) .none kV_law dc_law pm_law an_law cd_law ct_law, fun s v => .of_eq rfl, fun base KB NB => ?_⟩
  have C_psum := cal_of (P := l.prog) (w := w) (base := base) F_psum G_psum (ok_psum F_psum M_sum M_zip) B_psum
  have C_psumL := cal_of (P := l.prog) (w := w) (base := base) F_psum G_psum (ok_psumL F_psum M_sum M_zip) B_psum
  have C_fval := cal_of (P := l.prog) (w := w) (base := base) F_fval G_fval (ok_fval F_fval C_psum) B_fval
  have C_led := cal_of (P := l.prog) (w := w) (base := base) F_led G_led (ok_led F_led M_tuple M_zip) B_led
  have C_putin := cal_of (P := l.prog) (w := w) (base := base) F_putin G_putin (ok_putin F_putin C_led) B_putin
  have C_turnedT := cal_of (P := l.prog) (w := w) (base := base) F_turned G_turned (ok_turnedT F_turned M_tuple M_range) B_turned
  have C_turnedL := cal_of (P := l.prog) (w := w) (base := base) F_turned G_turned (ok_turnedL F_turned M_tuple M_range) B_turned
  have C_gforms := cal_of (P := l.prog) (w := w) (base := base) F_gforms G_gforms (ok_gforms F_gforms M_tuple M_zip) B_gforms
  have C_pat := cal_of (P := l.prog) (w := w) (base := base) F_pat G_pat (ok_pat F_pat C_gforms C_fval M_tuple) B_pat
  have C_unw := cal_of (P := l.prog) (w := w) (base := base) F_unw G_unw (ok_unw F_unw C_psumL M_enumerate M_tuple) B_unw
  have C_pin := cal_of (P := l.prog) (w := w) (base := base) F_pin G_pin (ok_pin F_pin C_unw M_zip) B_pin
  have C_fon := cal_of (P := l.prog) (w := w) (base := base) F_fon G_fon (ok_fon F_fon C_putin C_gforms M_len) B_fon
  have C_onew := cal_of (P := l.prog) (w := w) (base := base) F_onew G_onew (ok_onew F_onew M_len M_zip M_range M_list M_tuple) B_onew
  have C_gby := cal_of (P := l.prog) (w := w) (base := base) F_gby G_gby (ok_gby F_gby C_onew) B_gby
  have C_gwithin := cal_of (P := l.prog) (w := w) (base := base) F_gwithin G_gwithin (ok_gwithin F_gwithin C_gby C_gforms C_fon) B_gwithin
  have C_leading := cal_of (P := l.prog) (w := w) (base := base) F_leading G_leading (ok_leading F_leading M_tuple) B_leading
  have C_pmap := cal_of (P := l.prog) (w := w) (base := base) F_pmap G_pmap (ok_pmap F_pmap C_pin C_turnedT C_turnedL C_unw M_len) B_pmap
  have C_begun := cal_of (P := l.prog) (w := w) (base := base) F_begun G_begun (ok_begun F_begun M_int) B_begun
  have C_draw := cal_of (P := l.prog) (w := w) (base := base) F_draw G_draw (ok_draw F_draw M_int M_len) B_draw
  have C_of := cal_of (P := l.prog) (w := w) (base := base) F_of G_of (ok_of F_of C_draw M_len) B_of
  have C_like := calG_of (P := l.prog) (w := w) (base := base) F_like G_like (ok_like F_like M_repr) B_like
  have C_signed := cal_of (P := l.prog) (w := w) (base := base) F_signed G_signed (ok_signed F_signed C_draw) B_signed
  have C_isgrid := cal_of (P := l.prog) (w := w) (base := base) F_isgrid G_isgrid (ok_isgrid F_isgrid M_isinstance M_tuple M_int M_bool M_len M_range) B_isgrid
  have C_grid := cal_of (P := l.prog) (w := w) (base := base) F_grid G_grid (ok_grid F_grid C_draw M_tuple M_range) B_grid
  have C_lpoint := cal_of (P := l.prog) (w := w) (base := base) F_lpoint G_lpoint (ok_lpoint F_lpoint M_tuple M_range M_len M_sum) B_lpoint
  have C_place := cal_of (P := l.prog) (w := w) (base := base) F_place G_place (ok_place F_place M_len M_range M_sum M_int M_tuple) B_place
  have C_columns := cal_of (P := l.prog) (w := w) (base := base) F_columns G_columns (ok_columns F_columns M_tuple M_range M_len) B_columns
  have C_drawn := cal_of (P := l.prog) (w := w) (base := base) F_drawn G_drawn (ok_drawn F_drawn C_signed M_tuple M_range) B_drawn
  have C_value := cal_of (P := l.prog) (w := w) (base := base) F_value G_value (ok_value F_value M_sum M_len M_range) B_value
  have C_within := cal_of (P := l.prog) (w := w) (base := base) F_within G_within (ok_within F_within C_columns C_place M_tuple M_range M_len) B_within
  have C_pright := calG_of (P := l.prog) (w := w) (base := base) F_pright G_pright (ok_pright F_pright C_drawn C_lpoint C_pat C_pin C_like C_place C_fon C_value M_isinstance M_tuple M_int M_bool M_len M_range) B_pright
  have C_mright := calG_of (P := l.prog) (w := w) (base := base) F_mright G_mright (ok_mright F_mright C_pmap C_within C_place C_columns C_like M_isinstance M_tuple M_len M_range) B_mright
  have C_wright := calG_of (P := l.prog) (w := w) (base := base) F_wright G_wright (ok_wright F_wright C_grid C_gwithin C_isgrid C_drawn C_lpoint C_place C_mright M_len M_range) B_wright
  exact ok_law F_law C_begun C_draw C_of C_grid C_pright C_wright C_like C_leading C_pat C_pin C_fon C_gwithin C_pmap M_range M_tuple
end
end K13
open PySem PySem.W PyProof.Rows
set_option maxHeartbeats 0 in
theorem PySem.Challenge.cw_pointtally_k13_whole_places_within_grids_holds : PySem.Challenge.rw_pointtally_k13_whole_places_within_grids.Holds := by
  w_on; o_law; k_head; (case hw => w_witness2)
  k_fill
  refine Vk.walk_ofG (l := PySem.Challenge.rw_pointtally_k13_whole_places_within_grids) (n := 63) (k := 7) (x := "script") (sp := fun K => K13.spLaw K) rfl (by decide) rfl ⟨rfl, by decide, by decide⟩ (fun w h Y => PySem.W.kIn_of Y) ?F (fun K H a ns hl _ hS => ⟨a, ns, rfl, hS, hl, fun _ => rfl⟩)
  case F =>
    intro w mg fa h KX G hmg
    refine' K13.all_mk KX G hmg ?a_psum ?l_psum ?c_psum ?k_psum ?a_fval ?l_fval ?c_fval ?k_fval ?a_led ?l_led ?c_led ?k_led ?a_putin ?l_putin ?c_putin ?k_putin ?a_turned ?l_turned ?c_turned ?k_turned ?a_gforms ?l_gforms ?c_gforms ?k_gforms ?a_pat ?l_pat ?c_pat ?k_pat ?a_unw ?l_unw ?c_unw ?k_unw ?a_pin ?l_pin ?c_pin ?k_pin ?a_fon ?l_fon ?c_fon ?k_fon ?a_onew ?l_onew ?c_onew ?k_onew ?a_gby ?l_gby ?c_gby ?k_gby ?a_gwithin ?l_gwithin ?c_gwithin ?k_gwithin ?a_leading ?l_leading ?c_leading ?k_leading ?a_pmap ?l_pmap ?c_pmap ?k_pmap ?a_begun ?l_begun ?c_begun ?k_begun ?a_draw ?l_draw ?c_draw ?k_draw ?a_of ?l_of ?c_of ?k_of ?a_like ?l_like ?c_like ?k_like ?a_signed ?l_signed ?c_signed ?k_signed ?a_isgrid ?l_isgrid ?c_isgrid ?k_isgrid ?a_grid ?l_grid ?c_grid ?k_grid ?a_lpoint ?l_lpoint ?c_lpoint ?k_lpoint ?a_place ?l_place ?c_place ?k_place ?a_columns ?l_columns ?c_columns ?k_columns ?a_drawn ?l_drawn ?c_drawn ?k_drawn ?a_value ?l_value ?c_value ?k_value ?a_within ?l_within ?c_within ?k_within ?a_pright ?l_pright ?c_pright ?k_pright ?a_wright ?l_wright ?c_wright ?k_wright ?a_mright ?l_mright ?c_mright ?k_mright ?a_law ?l_law ?c_law ?k_law ?m_isinstance ?m_int ?m_bool ?m_tuple ?m_len ?m_repr ?m_range ?m_sum ?m_enumerate ?m_zip ?m_list
    (case a_psum => k_is)
    (case l_psum => k_is)
    (case c_psum => k_is)
    (case k_psum => k_is)
    (case a_fval => k_is)
    (case l_fval => k_is)
    (case c_fval => k_is)
    (case k_fval => k_is)
    (case a_led => k_is)
    (case l_led => k_is)
    (case c_led => k_is)
    (case k_led => k_is)
    (case a_putin => k_is)
    (case l_putin => k_is)
    (case c_putin => k_is)
    (case k_putin => k_is)
    (case a_turned => k_is)
    (case l_turned => k_is)
    (case c_turned => k_is)
    (case k_turned => k_is)
    (case a_gforms => k_is)
    (case l_gforms => k_is)
    (case c_gforms => k_is)
    (case k_gforms => k_is)
    (case a_pat => k_is)
    (case l_pat => k_is)
    (case c_pat => k_is)
    (case k_pat => k_is)
    (case a_unw => k_is)
    (case l_unw => k_is)
    (case c_unw => k_is)
    (case k_unw => k_is)
    (case a_pin => k_is)
    (case l_pin => k_is)
    (case c_pin => k_is)
    (case k_pin => k_is)
    (case a_fon => k_is)
    (case l_fon => k_is)
    (case c_fon => k_is)
    (case k_fon => k_is)
    (case a_onew => k_is)
    (case l_onew => k_is)
    (case c_onew => k_is)
    (case k_onew => k_is)
    (case a_gby => k_is)
    (case l_gby => k_is)
    (case c_gby => k_is)
    (case k_gby => k_is)
    (case a_gwithin => k_is)
    (case l_gwithin => k_is)
    (case c_gwithin => k_is)
    (case k_gwithin => k_is)
    (case a_leading => k_is)
    (case l_leading => k_is)
    (case c_leading => k_is)
    (case k_leading => k_is)
    (case a_pmap => k_is)
    (case l_pmap => k_is)
    (case c_pmap => k_is)
    (case k_pmap => k_is)
    (case a_begun => k_is)
    (case l_begun => k_is)
    (case c_begun => k_is)
    (case k_begun => k_is)
    (case a_draw => k_is)
    (case l_draw => k_is)
    (case c_draw => k_is)
    (case k_draw => k_is)
    (case a_of => k_is)
    (case l_of => k_is)
    (case c_of => k_is)
    (case k_of => k_is)
    (case a_like => k_is)
    (case l_like => k_is)
    (case c_like => k_is)
    (case k_like => k_is)
    (case a_signed => k_is)
    (case l_signed => k_is)
    (case c_signed => k_is)
    (case k_signed => k_is)
    (case a_isgrid => k_is)
    (case l_isgrid => k_is)
    (case c_isgrid => k_is)
    (case k_isgrid => k_is)
    (case a_grid => k_is)
    (case l_grid => k_is)
    (case c_grid => k_is)
    (case k_grid => k_is)
    (case a_lpoint => k_is)
    (case l_lpoint => k_is)
    (case c_lpoint => k_is)
    (case k_lpoint => k_is)
    (case a_place => k_is)
    (case l_place => k_is)
    (case c_place => k_is)
    (case k_place => k_is)
    (case a_columns => k_is)
    (case l_columns => k_is)
    (case c_columns => k_is)
    (case k_columns => k_is)
    (case a_drawn => k_is)
    (case l_drawn => k_is)
    (case c_drawn => k_is)
    (case k_drawn => k_is)
    (case a_value => k_is)
    (case l_value => k_is)
    (case c_value => k_is)
    (case k_value => k_is)
    (case a_within => k_is)
    (case l_within => k_is)
    (case c_within => k_is)
    (case k_within => k_is)
    (case a_pright => k_is)
    (case l_pright => k_is)
    (case c_pright => k_is)
    (case k_pright => k_is)
    (case a_wright => k_is)
    (case l_wright => k_is)
    (case c_wright => k_is)
    (case k_wright => k_is)
    (case a_mright => k_is)
    (case l_mright => k_is)
    (case c_mright => k_is)
    (case k_mright => k_is)
    (case a_law => k_is)
    (case l_law => k_is)
    (case c_law => k_is)
    (case k_law => k_is)
    (case m_isinstance => k_is)
    (case m_int => k_is)
    (case m_bool => k_is)
    (case m_tuple => k_is)
    (case m_len => k_is)
    (case m_repr => k_is)
    (case m_range => k_is)
    (case m_sum => k_is)
    (case m_enumerate => k_is)
    (case m_zip => k_is)
    (case m_list => k_is)
