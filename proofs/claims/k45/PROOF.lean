import PyProof.Rows.All
import Wide.All
import OpenK.AllK
import Wide.FinOn
import HandS.Base
import HandS.Call
import HandS.List
import HandS.Comp
import HandS.Ends
import HandS.Dict
import HandS.Iter
import HandS.Words
import HandS.WordsList
import HandS.WordsDict
import HandS.Exc
import HandS.TryOnly
import HandS.ExcOwn
import HandS.Lambda
import HandS.IsInst
import HandS.Wide
import PyProof.ReprRoads
import PyProof.ReprBulk
import PyProof.FitsInt
import HandS.ExcIs
import HandS.Walk
import KE.GoesZip
import KE.GoesMore
import KE.GoesEnum
import HandS.Star
import HandS.TupAny
import HandS.ExcField
import HandS.ExcInit
import KE.KExcIs
import HandS.TupMul
import KE.KEqDeep
import HandS.TupLe
import PySem.Challenge.RW_pointtally_k45_whole_directions
set_option Elab.async false
set_option linter.all false
set_option maxRecDepth 100000
set_option maxHeartbeats 4000000
set_option exponentiation.threshold 20000
/-! Promises that know that nothing is being shown around them (so that repr tells its whole text). -/
namespace Vk
open PySem PySem.Spec PyProof.Rows L2

/-- nothing is being shown -/
def Quiet (A : Around) : Prop := A.guards = some []
theorem Quiet.deeper {A : Around} (q : Quiet A) (env : Env) : Quiet (A.deeper env) := by
  unfold Quiet at q ⊢
  first
    | exact q
    | (show pushGuards _ A.guards = some []; rw [q]; rfl)
    | simpa [Around.deeper, Around.under, q] using q

/-- a def's promise where nothing is being shown -/
structure FnG (P : Program) (w : World) (K : PySem.W.Frag) (mg : Str → Option Value) (base : Heap) (k : Nat) (f : Addr) (fd : FuncData) (ps : List Str) (sp : Sp) : Prop where
  len : ∀ vs H Q E, sp vs H Q E → vs.length = ps.length
  run : ∀ (A : Around) (outer : List Env) (s : Shared) (H : Hp) (args : Args) (us : List Value) (vs : List V) (Q : VK) (E : XK),
    Quiet A → Room k A → Env0 P w K mg base A outer s H → BindsTo s fd args (ps.zip us) → Vals vs us → sp vs H Q E →
      codeAny (model P w) A (.call (.ref f) args) (CR CX0 outer P w H s Q E) s

section
variable {P : Program} {w : World} {K : PySem.W.Frag} {mg : Str → Option Value} {base : Heap}
/-- a body's end is the call's end -/
theorem endsG {N : List Str} {qual : Str} {scope : Scope} {f : Addr} {cdv : Value} {A : Around} {outer : List Env} {s s' : Shared} {H : Hp} {Q : VK} {E : XK} {fl : Flow}
    (h : SP (cxOf CX0 P w K mg base N qual scope f cdv A outer s H E) [] { nx := fun _ H' => Q .non H', rt := Q } fl s') :
    ∃ u, (match fl with | .ret v => v | _ => Value.none) = u ∧ CE outer P w H s Q u s' ∧ (fl = .next ∨ ∃ v, fl = .ret v) := by
  cases fl with
  | next =>
    obtain ⟨σ', H', J, q⟩ := h
    exact ⟨_, rfl, ⟨.non, H', J.os, J.bare, J.base, J.hok, rfl, q⟩, .inl rfl⟩
  | ret v =>
    obtain ⟨x, σ', H', J, rv, q⟩ := h
    exact ⟨_, rfl, ⟨x, H', J.os, J.bare, J.base, J.hok, rv, q⟩, .inr ⟨v, rfl⟩⟩
  | brk =>
    obtain ⟨_, _, _, q⟩ := h
    exact q.elim
  | cont =>
    obtain ⟨_, _, _, q⟩ := h
    exact q.elim
/-- a def, by its body: its code object is told -/
theorem fnG_of {x qual : Str} {st : Stmt} {f : Addr} {N ps : List Str} {k : Nat} {sp : Sp} {oc kV doc pm cdv ct : Value} {od an : Option Addr} {osl : Array (Option Value)}
    (lk : K.lookup f = some ⟨oc, od, .func (PySem.W.fnOf x qual (defArgs st) (defBody st) (defScope st) .none kV doc pm an cdv ct), osl⟩) (hcd : PySem.W.codeIn K cdv qual = true) (S : FnScope N ps (defScope st))
    (len : ∀ vs H Q E, sp vs H Q E → vs.length = ps.length)
    (hbody : ∀ (A : Around) (outer : List Env) (s : Shared) (H : Hp) (vs : List V) (Q : VK) (E : XK),
      Quiet A → Room k (A.deeper (envOfC qual (defScope st) s.heap.objs.size f cdv)) → sp vs H Q E →
        ∃ t, PSs (cxOf CX0 P w K mg base N qual (defScope st) f cdv A outer s H E).nox (defBody st) t ∧ t { nx := fun _ H' => Q .non H', rt := Q } (start N vs) H) :
    FnG P w K mg base (k + 1) f (PySem.W.fnOf x qual (defArgs st) (defBody st) (defScope st) .none kV doc pm an cdv ct) ps sp := by
  refine ⟨len, fun A outer s H args us vs Q E hG hr e0 hb r hsp => ?_⟩
  have inK : K.In s.heap := e0.mod.kin.keeps fun b o e => (e0.bs b o e).left
  have noL : s.heap.NoLimit := e0.mod.nolimit.keeps fun b o e => (e0.bs b o e).left
  have hpar : ∀ y ∈ ps.zip us, (defScope st).names.lookup y.1 = some .local ∨
      ((defScope st).names.lookup y.1 = some .cell ∧ ((cellsFrom (s.heap.objs.size + 1) (defScope st).names []).lookup y.1).isSome = true) := by
    rintro ⟨n, v⟩ hy
    cases S.par n (List.of_mem_zip hy).left with
    | inl q => exact .inl q
    | inr q => exact .inr ⟨q, PySem.W.cellsFrom_some _ _ _ (.inl q)⟩
  have bnd := hb
  refine codeAny_call_function hr.depth (inK _ _ lk) rfl S.co S.gen rfl
    (PySem.W.codeRec_of inK hcd) (bnd _ _ _ _ ?_)
  refine wpAny_newFunctionEnv_cells S.kind hpar
    fun env he s1 x => ?_
  subst he
  refine ⟨noL.keeps x.toInCall.keep,
    codeAny_func ?_⟩
  obtain ⟨t, ht, hq⟩ := hbody A outer s H vs Q E hG (hr.deeper _) hsp
  have J := inv_start (CX := CX0) (P := P) (w := w) (K := K) (mg := mg) (base := base) (qual := qual) (f := f) (cd := cdv) (E := E) S hr.hd e0 (len _ _ _ _ hsp) r x
  refine wpAny_mono (ht.nox.run [] s1 _ H _ J hq) (fun fl s' hs => ?_)
    (fun e s' hs => hs)
  obtain ⟨u, hu, hce, hfl⟩ := endsG hs
  rcases hfl with rfl | ⟨v, rfl⟩
  · obtain rfl := hu
    exact hce
  · obtain rfl := hu
    exact hce
/-- a def of the text, by its body -/
theorem okG {x qual : Str} {st : Stmt} {f : Addr} {fd : FuncData} {N ps : List Str} {k : Nat} {sp : Sp} (F : Fun K x qual st f fd) (S : FnScope N ps (defScope st))
    (len : ∀ vs H Q E, sp vs H Q E → vs.length = ps.length)
    (hbody : ∀ (cdv : Value) (A : Around) (outer : List Env) (s : Shared) (H : Hp) (vs : List V) (Q : VK) (E : XK),
      Quiet A → Room k (A.deeper (envOfC qual (defScope st) s.heap.objs.size f cdv)) → sp vs H Q E →
        ∃ t, PSs (cxOf CX0 P w K mg base N qual (defScope st) f cdv A outer s H E).nox (defBody st) t ∧ t { nx := fun _ H' => Q .non H', rt := Q } (start N vs) H) :
    FnG P w K mg base (k + 1) f fd ps sp := by
  obtain ⟨oc, od, kV, doc, pm, an, cdv, ct, osl, rfl, lk, hcd⟩ := F.ex
  exact fnG_of lk hcd S len fun A outer s H vs Q E => hbody cdv A outer s H vs Q E
end

section
variable {X : Cx} {k : Nat} {f : Addr} {fd : FuncData} {ps : List Str} {sp : Sp} {E : XK} {x : Str} {p pos : Pos} {e : Expr} {es : List Expr} {t : TA}
/-- a call of such a def -/
theorem pe_callG (hG : Quiet X.A) (F : FnG X.prog X.w X.K X.mg X.base k f fd ps sp) (hr : Room k X.A) (hg : Gl X x) (hm : X.mg x = some (.ref f)) (hk : PySem.W.keepIn X.K (.ref f) = true) (hb : Binds X.K fd ps [])
    (ha : PA X (e :: es) t) (hdb : (x == ("__debug__" : Str)) = false := by decide) (he : starEach (e :: es) X.env = (false, eval e X.env) :: starEach es X.env := by rfl)
    (hpl : (backTo pos (starEach es X.env)).any (·.1) = false := by rfl) :
    PE X (.Call (.Name x p) (e :: es) [] pos) (fun σ H Q => t σ H fun vs H1 => sp vs H1 Q E) := by
  refine ⟨fun pins s σ H Q I h => wpAny_Call_Name_kw (ld_glob I hg hm ?_ hdb)⟩
  refine PySem.W.callWith_K (h₀ := X.base) I.ok.mod.kin hk (thn (ha.run pos pins s σ H _ I h) ?_) he hpl
  rintro us s1 ⟨vs, H1, I1, r, q⟩
  refine ⟨I1.kIn, ?_⟩
  have hl : us.length = ps.length := r.length.symm.trans (F.len _ _ _ _ q)
  have hbt := hb s1 us I1.kIn (by rw [List.append_nil]; exact hl)
  rw [List.append_nil] at hbt
  refine wpAny_call (codeAny_mono (F.run X.A X.stack s1 H1 ⟨us, []⟩ us vs Q E hG hr I1.env0 hbt r q) ?_)
  intro r2 s2 hq
  match r2, hq with
  | .error e, hq => exact False.elim hq
  | .ok (.ret u), hq => exact I1.after hq
end

/-! ### repr -/
/-- the text of a value's data -/
def rRep (K : PySem.W.Frag) : List V → Hp → VK → Prop := fun xs H Q => ∃ x d, xs = [x] ∧ Dp K H x d ∧ d.showable = true ∧ d.hasDict = false ∧ d.depth ≤ 60 ∧ d.shown.length ≤ sizeLine ∧ Q (.str d.shown) H
theorem call_rep {X : Cx} (hG : Quiet X.A) (hu : X.A.units + 64 < cLine) : CallR X (.builtin "repr") (rRep X.K) := by
  intro pins s σ H xs us Q I r h
  obtain ⟨x, d, rfl, hD, hs, hd, hdep, hz, q⟩ := h
  obtain ⟨u, rfl, ru⟩ := vals1 r
  obtain ⟨as, hr⟩ := Dp.reads I d x u hD ru
  cases hD with
  | non =>
    cases ru
    exact PySem.P.repr_of_none ⟨.str _, H, I.tok _, ⟨_, rfl⟩, by simpa only [PyData.shown] using q⟩
  | bl b =>
    cases ru
    exact PySem.P.repr_of_bool ⟨.str _, H, I.tok _, ⟨_, rfl⟩, by simpa only [PyData.shown] using q⟩
  | int i =>
    obtain ⟨t, rfl⟩ := ru
    exact PySem.P.repr_of_int (by simpa [PyData.showable] using hs) ⟨.str _, H, I.tok _, ⟨_, rfl⟩, by simpa only [PyData.shown] using q⟩
  | str z =>
    obtain ⟨t, rfl⟩ := ru
    exact PySem.P.repr_of_str ⟨.str _, H, I.tok _, ⟨_, rfl⟩, by simpa only [PyData.shown] using q⟩ (by simpa only [PyData.shown] using hz)
  | lst h1 h2 =>
    cases ru
    exact repr_of_reads' hr hs (PyData.noDict_hsm hd) hG (by omega) (fun _ _ e => e) (fun h' u tk hk => ⟨.str _, H, I.kept hk, ⟨_, rfl⟩, q⟩) hz
  | tup h1 h2 =>
    cases ru
    exact repr_of_reads' hr hs (PyData.noDict_hsm hd) hG (by omega) (fun _ _ e => e) (fun h' u tk hk => ⟨.str _, H, I.kept hk, ⟨_, rfl⟩, q⟩) hz
end Vk

namespace Vk
open PySem PySem.Spec PyProof.Rows L2
/-! ### defs by their names -/
/-- the def of this name keeps the promise -/
def Cal (P : Program) (w : World) (K : PySem.W.Frag) (mg : Str → Option Value) (base : Heap) (k : Nat) (x : Str) (ps : List Str) (sp : Sp) : Prop :=
  ∃ f fd, FnOk P w K mg base CX0 k f fd ps sp ∧ mg x = some (.ref f) ∧ PySem.W.keepIn K (.ref f) = true ∧ Binds K fd ps []
def CalG (P : Program) (w : World) (K : PySem.W.Frag) (mg : Str → Option Value) (base : Heap) (k : Nat) (x : Str) (ps : List Str) (sp : Sp) : Prop :=
  ∃ f fd, FnG P w K mg base k f fd ps sp ∧ mg x = some (.ref f) ∧ PySem.W.keepIn K (.ref f) = true ∧ Binds K fd ps []
/-- the reading of a call -/
def tCal (sp : Sp) (t : TA) : TE := fun σ H Q => t σ H fun vs H1 => sp vs H1 Q E0
section
variable {X : Cx} {k : Nat} {ps : List Str} {sp : Sp} {x : Str} {p pos : Pos} {e : Expr} {es : List Expr} {t : TA}
theorem call_ (C : Cal X.prog X.w X.K X.mg X.base k x ps sp) (hr : Room k X.A) (hg : Gl X x) (ha : PA X (e :: es) t) (hdb : (x == ("__debug__" : Str)) = false := by decide)
    (he : starEach (e :: es) X.env = (false, eval e X.env) :: starEach es X.env := by rfl) (hpl : (backTo pos (starEach es X.env)).any (·.1) = false := by rfl) :
    PE X (.Call (.Name x p) (e :: es) [] pos) (tCal sp t) := by
  obtain ⟨f, fd, F, hm, hk, hb⟩ := C
  refine ⟨fun pins s σ H Q I h => ?_⟩
  refine (pe_call F hr hg hm hk hb .nil pass0 ha hdb he hpl).run pins s σ H Q I ?_
  show t σ H fun vs H1 => sp (vs ++ []) H1 Q E0
  have e0 : (fun vs H1 => sp (vs ++ []) H1 Q E0) = fun vs H1 => sp vs H1 Q E0 := by
    funext vs H1
    rw [List.append_nil]
  rw [e0]
  exact h
theorem callG (hG : Quiet X.A) (C : CalG X.prog X.w X.K X.mg X.base k x ps sp) (hr : Room k X.A) (hg : Gl X x) (ha : PA X (e :: es) t) (hdb : (x == ("__debug__" : Str)) = false := by decide)
    (he : starEach (e :: es) X.env = (false, eval e X.env) :: starEach es X.env := by rfl) (hpl : (backTo pos (starEach es X.env)).any (·.1) = false := by rfl) :
    PE X (.Call (.Name x p) (e :: es) [] pos) (tCal sp t) := by
  obtain ⟨f, fd, F, hm, hk, hb⟩ := C
  exact ⟨fun pins s σ H Q I h => (pe_callG hG F hr hg hm hk hb ha hdb he hpl).run pins s σ H Q I h⟩
end
/-! ### ints of any size -/
def CDivX (_ j : Int) : Prop := j ≠ 0 ∧ j.natAbs.log2 < 9000
theorem op_fdivX {X : Cx} : OpR X (binaryOp .FloorDiv) (rI CDivX fun i j => .int (i.fdiv j)) :=
  opI fun _ _ _ _ _ _ _ hc q => floordiv_int hc.1 q (.inl (PyProof.noPylong_of_log2 hc.2))
/-! ### heaps -/
/-- all but what stands at m stays -/
def SameBut (m : Addr) (H H' : Hp) : Prop := ∀ b o, b ≠ m → H b = some o → H' b = some o
theorem SameBut.refl (m : Addr) (H : Hp) : SameBut m H H := fun _ _ _ h => h
theorem SameBut.trans {m : Addr} {H H1 H2 : Hp} (a : SameBut m H H1) (b : SameBut m H1 H2) : SameBut m H H2 := fun c o n h => b c o n (a c o n h)
theorem SameBut.of {m : Addr} {H H1 : Hp} (a : Same H H1) : SameBut m H H1 := fun c o _ h => a c o h
theorem same_new {H : Hp} {p : Addr} {o : HO} (h : H p = none) : Same H (upd H p o) := fun b x e => by
  rw [upd_ne (ne_of_none e h)]
  exact e
theorem but_put {H : Hp} {m : Addr} {o : HO} : SameBut m H (upd H m o) := fun b x n e => by
  rw [upd_ne n]
  exact e
end Vk

namespace Vk
open PySem PySem.Spec PyProof.Rows L2
theorem same_put {H H1 : Hp} {q : Addr} {o : HO} (s : Same H H1) (hq : H q = none) : Same H (upd H1 q o) := fun b x e => by
  rw [upd_ne (ne_of_none e hq)]
  exact s b x e
theorem cut_ints (ns : List Int) (a b : Option Int) : ∃ l : List Int, cutV (ns.map V.int) a b = l.map V.int ∧ l.length ≤ ns.length := by
  refine ⟨(ns.drop (HT.sIx (ns.map V.int).length 0 a)).take (HT.sIx (ns.map V.int).length (ns.map V.int).length b - HT.sIx (ns.map V.int).length 0 a), ?_, ?_⟩
  · unfold cutV
    rw [← List.map_drop, ← List.map_take]
  · rw [List.length_take, List.length_drop]
    omega
/-- a list of ints as data -/
theorem dp_ints {K : PySem.W.Frag} {H : Hp} : ∀ ns : List Int, DpAll K H (ns.map V.int) (ns.map PyData.int)
  | [] => .nil
  | n :: r => .cons (.int n) (dp_ints r)
theorem lay_ints : ∀ ns : List Int, PyData.canLayAll0 (ns.map PyData.int) = true ∧ PyData.depthAll (ns.map PyData.int) = 0
  | [] => ⟨by simp [PyData.canLayAll0], by simp [PyData.depthAll]⟩
  | n :: r => by
    obtain ⟨h1, h2⟩ := lay_ints r
    exact ⟨by simp [PyData.canLayAll0, PyData.canLay0, h1], by simp [PyData.depthAll, PyData.depth, h2]⟩
theorem shaped_ints (ns : List Int) : SeqAt.shaped (.list (ns.map PyData.int)) = true := by
  obtain ⟨h1, h2⟩ := lay_ints ns
  simp [SeqAt.shaped, PyData.canLay0, PyData.depth, h1, h2]
end Vk

namespace Vk
open PySem PySem.Spec PyProof.Rows L2
/-- both ways of a conditional expression lead to what follows -/
theorem tif_both {c : Bool} {ta tb : TE} {σ : L2.St} {H : Hp} {Q : VK} (Good : V → Prop) (hQ : ∀ v, Good v → Q v H) (ha : c = true → (∀ v, Good v → Q v H) → ta σ H Q) (hb : c = false → (∀ v, Good v → Q v H) → tb σ H Q) :
    if c = true then ta σ H Q else tb σ H Q := by
  cases c with
  | true => exact iteT (ha rfl hQ)
  | false => exact iteF (hb rfl hQ)
end Vk
/-! The end of a law row for a promise of the quiet kind. -/
namespace Vk
open PySem PySem.Spec PyProof.Rows L2

section
variable {P : Program} {w : World} {K : PySem.W.Frag} {mg mb : Str → Option Value} {k : Nat} {fa a : Addr} {fd : FuncData} {x : Str} {sp : Sp} {s₁ : Shared} {vs : List Value} {ns : List Int}
/-- from one abstract heap that holds -/
theorem law_coreG (H : Hp) (KX : K.In s₁.heap) (hns : s₁.heap.Ns mainGlobals mg) (hb : s₁.heap.Ns builtinsNs mb) (hbb : ∀ x : Str, x ≠ "__name__" → mb x = bootBuiltins x) (hlim : s₁.heap.NoLimit) (hg : s₁.gens = #[])
    (ha : s₁.heap.get? a = some { cls := .type "list", data := .seq vs.toArray }) (hr : Room k callerA)
    (F : ∀ base : Heap, K.In base → base.Ns mainGlobals mg → FnG P w K mg base k fa fd [x] sp) (hbind : ∀ (s : Shared) (u : Value), BindsTo s fd ⟨[u], []⟩ [(x, u)])
    (hO : Only H) (hsp : sp [.ref a] H (fun v _ => v = .bl true) fun _ _ _ => False) (hok : HOk P w H s₁.heap) (hA : ∀ b u, H b = some u → b = a) (hK : ∀ u, H a = some u → K.lookup a = none) :
    codeAny (model P w) callerA (.call (.ref fa) ⟨[.ref a], []⟩) (fun r s' => r = .ok (.ret (.bool true)) ∧ OldK s₁.heap s'.heap ∧ s'.os = s₁.os ∧ AllBare s'.gens) s₁ := by
  have free : ∀ {b : Addr} {o : Obj}, s₁.heap.get? b = some o → (∀ n, o.data ≠ .seq vs.toArray n) → H b = none := fun {b o} e d => by
    cases q : H b with
    | none => rfl
    | some u =>
      obtain rfl := hA b u q
      rw [ha] at e
      exact absurd rfl (by have := Option.some.inj e; subst this; exact d _)
  have nsK : ∀ {b : Addr} {m : Str → Option Value}, s₁.heap.Ns b m → (hidT s₁.heap H).Ns b m := by
    rintro b m ⟨o, es, ep, e, d, r⟩
    exact ⟨o, es, ep, hidT_get e (free e fun n z => by rw [d] at z; cases z), d, r⟩
  have inB : K.In (hidT s₁.heap H) := fun b o e => by
    refine hidT_get (KX b o e) ?_
    cases q : H b with
    | none => rfl
    | some u =>
      obtain rfl := hA b u q
      rw [hK u q] at e
      cases e
  have lim : (hidT s₁.heap H).NoLimit := by
    obtain ⟨mc, h1, h2⟩ := hlim
    exact ⟨mc, nsK h1, h2⟩
  have M : Mod K mg (hidT s₁.heap H) := { kin := inB, glob := nsK hns, blt := ⟨mb, nsK hb, hbb⟩, nolimit := lim }
  have E : Env0 P w K mg (hidT s₁.heap H) callerA [] s₁ H := by
    refine { frames := rfl, mod := M, bs := fun b o e => of_hidT e, bsz := Nat.le_of_eq (hidT_size _ _), funs := trivial, frf := ?_, hok := hok, bare := .of_eq hg }
    intro b z
    cases (show b ∈ ([] : List Addr) from z)
  have R := (F _ inB (nsK hns)).run callerA [] s₁ H ⟨[.ref a], []⟩ [.ref a] [.ref a] _ _ rfl hr E (hbind s₁ (.ref a)) (.cons rfl .nil) hsp
  refine codeAny_mono R ?_
  intro r s' h
  match r, h with
  | .error e, h => exact False.elim h
  | .ok (.ret u), ⟨v, H', os, bare, un, hok', rv, q⟩ =>
    obtain rfl : v = .bl true := q
    obtain rfl : u = Value.bool true := rv
    refine ⟨rfl, OldK.of_keep fun b o e => ?_, os, bare⟩
    rcases hO b with z | ⟨ob, xs, z⟩
    · refine un.keep b o e z (fun m => ?_) (fun m => ?_)
      · cases (show b ∈ ([] : List Addr) from m)
      · cases m
    · have p1 := (hok b _ z).1
      have p2 := (hok' b _ (un.frzs b ob _ z)).1
      exact p2.trans (p1.symm.trans e)
/-- the law's promise, at the heap behind the top -/
theorem law_callG (KX : K.In s₁.heap) (hns : s₁.heap.Ns mainGlobals mg) (hb : s₁.heap.Ns builtinsNs mb) (hbb : ∀ x : Str, x ≠ "__name__" → mb x = bootBuiltins x) (hlim : s₁.heap.NoLimit) (hg : s₁.gens = #[])
    (ha : s₁.heap.get? a = some { cls := .type "list", data := .seq vs.toArray }) (hi : IntsAre vs ns) (hl : ns.length ≤ sizeLine) (hr : Room k callerA)
    (F : ∀ base : Heap, K.In base → base.Ns mainGlobals mg → FnG P w K mg base k fa fd [x] sp) (hbind : ∀ (s : Shared) (u : Value), BindsTo s fd ⟨[u], []⟩ [(x, u)])
    (hsp : ∀ H : Hp, Only H → SqL K H a (ns.map V.int) → sp [.ref a] H (fun v _ => v = .bl true) fun _ _ _ => False) :
    codeAny (model P w) callerA (.call (.ref fa) ⟨[.ref a], []⟩) (fun r s' => r = .ok (.ret (.bool true)) ∧ OldK s₁.heap s'.heap ∧ s'.os = s₁.os ∧ AllBare s'.gens) s₁ := by
  have rv := vals_ints hi
  cases hk : K.lookup a with
  | some o =>
    have e := (KX a o hk).symm.trans ha
    obtain rfl := Option.some.inj e
    have hO : Only (fun _ => none) := fun _ => .inl rfl
    refine law_coreG (fun _ => none) KX hns hb hbb hlim hg ha hr F hbind hO (hsp _ hO (.inr ⟨_, vs.toArray, _, hk, rfl, rfl, rfl, ?_, ?_⟩)) ?_ ?_ ?_
    · rw [List.size_toArray, hi.length]
      exact hl
    · simpa using rv
    · intro b u z
      cases (show (none : Option HO) = some u from z)
    · intro b u z
      cases (show (none : Option HO) = some u from z)
    · intro u z
      cases (show (none : Option HO) = some u from z)
  | none =>
    let fz : HO := .frz { cls := .type "list", data := .seq vs.toArray } (.lst (ns.map V.int))
    have only : ∀ b u, upd (fun _ => none) a fz b = some u → b = a ∧ u = fz := fun b u z => by
      by_cases e : b = a
      · subst e
        rw [upd_same] at z
        exact ⟨rfl, (Option.some.inj z).symm⟩
      · rw [upd_ne e] at z
        cases z
    have hO : Only (upd (fun _ => none) a fz) := fun b => by
      cases q : upd (fun _ => none) a fz b with
      | none => exact .inl rfl
      | some u =>
        obtain ⟨_, rfl⟩ := only b u q
        exact .inr ⟨_, _, rfl⟩
    refine law_coreG _ KX hns hb hbb hlim hg ha hr F hbind hO (hsp _ hO (.inl (.inr ⟨_, upd_same⟩))) ?_ (fun b u z => (only b u z).1) (fun _ _ => hk)
    intro b u z
    obtain ⟨rfl, rfl⟩ := only b u z
    refine ⟨ha, ?_, vs, _, rv, ha⟩
    rw [List.length_map]
    exact hl
end

/-- the end of the row -/
theorem walk_ofG {l : PySem.W.OpenLaw} {n k : Nat} {q : Program} {loose : List Str} {XP : (Str → Option Value) → Heap → Prop} {YP : World → Heap → Prop} {d : DefRec} {K : Params → PySem.W.Frag} {sp : PySem.W.Frag → Sp} {x : Str}
    (hn : l.most = some n) (hn2 : n ≤ sizeLine) (hdf : d.params.defaults = []) (hr : Room k callerA)
    (hY : ∀ (w : World) (h : Heap), YP w h → (K w.params).In h)
    (F : ∀ (w : World) (mg : Str → Option Value) (fa : Addr) (h : Heap), (K w.params).In h → h.Ns mainGlobals mg → mg d.name = some (.ref fa) →
      ∃ fd : FuncData, (∀ (s : Shared) (u : Value), BindsTo s fd ⟨[u], []⟩ [(x, u)]) ∧
        ∀ base : Heap, (K w.params).In base → base.Ns mainGlobals mg → FnG l.prog w (K w.params) mg base k fa fd [x] (sp (K w.params)))
    (hsp : ∀ (K : PySem.W.Frag) (H : Hp) (a : Addr) (ns : List Int), ns.length ≤ n → Only H → SqL K H a (ns.map V.int) → sp K [.ref a] H (fun v _ => v = .bl true) fun _ _ _ => False) :
    PySem.W.WalkO q loose XP YP l.row.toRowW d [] (fun f vs => PySem.call f vs) := by
  refine Att.attach_call hn hdf ?_
  intro w s₀ s₁ mg mb fa o pm cd doc a vs ns G Y ho hd hcd hmg hobj hints hlen hg
  obtain ⟨fd, hb, hF⟩ := F w mg fa _ (hY w _ Y) G.T.g hmg
  exact law_callG (hY w _ Y) G.T.g G.T.b G.T.builtins G.T.nolimit hg hobj hints (Nat.le_trans hlen hn2) hr hF hb fun H hO hS => hsp _ H a ns hlen hO hS
end Vk
/-! Data that is shown by a short text. -/
namespace Vk
open PySem PySem.Spec PyProof.Rows L2
/-- levels at most k, items at most n, each int of few bits -/
structure FitN (k n : Nat) (d : PyData) : Prop where
  s : d.showable = true
  h : d.hasDict = false
  dp : d.depth ≤ k
  l : d.leavesShort 2000 = true
  b : d.bulk ≤ n
structure FitLN (k n : Nat) (ds : List PyData) : Prop where
  s : PyData.showableAll ds = true
  h : PyData.hasDictAll ds = false
  dp : PyData.depthAll ds ≤ k
  l : PyData.leavesShortAll 2000 ds = true
  b : PyData.bulkAll ds ≤ n
theorem FitLN.nil {k n : Nat} : FitLN k n [] := ⟨by simp [PyData.showableAll], by simp [PyData.hasDictAll], by simp [PyData.depthAll], by simp [PyData.leavesShortAll], by simp [PyData.bulkAll]⟩
theorem FitLN.cons {k a b n : Nat} {d : PyData} {ds : List PyData} (x : FitN k a d) (y : FitLN k b ds) (hn : a + 1 + b ≤ n) : FitLN k n (d :: ds) :=
  ⟨by simp [PyData.showableAll, x.s, y.s], by simp [PyData.hasDictAll, x.h, y.h], by have := x.dp; have := y.dp; simp only [PyData.depthAll]; omega, by simp [PyData.leavesShortAll, x.l, y.l], by have := x.b; have := y.b; simp only [PyData.bulkAll]; omega⟩
theorem FitN.list {k n : Nat} {ds : List PyData} (y : FitLN k n ds) : FitN (k + 1) n (.list ds) :=
  ⟨by simp [PyData.showable, y.s], by simp [PyData.hasDict, y.h], by have := y.dp; simp only [PyData.depth]; omega, by simp [PyData.leavesShort, y.l], by have := y.b; simp only [PyData.bulk]; omega⟩
theorem FitN.tup {k n : Nat} {ds : List PyData} (y : FitLN k n ds) : FitN (k + 1) n (.tuple ds) :=
  ⟨by simp [PyData.showable, y.s], by simp [PyData.hasDict, y.h], by have := y.dp; simp only [PyData.depth]; omega, by simp [PyData.leavesShort, y.l], by have := y.b; simp only [PyData.bulk]; omega⟩
theorem FitN.non {k n : Nat} : FitN k n .none := ⟨by simp [PyData.showable], by simp [PyData.hasDict], by simp [PyData.depth], by simp [PyData.leavesShort], by simp [PyData.bulk]⟩
theorem FitN.bl {k n : Nat} (b : Bool) : FitN k n (.bool b) := ⟨by simp [PyData.showable], by simp [PyData.hasDict], by simp [PyData.depth], by simp [PyData.leavesShort], by simp [PyData.bulk]⟩
theorem FitN.int {k n : Nat} {i : Int} (hi : i.natAbs < 2 ^ 1900) : FitN k n (.int i) := by
  have lg : i.natAbs.log2 < 1900 := PySem.Flt.log2_lt_of (by decide) hi
  refine ⟨by simp only [PyData.showable, decide_eq_true_eq]; omega, by simp [PyData.hasDict], by simp [PyData.depth], ?_, by simp [PyData.bulk]⟩
  have h1 := int_text_length_le (by decide) lg
  have h2 : (PyData.shown (.int i)).length = (Str.ofString (toString i)).length := by simp only [PyData.shown]
  rw [PySem.ofString_length] at h2
  have h3 : (PyData.shown (.int i)).length ≤ 2000 := by omega
  simpa only [PyData.leavesShort, decide_eq_true_eq] using h3
theorem FitN.str {k n : Nat} (x : Str) (h : (x.cps.toList.all fun c => decide (c < 16 ^ 8)) = true) (hn : x.cps.size ≤ n) : FitN k n (.str x) :=
  ⟨by simp [PyData.showable], by simp [PyData.hasDict], by simp [PyData.depth], by simpa only [PyData.leavesShort] using h, by simp only [PyData.bulk]; omega⟩
theorem FitN.mono {k n k' n' : Nat} {d : PyData} (x : FitN k n d) (h1 : k ≤ k') (h2 : n ≤ n') : FitN k' n' d := ⟨x.s, x.h, Nat.le_trans x.dp h1, x.l, Nat.le_trans x.b h2⟩
/-- the text is not too long -/
theorem FitN.len {k n : Nat} {d : PyData} (x : FitN k n d) (hn : n ≤ 8000) : d.shown.length ≤ sizeLine := by
  have h := PyData.shown_le_bulk 2000 (by decide) d x.l
  have h2 : (2000 + 2) * d.bulk ≤ 2002 * 8000 := Nat.mul_le_mul_left _ (Nat.le_trans x.b hn)
  rw [sizeLine_eq]
  omega
/-- the text of a short value -/
def Fit (d : PyData) : Prop := FitN 60 8000 d
theorem rep_ {K : PySem.W.Frag} {H : Hp} {x : V} {d : PyData} {Q : VK} (hD : Dp K H x d) (f : Fit d) (q : Q (.str d.shown) H) : rRep K [x] H Q := ⟨x, d, rfl, hD, f.s, f.h, f.dp, f.len (Nat.le_refl _), q⟩
end Vk
namespace Vk
open PySem PySem.Spec PyProof.Rows L2
/-- both ways of an if lead to what follows -/
theorem tifs_both {c : Bool} {t u : TS} {D : Ends} {σ : L2.St} {H : Hp} (Good : L2.St → Hp → Prop) (hQ : ∀ σ' H', Good σ' H' → D.nx σ' H') (ht : c = true → (∀ σ' H', Good σ' H' → D.nx σ' H') → t D σ H)
    (hu : c = false → (∀ σ' H', Good σ' H' → D.nx σ' H') → u D σ H) : if c = true then t D σ H else u D σ H := by
  cases c with
  | true => exact iteT (ht rfl hQ)
  | false => exact iteF (hu rfl hQ)
theorem SameBut.free {m p : Addr} {H H' : Hp} (s : SameBut m H H') (hm : ∃ o, H' m = some o) (h : H' p = none) : H p = none := by
  cases q : H p with
  | none => rfl
  | some o =>
    by_cases e : p = m
    · subst e
      obtain ⟨o', z⟩ := hm
      rw [h] at z
      cases z
    · have z := s p o e q
      rw [h] at z
      cases z
end Vk
namespace Vk
open PySem PySem.Spec PyProof.Rows L2
/-- both ways of a conditional expression lead to what follows, where they make things -/
theorem tif_bothH {c : Bool} {ta tb : TE} {σ : L2.St} {H : Hp} {Q : VK} (Good : V → Hp → Prop) (hQ : ∀ v H', Good v H' → Q v H') (ha : c = true → (∀ v H', Good v H' → Q v H') → ta σ H Q) (hb : c = false → (∀ v H', Good v H' → Q v H') → tb σ H Q) :
    if c = true then ta σ H Q else tb σ H Q := by
  cases c with
  | true => exact iteT (ha rfl hQ)
  | false => exact iteF (hb rfl hQ)
end Vk
/-! An exception that is caught and kept in a local. -/
namespace Vk
open PySem PySem.Spec PyProof.Rows L2
/-- an exception of the class cls, own dict d, that was caught -/
def ExK (cls : Value) (d : Option Addr) (a : Addr) : HO := .ext fun h => ∃ oe : Obj, h.get? a = some oe ∧ Zc cls d oe ∧ ∃ vs, oe.data = .fields vs
section
variable {X : Cx} {pins : List (Addr × Obj)} {σ : L2.St} {H : Hp} {s : Shared}
/-- what is pinned is tracked from now on -/
theorem keep_pinned {a : Addr} {oe : Obj} {cls : Value} {d : Option Addr} (I : Inv X ((a, oe) :: pins) σ H s) (hz : Zc cls d oe) (hf : ∃ vs, oe.data = .fields vs) (n0 : X.s_0.heap.get? a = none) (np : ∀ p ∈ X.pn ++ pins, p.1 ≠ a) :
    Inv X pins σ (upd H a (ExK cls d a)) s := by
  obtain ⟨ga, na, nL, nF, nc⟩ := I.pin (a, oe) (List.mem_append_right _ List.mem_cons_self)
  have ga : s.heap.get? a = some oe := ga
  have na : H a = none := na
  have nC : ∀ x c, X.env.cells.lookup x = some c → c ≠ a := by
    rintro x c e rfl
    obtain ⟨v, o, ho, hd⟩ := I.cell x c e
    obtain rfl := Option.some.inj (ho.symm.trans ga)
    exact nc v hd
  have off : ∀ b, b ≠ a → upd H a (ExK cls d a) b = H b := fun b hb => upd_ne hb
  have some_ne : ∀ b u, H b = some u → b ≠ a := fun b u e z => by
    rw [z, na] at e
    cases e
  refine { ok := I.ok, os := I.os, bare := I.bare, base := ?_, loc := I.loc, cell := I.cell, free := ?_, freeC := ?_, pin := ?_, hok := ?_, len := I.len }
  · have old : ∀ b o, X.s_0.heap.get? b = some o → b ≠ a := fun b o e z => by
      rw [z, n0] at e
      cases e
    refine { keep := I.base.keep, slot := I.base.slot, free := ?_, there := I.base.there, tups := ?_, frzs := ?_, tbls := ?_ }
    · intro b o e n hx
      rw [off b (old b o e)]
      exact I.base.free b o e n hx
    · intro b xs e
      have q := I.base.tups b xs e
      rw [off b (some_ne b _ q)]
      exact q
    · intro b o u e
      have q := I.base.frzs b o u e
      rw [off b (some_ne b _ q)]
      exact q
    · intro b ps e
      obtain ⟨more, q⟩ := I.base.tbls b ps e
      refine ⟨more, ?_⟩
      rw [off b (some_ne b _ q)]
      exact q
  · rw [off _ (Ne.symm nL)]
    exact I.free
  · intro x c e
    rw [off c (nC x c e)]
    exact I.freeC x c e
  · intro p hp
    have hp' : p ∈ X.pn ++ (a, oe) :: pins := by
      rcases List.mem_append.mp hp with z | z
      · exact List.mem_append_left _ z
      · exact List.mem_append_right _ (List.mem_cons_of_mem _ z)
    obtain ⟨e1, e2, e3, e4, e5⟩ := I.pin p hp'
    refine ⟨e1, ?_, e3, e4, e5⟩
    rw [off p.1 (np p hp)]
    exact e2
  · intro b u e
    by_cases hb : b = a
    · subst hb
      rw [upd_same] at e
      obtain rfl := Option.some.inj e
      exact ⟨⟨oe, ga, hz, hf⟩, ⟨oe, ga⟩, fun h1 h2 ⟨o, q1, q2, q3⟩ st => ⟨o, st o q1, q2, q3⟩⟩
    · rw [off b hb] at e
      refine (I.hok b u e).stay (fun c v _ q => q) (fun c q => ?_) (fun c xs q => ?_)
      · rw [off c (some_ne c _ q)]
        exact q
      · rw [off c (some_ne c _ q)]
        exact q
end
/-- the wish of an except clause that keeps what it caught: the exception is known behind it -/
def wKp (K : PySem.W.Frag) (len : Nat) (c : Value) (i : Nat) (ts : Addr → Value → Option Addr → TS) (D : Ends) : WX := fun cls d σ H =>
  PySem.W.exmOne K cls c = some true ∧ (σ.length = len → ∀ a, H a = none →
    ts a cls d { nx := fun σ' H' => D.nx (σ'.set i none) (upd H' a (ExK cls d a)), rt := fun _ _ => False, bk := fun _ _ => False, ct := fun _ _ => False } (σ.set i (some (.ref a))) H)
section
variable {X : Cx} {x n : Str} {c : Value} {i : Nat} {body suite : List Stmt} {b₀ : Stmt} {np pos pos' : Pos} {tb : WX → TS} {ts : Addr → Value → Option Addr → TS}
/-- what is wanted of an exception of the body: the clauses look at it -/
def landing (X : Cx) (hs : List ExceptHandler) (R : Flow → Shared → Prop) : Value → Shared → Prop := fun e s0 =>
  wpAny (model X.prog X.w) X.A (noteFrame e X.env) (fun _ s1 => wpAny (model X.prog X.w) X.A (setFlight e none)
    (fun _ s2 => wpAny (model X.prog X.w) X.A (handleBy e X.env hs) R X.xe s2) X.xe s1) X.xe s0
/-- try: .. except x as n: suite (the suite runs through) -/
theorem ps_try_keep (hs : X.stack = X.env :: X.outer) (hf : X.env.frame = some X.env.locals) (hex : X.ex = []) (hN : X.N.Nodup) (hi : X.N[i]? = some n) (hln : X.env.kindOf n = some .local) (hc : Names X x c)
    (hb : ∀ (W : WX) (pn : List (Addr × Obj)) (xe : Value → Shared → Prop), Takes (X.tr pn xe) W → PassesOwn (model X.prog X.w) X.A X.env xe → PSs (X.tr pn xe) body (tb W))
    (hsu : ∀ (a : Addr) (oe : Obj) (cls : Value) (d : Option Addr) (pn : List (Addr × Obj)), Zc cls d oe → (∃ vs, oe.data = .fields vs) → PSs (X.suite a ((a, oe) :: pn)) (b₀ :: suite) (ts a cls d)) :
    PS X (.Try body [.ExceptHandler (some (.Name x np)) (some n) (b₀ :: suite) pos'] [] [] pos) (fun D σ H => tb (wKp X.K X.N.length c i ts D) D σ H) := by
  refine ⟨fun pins s σ H D I h => wpAny_Try_except ?_⟩
  have ok := I.ok
  have frm : X.A.frames = some (X.env :: X.outer) := by rw [ok.frames, hs]
  have run := (hb (wKp X.K X.N.length c i ts D) (X.pn ++ pins) (landing X [.ExceptHandler (some (.Name x np)) (some n) (b₀ :: suite) pos'] (SP X pins D)) (fun u s' xx => ?_) PassesOwn.looking).run [] s σ H D (I.toTry _) h
  · refine wpAny_mono run (fun fl s1 hsp => ?_) (fun e s1 he => he)
    match fl, hsp with
    | .next, ⟨σ', H', J, q⟩ => exact wpAny_execs_nil ⟨σ', H', J.ofTry ok, q⟩
    | .brk, ⟨σ', H', J, q⟩ => exact ⟨σ', H', J.ofTry ok, q⟩
    | .cont, ⟨σ', H', J, q⟩ => exact ⟨σ', H', J.ofTry ok, q⟩
    | .ret u, ⟨v, σ', H', J, r, q⟩ => exact ⟨v, σ', H', J.ofTry ok, r, q⟩
  · -- what was raised lands here
    obtain ⟨a, B, sI, pins', σ', H', cls, d, rfl, J', nb, up, sky, na, os, ag, hyes, hgo⟩ := xx
    have J : Inv X pins σ' H' sI := J'.ofTry ok
    have air : Sky B (X.env :: X.outer) a (Zc cls d) X.env.locals s'.heap := by
      rw [← hs]
      exact sky
    show wpAny (model X.prog X.w) X.A (noteFrame (.ref a) X.env) _ _ _
    refine Sky.land Zc.steady frm hf air fun h3 fl3 up3 => ?_
    have J3 : Inv X pins σ' H' { s' with heap := h3 } := J.landed nb fl3.1 (up.trans up3) os ag
    obtain ⟨oe3, vs3, he3, hz3, hd3⟩ := fl3.there
    have nB : B.get? a = none := fl3.2.1
    have nfr : a ∉ frs (X.env :: X.outer) := fun hm => by
      obtain ⟨_, o', e', hnf⟩ := fl3.2.2.1.mem hm
      obtain rfl := Option.some.inj (he3.symm.trans e')
      exact hnf _ hd3
    have nL : a ≠ X.env.locals := fun z => nfr (List.mem_filterMap.mpr ⟨X.env, List.mem_cons_self, by rw [hf, z]⟩)
    have nF : a ∉ X.fs := fun hm => by
      obtain ⟨e, he, q⟩ := List.mem_filterMap.mp hm
      exact nfr (List.mem_filterMap.mpr ⟨e, List.mem_cons_of_mem _ he, q⟩)
    have fresh : ∀ b o, sI.heap.get? b = some o → b ≠ a := by
      rintro b o e rfl
      have z := nb b o e (by rw [hs]; exact nfr)
      rw [nB] at z
      cases z
    have n0 : X.s_0.heap.get? a = none := by
      cases q : X.s_0.heap.get? a with
      | none => rfl
      | some o =>
        obtain ⟨o', z⟩ := J.base.there a o q (by rw [hex]; exact List.not_mem_nil)
        exact absurd rfl (fresh a o' z)
    have npp : ∀ p ∈ X.pn ++ pins, p.1 ≠ a := fun p hp => fresh p.1 p.2 (J.pin p hp).1
    have S3 := J3.suite he3 hd3 na nL nF
    refine wpAny_handleBy_cons (codeAny_handlers_test ?_) (by intro q; cases q)
    have seen : PySem.W.Looks (model X.prog X.w) h3 (typeOf (.ref a)) cls := fun A Q E s k q => wpAny_typeOf_ref (k _ _ he3) (by
      rw [hz3.1]
      exact q)
    have fits := PySem.W.exm_one (M := model X.prog X.w) J3.kIn seen hyes
    have look : ∀ {Q : Value → Shared → Prop} {E : Value → Shared → Prop}, Q c { s' with heap := h3 } → wpAny (model X.prog X.w) (X.A.mark (some (.ref a))) (eval (.Name x np) X.env) Q E { s' with heap := h3 } := by
      intro Q E q
      obtain ⟨hg, hdbg, hm | ⟨hm, hv, hnn⟩⟩ := hc
      · exact ld_glob (X := X.suite a ((a, oe3) :: (X.pn ++ pins))) S3 hg hm q hdbg
      · exact ld_blt (X := X.suite a ((a, oe3) :: (X.pn ++ pins))) S3 hg hm hv q hnn hdbg
    refine look (fits.here (codeAny_handlers_suite_as ?_))
    refine HandSPX.lands_againZ fl3 fun h4 fl4 up4 => ?_
    have J4 : Inv X pins σ' H' { s' with heap := h4 } := J.landed nb fl4.1 ((up.trans up3).trans up4) os ag
    obtain ⟨oe4, vs4, he4, hz4, hd4⟩ := fl4.there
    have S4 := J4.suite he4 hd4 na nL nF
    refine store_ok (X := X.suite a ((a, oe4) :: (X.pn ++ pins))) (v := .ref a) S4 hN hi (.inl hln) rfl (fun s5 S5 => ?_) (.inr hln)
    refine wpAny_mono ((hsu a oe4 cls d (X.pn ++ pins) hz4 ⟨_, hd4⟩).run [] s5 _ H' _ S5 (hgo J.len a na)) (fun fl s6 hsp => ?_) (fun _ _ z => False.elim z)
    match fl, hsp with
    | .brk, ⟨_, _, _, q⟩ => exact False.elim q
    | .cont, ⟨_, _, _, q⟩ => exact False.elim q
    | .ret u, ⟨_, _, _, _, _, q⟩ => exact False.elim q
    | .next, ⟨σ6, H6, S6, q6⟩ =>
      obtain ⟨g6, n6, _⟩ := S6.pin (a, oe4) (List.mem_append_left _ List.mem_cons_self)
      have J6 : Inv X ((a, oe4) :: pins) σ6 H6 s6 := (S6.unsuite ok).pins_of fun p hp => by
        rcases List.mem_cons.mp hp with e | hp
        · rw [e]
          exact ⟨g6, n6, nL, nF, fun v z => by
            have z' : oe4.data = .cell v := z
            rw [hd4] at z'
            cases z'⟩
        · exact (S6.unsuite ok).pin p (List.mem_append_right _ hp)
      exact gone_ok J6 hN hi hln fun s7 J7 => ⟨_, _, keep_pinned J7 hz4 ⟨_, hd4⟩ n0 npp, q6⟩
end
/-- isinstance(e, c), e such an exception -/
def rIsK (K : PySem.W.Frag) (D : Addr) : List V → Hp → VK → Prop := fun xs H Q => ∃ (a : Addr) (c : V) (cv : Value) (b : Bool), xs = [.ref a, c] ∧ H a = some (ExK (.ref D) none a) ∧ ClsV c cv ∧ PySem.W.kitOne K (.ref D) cv = some b ∧ Q (.bl b) H
theorem call_isK {X : Cx} {D : Addr} (C : ExcC X.K D) : CallR X (.builtin "isinstance") (rIsK X.K D) := by
  intro pins s σ H xs us Q I r h
  obtain ⟨a, c, cv, b, rfl, ha, hcv, e, q⟩ := h
  obtain ⟨u1, u2, rfl, r1, r2⟩ := vals2 r
  obtain rfl : u1 = Value.ref a := r1
  obtain rfl := hcv.eq r2
  obtain ⟨⟨oe, g, hz, vs, hv⟩, _, _⟩ := I.hok a _ ha
  have J : PySem.W.InstAt s.heap a oe D none := by
    obtain ⟨oc, od, oda, osl⟩ := oe
    obtain ⟨h1, h2⟩ := hz
    dsimp only at h1 h2 hv
    subst h1 h2 hv
    exact ⟨g, rfl, rfl, trivial⟩
  exact PySem.W.kia_one (PySem.W.handS_kitx_exc C.hg C.hk C.hs C.hd C.ha C.hn C.ht C.hm) I.kIn J e (fun z => nomatch z) fun tk => ⟨.bl b, H, I.kept (t' := tk) fun _ _ z => z, rfl, q⟩
end Vk
/-! zip of a list and a tuple in any mix, enumerate of a tuple. -/
namespace Vk
open PySem PySem.Spec PyProof.Rows L2
/-- a list (true) or a tuple (false) -/
def SqK : Bool → PySem.W.Frag → Hp → Addr → List V → Prop
  | true => SqL
  | false => SqT
def ItA : Bool → Heap → Addr → Addr → Nat → Prop
  | true => Heap.IsListIter
  | false => Heap.IsTupleIter
def AtA : Bool → Heap → Addr → Array Value → Prop
  | true => Heap.IsList
  | false => Heap.IsTuple
/-- a new iterator's object -/
def itO : Bool → Addr → Obj
  | true, l => { cls := .type "list_iterator", data := .fields #[.ref l, .int 0 0] }
  | false, l => { cls := .type "tuple_iterator", data := .fields #[.ref l, .int 0 0] }
section
variable {X : Cx} {pins : List (Addr × Obj)} {σ : L2.St} {H : Hp} {s : Shared} {b : Bool} {a : Addr} {xs ys : List V} {h h' : Heap} {it l : Addr} {i : Nat}
theorem seqK (I : Inv X pins σ H s) (q : SqK b X.K H a xs) : ∃ its : List Value, Vals xs its ∧ AtA b s.heap a its.toArray := by
  cases b with
  | true =>
    obtain ⟨its, r, p, _⟩ := I.list q
    exact ⟨its, r, p.isList⟩
  | false =>
    obtain ⟨its, r, p, _⟩ := I.tuple q
    exact ⟨its, r, p⟩
theorem injK (I : Inv X pins σ H s) (q : SqK b X.K H a xs) (q' : SqK b X.K H a ys) : xs = ys := by
  cases b with
  | true => exact I.list_inj q q'
  | false => exact I.tuple_inj q q'
theorem ItA.at (q : ItA b h it l i) (k : ∀ o, h.get? it = some o → h'.get? it = some o) : ItA b h' it l i := by
  cases b with
  | true => exact Heap.IsListIter.at q k
  | false => exact Heap.IsTupleIter.at q k
theorem ItA.obj (q : ItA b h it l i) : ∃ o, h.get? it = some o ∧ ∀ v, o.data ≠ .cell v := by
  cases b with
  | true =>
    obtain ⟨o, e, _, d⟩ := q
    exact ⟨o, e, fun v z => by rw [d] at z; cases z⟩
  | false =>
    obtain ⟨o, e, _, d⟩ := q
    exact ⟨o, e, fun v z => by rw [d] at z; cases z⟩
theorem ItA.new (q : h.get? it = some (itO b l)) : ItA b h it l 0 := by
  cases b with
  | true => exact ⟨_, q, rfl, rfl⟩
  | false => exact ⟨_, q, rfl, rfl⟩
theorem drawsK {prog : Program} {w : World} {A : Around} (hh : A.handled = none) (hne : l ≠ it) (items : Array Value) :
    Draws prog w A it [it, l] items.size (fun i v => items[i]? = some v) (fun i h => ItA b h it l i ∧ AtA b h l items) := by
  cases b with
  | true => exact Draws.list hh it l hne items
  | false => exact Draws.tuple hh it l hne items
theorem beginsK (l : Addr) (items : Array Value) : Begins (.ref l) (itO b l) fun h => AtA b h l items := by
  cases b with
  | true => exact begins_list l items
  | false => exact begins_tuple l items
theorem AtA.lt {items : Array Value} (q : AtA b h l items) : l < h.objs.size := by
  cases b with
  | true =>
    obtain ⟨o, e, _⟩ := q
    exact Heap.lt_size e
  | false =>
    obtain ⟨o, e, _⟩ := q
    exact Heap.lt_size e
end
/-- two of either kind, the items in new pairs -/
def ItzK (b1 b2 : Bool) (K : PySem.W.Frag) (a b : Addr) : It :=
  ⟨fun i H => ∃ (xs ys : List V) (x y : V), SqK b1 K H a xs ∧ SqK b2 K H b ys ∧ xs[i]? = some x ∧ ys[i]? = some y,
    fun i H v H' => ∃ T x y, v = .ref T ∧ H T = none ∧ H' = upd H T (.tup [x, y]) ∧ (∀ xs, SqK b1 K H a xs → xs[i]? = some x) ∧ ∀ ys, SqK b2 K H b ys → ys[i]? = some y,
    fun i H => ∃ xs ys : List V, SqK b1 K H a xs ∧ SqK b2 K H b ys ∧ i ≤ xs.length ∧ i ≤ ys.length ∧ (i = xs.length ∨ i = ys.length)⟩
theorem walk_zipK {b1 b2 : Bool} {K : PySem.W.Frag} {a b : Addr} {xs ys : List V} {n : Nat} (hn : n = min xs.length ys.length) : Walk (ItzK b1 b2 K a b) n (fun H => SqK b1 K H a xs ∧ SqK b2 K H b ys) (YPair (fun i => xs[i]?) (fun i => ys[i]?)) where
  goes := fun i H hi ⟨q1, q2⟩ => by
    have l1 : i < xs.length := by omega
    have l2 : i < ys.length := by omega
    exact ⟨xs, ys, xs[i], ys[i], q1, q2, List.getElem?_eq_getElem l1, List.getElem?_eq_getElem l2⟩
  stops := fun H ⟨q1, q2⟩ => ⟨xs, ys, q1, q2, by omega, by omega, by omega⟩
  yields := fun i H v H' hi ⟨q1, q2⟩ ⟨T, x, y, e1, e2, e3, f1, f2⟩ => ⟨T, x, y, e1, e2, e3, f1 _ q1, f2 _ q2⟩
section
variable {P : Program} {w : World} {K : PySem.W.Frag} {elts : List Expr} {kk : Nat} {tpos : Pos}
theorem five {c z TI TO i1 i2 : Addr} (h : c ∈ [z, TI, TO, i1, i2]) : c = z ∨ c = TI ∨ c = TO ∨ c = i1 ∨ c = i2 := by simpa using h
theorem turn_zipK {b1 b2 : Bool} {a b z TI TO i1 i2 : Addr} (S : ZipSep2 z TI TO i1 i2 [i1, a] [i2, b]) (ha : a ≠ i1) (hb : b ≠ i2) :
    Turn P w K (.Tuple elts kk tpos) (ItzK b1 b2 K a b) [z, TI, TO, i1, i2] z (fun i h => IsZip h z TI TO .none ∧ IsPair h TI (.ref i1) (.ref i2) ∧ (∃ x y, IsPair h TO x y) ∧ ItA b1 h i1 a i ∧ ItA b2 h i2 b i) where
  mem := List.mem_cons_self
  obj := fun i h st c hc => by
    obtain ⟨hz, hTI, ⟨x, y, hTO⟩, q1, q2⟩ := st
    rcases five hc with rfl | rfl | rfl | rfl | rfl
    · exact ⟨_, hz, fun v q => nomatch q⟩
    · exact ⟨_, hTI, fun v q => nomatch q⟩
    · exact ⟨_, hTO, fun v q => nomatch q⟩
    · exact q1.obj
    · exact q2.obj
  keep := fun i h h' st k => by
    obtain ⟨hz, hTI, ⟨x, y, hTO⟩, q1, q2⟩ := st
    exact ⟨k z (by simp) _ hz, k TI (by simp) _ hTI, ⟨x, y, k TO (by simp) _ hTO⟩, q1.at (k i1 (by simp)), q2.at (k i2 (by simp))⟩
  item := by
    intro X hP hw hK hc i pins s σ H E I hf st hg
    subst hP hw hK
    obtain ⟨hz, hTI, ⟨x0, y0, hTO⟩, q1, q2⟩ := st
    obtain ⟨xs, ys, x, y, sx, sy, hx, hy⟩ := hg
    obtain ⟨its1, r1, p1⟩ := seqK I sx
    obtain ⟨its2, r2, p2⟩ := seqK I sy
    obtain ⟨u, hu, ru⟩ := r1.get hx
    obtain ⟨u2, hu2, ru2⟩ := r2.get hy
    have hd : X.A.in1.handled = none := I.ok.hd hc
    have l1 : i < its1.toArray.size := by
      have := (List.getElem?_eq_some_iff.mp hu).1
      simpa using this
    have l2 : i < its2.toArray.size := by
      have := (List.getElem?_eq_some_iff.mp hu2).1
      simpa using this
    have zl : z < s.heap.objs.size := Heap.lt_size hz
    refine wpAny_pyNext_zipD2_item S (drawsK (prog := X.prog) (w := X.w) (b := b1) hd ha its1.toArray) (drawsK (prog := X.prog) (w := X.w) (b := b2) hd hb its2.toArray) hz hTI hTO ⟨q1, p1⟩ ⟨q2, p2⟩ l1 l2 fun v1 v2 h' tk e1 e2 z' TO' s1' s2' hT hsz hk => ?_
    have ev1 : v1 = u := by
      have : its1[i]? = some v1 := by simpa using e1
      rw [hu] at this
      exact (Option.some.inj this).symm
    have ev2 : v2 = u2 := by
      have : its2[i]? = some v2 := by simpa using e2
      rw [hu2] at this
      exact (Option.some.inj this).symm
    subst ev1 ev2
    refine ⟨_, rfl, wpAny_letOwnedTupleGo_zip (s := { s with heap := h', toks := tk }) z' fun h'' z'' sb => ?_⟩
    have hT2 : h''.get? s.heap.objs.size = some { cls := .type "tuple", data := .seq #[v1, v2] } := (sb.2 _ (Nat.ne_of_gt zl)).trans hT
    have new : ObjOk X.prog X.w (upd H s.heap.objs.size (.tup [x, y])) h'' s.heap.objs.size (.tup [x, y]) :=
      ⟨by show 2 ≤ sizeLine; decide, [v1, v2], .cons ru (.cons ru2 .nil), ⟨_, hT2, rfl, _, rfl⟩⟩
    have I1 : Inv X pins σ (upd H s.heap.objs.size (.tup [x, y])) { s with heap := h'', toks := tk } :=
      I.turnedNew (t' := tk) (ch := [z, TI, TO, i1, i2]) (fun c o hc q => (sb.2 c fun q' => hc (by simp [q'])).trans (hk c o (fun q' => hc (by simp [q'])) (fun q' => hc (by simp [q'])) (fun q' => hc (by simp [q'])) (fun q' => hc (by simp [q'])) q)) hf (Nat.le_refl _) new
    have nz1 : i1 ≠ z := fun e => S.zf1 (by rw [e]; exact List.mem_cons_self)
    have nz2 : i2 ≠ z := fun e => S.zf2 (by rw [e]; exact List.mem_cons_self)
    refine ⟨.ref s.heap.objs.size, _, I1, rfl, ⟨_, x, y, rfl, I.hok.fresh (Nat.le_refl _), rfl, fun l hl => by rw [injK I hl sx]; exact hx, fun l hl => by rw [injK I hl sy]; exact hy⟩, ⟨z'', ?_, ⟨v1, v2, ?_⟩, ?_, ?_⟩, fun c hcm => ?_⟩
    · exact (sb.2 _ S.TIz).trans (hk _ _ S.TIz S.TITO S.TIi1 S.TIi2 hTI)
    · exact (sb.2 _ S.TOz).trans TO'
    · exact s1'.1.at fun o q => (sb.2 _ nz1).trans q
    · exact s2'.1.at fun o q => (sb.2 _ nz2).trans q
    · have lt : c < s.heap.objs.size := by
        rcases five hcm with rfl | rfl | rfl | rfl | rfl
        · exact zl
        · exact Heap.lt_size hTI
        · exact Heap.lt_size hTO
        · obtain ⟨o, e, _⟩ := q1.obj
          exact Heap.lt_size e
        · obtain ⟨o, e, _⟩ := q2.obj
          exact Heap.lt_size e
      rw [upd_ne (Nat.ne_of_lt lt)]
      exact (hf c hcm).1
  done := by
    intro X hP hw hK hc i pins s σ H E I hf st hg
    subst hP hw hK
    obtain ⟨hz, hTI, ⟨x0, y0, hTO⟩, q1, q2⟩ := st
    obtain ⟨xs, ys, sx, sy, l1, l2, le⟩ := hg
    obtain ⟨its1, r1, p1⟩ := seqK I sx
    obtain ⟨its2, r2, p2⟩ := seqK I sy
    have hd : X.A.in1.handled = none := I.ok.hd hc
    have m1 := r1.length
    have m2 := r2.length
    refine wpAny_pyNext_zipD2_end S (drawsK (prog := X.prog) (w := X.w) (b := b1) hd ha its1.toArray) (drawsK (prog := X.prog) (w := X.w) (b := b2) hd hb its2.toArray) hz hTI hTO ⟨q1, p1⟩ ⟨q2, p2⟩ (by simp; omega) (by simp; omega) (by simp; omega) fun h' tk hk => ⟨rfl, ?_⟩
    exact I.turnedL (t' := tk) (ch := [z, TI, TO, i1, i2]) (fun c o hc q => hk c o (fun q' => hc (by simp [q'])) (fun q' => hc (by simp [q'])) (fun q' => hc (by simp [q'])) (fun q' => hc (by simp [q'])) q) hf
  self := fun A i s Q E st h => wpAny_pyIter_zip st.1 h
def iZipK (K : PySem.W.Frag) (ta : TA) : TI := fun σ H R => ta σ H fun vs H1 => ∃ b1 b2 a b xs ys, vs = [.ref a, .ref b] ∧ SqK b1 K H1 a xs ∧ SqK b2 K H1 b ys ∧ R (ItzK b1 b2 K a b) H1
theorem pi_zipK {X : Cx} {e e2 : Expr} {ta : TA} {p pos : Pos} (hg : Gl X "zip") (hm : X.mg "zip" = none) (ha : PA X [e, e2] ta)
    (hs : starEach [e, e2] X.env = (false, eval e X.env) :: starEach [e2] X.env := by rfl) (hpl : (backTo pos (starEach [e2] X.env)).any (·.1) = false := by rfl) :
    PI X (.Tuple elts kk tpos) (.Call (.Name "zip" p) [e, e2] [] pos) (iZipK X.K ta) := by
  refine ⟨fun pins s σ H R I h => ?_⟩
  refine Call_ (ld_blt I hg hm PyProof.Rows.boot_zip (PyProof.Rows.callWith_type1 (thn (ha.run pos pins s σ H _ I h) fun us s1 q => ?_) hs hpl))
  obtain ⟨vs, H1, I1, r1, b1, b2, a, b, xs, ys, rfl, sx, sy, q⟩ := q
  obtain ⟨u1, u2, rfl, e1, e2⟩ := vals2 r1
  cases e1
  cases e2
  obtain ⟨its1, _, p1⟩ := seqK I1 sx
  obtain ⟨its2, _, p2⟩ := seqK I1 sy
  refine zip_begins2 (beginsK (b := b1) a its1.toArray) (beginsK (b := b2) b its2.toArray) p1 p2 fun h' hz hTI hTO g1 g2 hsz hk => wpAny_pyIter_zip hz ?_
  have I2 : Inv X pins σ H1 { s1 with heap := h' } := I1.kept (t' := s1.toks) hk
  have na : a < s1.heap.objs.size := p1.lt
  have nb : b < s1.heap.objs.size := p2.lt
  have S : ZipSep2 (s1.heap.objs.size + 4) (s1.heap.objs.size + 2) (s1.heap.objs.size + 3) s1.heap.objs.size (s1.heap.objs.size + 1) [s1.heap.objs.size, a] [s1.heap.objs.size + 1, b] :=
    zip_sep2 (fun c hc => by rw [List.mem_singleton.mp hc]; exact na) (fun c hc => by rw [List.mem_singleton.mp hc]; exact nb)
  refine ⟨s1.heap.objs.size + 4, [s1.heap.objs.size + 4, s1.heap.objs.size + 2, s1.heap.objs.size + 3, s1.heap.objs.size, s1.heap.objs.size + 1], _, _, H1, rfl, I2, turn_zipK S (Nat.ne_of_lt na) (Nat.ne_of_lt (Nat.lt_succ_of_lt nb)), ⟨hz, hTI, ⟨_, _, hTO⟩, .new g1, .new g2⟩, fun c hc => ?_, q⟩
  have le : s1.heap.objs.size ≤ c := by
    rcases five hc with rfl | rfl | rfl | rfl | rfl <;> omega
  exact I1.fpOk le (I1.hok.fresh le)
theorem meets_enum1 {v : Value} {o : Obj} {H : Heap → Prop} (B : Begins v o H) :
    Meets (Builtin.«enumerate.__new__» ⟨[.type "enumerate", v], []⟩) (fun _ R s => H s.heap ∧
      R (.ok (.ret (.ref (s.heap.push o).objs.size))) { s with heap := (s.heap.push o).push { cls := .type "enumerate", data := .fields #[.none, .bool false, .ref s.heap.objs.size, rawInt 0, .none, .none] } }) :=
  .of_wp fun prog w A R s h => by
    obtain ⟨hp, g, d, tk, os⟩ := s
    obtain ⟨h1, h⟩ := h
    have sub := sub_enumerate
    have it : ∀ {A' : Around} {E : Value → Shared → Prop} {Q : Value → Shared → Prop}, Q (.ref hp.objs.size) ⟨hp.push o, g, d, tk, os⟩ → wpAny (model prog w) A' (pyIter v) Q E ⟨hp, g, d, tk, os⟩ :=
      fun q => B.iter prog w _ _ ⟨hp, g, d, tk, os⟩ _ h1 q
    wp_walk using it
    refine wpAny_stack_any fun st => wpAny_pure ?_
    split
    · rename_i c _ _ _ _ _
      cases (c == Value.type "enumerate") <;> (wp_walk using it; exact ⟨_, rfl, h⟩)
    · wp_walk using it
      exact ⟨_, rfl, h⟩
theorem call_enum1 {prog : Program} {A : Around} {E : Value → Shared → Prop} {s : Shared} {v : Value} {o : Obj} {H : Heap → Prop} {Q : Value → Shared → Prop} (B : Begins v o H) (h1 : H s.heap)
    (h : ∀ h', IsEnum h' (s.heap.objs.size + 1) s.heap.objs.size 0 .none → h'.get? s.heap.objs.size = some o → (∀ b u, s.heap.get? b = some u → h'.get? b = some u) → Q (.ref (s.heap.objs.size + 1)) { s with heap := h' }) :
    wpAny (model prog w) A (call (.type "enumerate") [v]) Q E s := by
  refine callType_new F.called_enumerate (by decide) (F.typeCall_enumerate_1 _) (F.newCall_enumerate_1 _) (fun obj => F.args_object_init_2 obj _) F.entry_enumerate_new (meets_enum1 B) ⟨h1, ?_⟩
  have z : (s.heap.push o).objs.size = s.heap.objs.size + 1 := Heap.size_push ..
  show _ ∧ _
  rw [z]
  have e : IsEnum ((s.heap.push o).push { cls := .type "enumerate", data := .fields #[.none, .bool false, .ref s.heap.objs.size, rawInt 0, .none, .none] }) (s.heap.objs.size + 1) s.heap.objs.size 0 .none := by
    have y := Heap.get?_push_size (s.heap.push o) (o := { cls := .type "enumerate", data := .fields #[.none, .bool false, .ref s.heap.objs.size, rawInt 0, .none, .none] }) rfl
    rw [z] at y
    exact y
  exact ⟨⟨_, e, rfl⟩, h _ e (Heap.get?_push_of_some _ (Heap.get?_push_size _ B.free)) fun b u x => Heap.get?_push_of_some _ (Heap.get?_push_of_some _ x)⟩
/-- one of either kind, each item in a new pair behind its number -/
def IteK (b : Bool) (K : PySem.W.Frag) (a : Addr) : It :=
  ⟨fun i H => ∃ (xs : List V) (x : V), SqK b K H a xs ∧ xs[i]? = some x, fun i H v H' => ∃ T x, v = .ref T ∧ H T = none ∧ H' = upd H T (.tup [.int (i : Nat), x]) ∧ ∀ xs, SqK b K H a xs → xs[i]? = some x,
    fun i H => ∃ xs : List V, SqK b K H a xs ∧ xs.length = i⟩
theorem walk_enumK {b : Bool} {a : Addr} {xs : List V} : Walk (IteK b K a) xs.length (fun H => SqK b K H a xs) (YPair (fun i => some (.int (i : Nat))) (fun i => xs[i]?)) where
  goes := fun i H hi q => ⟨xs, xs[i], q, List.getElem?_eq_getElem hi⟩
  stops := fun H q => ⟨xs, q, rfl⟩
  yields := fun i H v H' hi q ⟨T, x, e1, e2, e3, f⟩ => ⟨T, _, x, e1, e2, e3, rfl, f _ q⟩
theorem turn_enumK {b : Bool} {a e it : Addr} (ha : a ≠ it) (hea : e ≠ a) (hei : e ≠ it) :
    Turn P w K (.Tuple elts kk tpos) (IteK b K a) [e, it] e (fun i h => (∃ old, IsEnum h e it ((i : Nat) : Int) old) ∧ ItA b h it a i) where
  mem := List.mem_cons_self
  obj := fun i h st c hc => by
    obtain ⟨⟨old, he⟩, q⟩ := st
    rcases List.mem_cons.mp hc with rfl | hc
    · exact ⟨_, he, fun v z => nomatch z⟩
    · rw [List.mem_singleton.mp hc]
      exact q.obj
  keep := fun i h h' st k => by
    obtain ⟨⟨old, he⟩, q⟩ := st
    exact ⟨⟨old, k e (by simp) _ he⟩, q.at (k it (by simp))⟩
  item := by
    intro X hP hw hK hc i pins s σ H E I hf st hg
    subst hP hw hK
    obtain ⟨⟨old, he⟩, q⟩ := st
    obtain ⟨xs, x, sx, hx⟩ := hg
    obtain ⟨its, r, p⟩ := seqK I sx
    obtain ⟨u, hu, ru⟩ := r.get hx
    have hd : X.A.in1.handled = none := I.ok.hd hc
    have l1 : i < its.toArray.size := by
      have := (List.getElem?_eq_some_iff.mp hu).1
      simpa using this
    have el : e < s.heap.objs.size := Heap.lt_size he
    have il : it < s.heap.objs.size := by
      obtain ⟨o, z, _⟩ := q.obj
      exact Heap.lt_size z
    refine wpAny_pyNext_enum_itemD (drawsK (prog := X.prog) (w := X.w) (b := b) hd ha its.toArray) he ⟨q, p⟩ l1 hei (by simp [hei, hea]) fun v h' tk e1 ho st' hT hsz hk => ?_
    have ev : v = u := by
      have : its[i]? = some v := by simpa using e1
      rw [hu] at this
      exact (Option.some.inj this).symm
    subst ev
    refine ⟨_, rfl, wpAny_letOwnedTupleGo_enum (s := { s with heap := h', toks := tk + 1 }) ho fun h'' he' sb => ?_⟩
    have hT2 : h''.get? s.heap.objs.size = some { cls := .type "tuple", data := .seq #[.int i tk, v] } := (sb.2 _ (Nat.ne_of_gt el)).trans hT
    have new : ObjOk X.prog X.w (upd H s.heap.objs.size (.tup [.int (i : Nat), x])) h'' s.heap.objs.size (.tup [.int (i : Nat), x]) :=
      ⟨by show 2 ≤ sizeLine; decide, [.int i tk, v], .cons ⟨_, rfl⟩ (.cons ru .nil), ⟨_, hT2, rfl, _, rfl⟩⟩
    have I1 : Inv X pins σ (upd H s.heap.objs.size (.tup [.int (i : Nat), x])) { s with heap := h'', toks := tk + 1 } :=
      I.turnedNew (ch := [e, it]) (fun c o hc z => (sb.2 c fun y => hc (by simp [y])).trans (hk c o (fun y => hc (by simp [y])) (fun y => hc (by simp [y])) z)) hf (Nat.le_refl _) new
    refine ⟨.ref s.heap.objs.size, _, I1, rfl, ⟨_, x, rfl, I.hok.fresh (Nat.le_refl _), rfl, fun ys hy => by rw [injK I hy sx]; exact hx⟩, ⟨⟨v, ?_⟩, st'.1.at fun o z => (sb.2 it (Ne.symm hei)).trans z⟩, fun c hc => ?_⟩
    · have e2 : ((i + 1 : Nat) : Int) = (i : Int) + 1 := by omega
      rw [e2]
      exact he'
    · have lt : c < s.heap.objs.size := by
        rcases List.mem_cons.mp hc with rfl | z
        · exact el
        · rw [List.mem_singleton.mp z]
          exact il
      rw [upd_ne (Nat.ne_of_lt lt)]
      exact (hf c hc).1
  done := by
    intro X hP hw hK hc i pins s σ H E I hf st hg
    subst hP hw hK
    obtain ⟨⟨old, he⟩, q⟩ := st
    obtain ⟨xs, sx, rfl⟩ := hg
    obtain ⟨its, r, p⟩ := seqK I sx
    have hd : X.A.in1.handled = none := I.ok.hd hc
    obtain ⟨f0, f1, f2, f3, f4, f5⟩ := hf it (by simp)
    have hl : xs.length = its.toArray.size := by
      rw [List.size_toArray]
      exact r.length
    refine wpAny_pyNext_enum_endD (drawsK (prog := X.prog) (w := X.w) (b := b) hd ha its.toArray) he (by rw [hl] at q; exact ⟨q, p⟩) fun h' eb => ⟨rfl, I.turned (t' := s.toks) (fun b o hb z => eb b o hb z) f0 f1 f3 f4 f5⟩
  self := fun A i s Q E st h => by
    obtain ⟨⟨old, he⟩, _⟩ := st
    exact wpAny_pyIter_enum he h
def iEnumK (K : PySem.W.Frag) (ta : TA) : TI := fun σ H R => ta σ H fun vs H1 => ∃ b a xs, vs = [.ref a] ∧ SqK b K H1 a xs ∧ R (IteK b K a) H1
theorem pi_enumK {X : Cx} {e : Expr} {ta : TA} {p pos : Pos} (hg : Gl X "enumerate") (hm : X.mg "enumerate" = none) (ha : PA X [e] ta) (hs : starEach [e] X.env = [(false, eval e X.env)] := by rfl) :
    PI X (.Tuple elts kk tpos) (.Call (.Name "enumerate" p) [e] [] pos) (iEnumK X.K ta) := by
  refine ⟨fun pins s σ H R I h => ?_⟩
  refine Call_ (ld_blt I hg hm boot_enumerate (PyProof.Rows.callWith_type1 (thn (ha.run pos pins s σ H _ I h) fun us s1 q => ?_) hs rfl))
  obtain ⟨vs, H1, I1, r1, b, a, xs, rfl, sx, q⟩ := q
  obtain ⟨u, rfl, e1⟩ := vals1 r1
  cases e1
  obtain ⟨its, _, p1⟩ := seqK I1 sx
  refine call_enum1 (beginsK (b := b) a its.toArray) p1 fun h' he g hk => wpAny_pyIter_enum he ?_
  have I2 : Inv X pins σ H1 { s1 with heap := h' } := I1.kept (t' := s1.toks) hk
  have na : a < s1.heap.objs.size := p1.lt
  refine ⟨s1.heap.objs.size + 1, [s1.heap.objs.size + 1, s1.heap.objs.size], _, _, H1, rfl, I2, turn_enumK (Nat.ne_of_lt na) (Nat.ne_of_gt (Nat.lt_succ_of_lt na)) (Nat.succ_ne_self _), ⟨⟨.none, he⟩, .new g⟩, fun c hc => ?_, q⟩
  have le : s1.heap.objs.size ≤ c := by
    rcases List.mem_cons.mp hc with rfl | z
    · exact Nat.le_succ _
    · rw [List.mem_singleton.mp z]
      exact Nat.le_refl _
  exact I1.fpOk le (I1.hok.fresh le)
end
end Vk
namespace Vk
open PySem PySem.Spec PyProof.Rows L2
/-- a value of one of seven kinds -/
inductive Oky (H : Hp) : V → String → Prop where
  | non : Oky H .non "NoneType"
  | bl (b : Bool) : Oky H (.bl b) "bool"
  | int (i : Int) : Oky H (.int i) "int"
  | str (x : Str) : Oky H (.str x) "str"
  | lst {a : Addr} {xs : List V} (e : H a = some (.lst xs)) : Oky H (.ref a) "list"
  | tup {a : Addr} {xs : List V} (e : H a = some (.tup xs)) : Oky H (.ref a) "tuple"
  | dK {a : Addr} {kvs : List (Key × V)} (e : H a = some (.dK kvs)) : Oky H (.ref a) "dict"
theorem Oky.ty {K : PySem.W.Frag} {H : Hp} {x : V} {t : String} (h : Oky H x t) : TyX K H x (.type t) := by
  cases h with
  | non => exact .base .non
  | bl b => exact .base (.bl b)
  | int i => exact .base (.int i)
  | str x => exact .base (.str x)
  | lst e => exact .base (.lst e)
  | tup e => exact .base (.tup e)
  | dK e => exact .base (.dK e)
theorem Oky.same {H H' : Hp} {x : V} {t : String} (h : Oky H x t) (s : Same H H') : Oky H' x t := by
  cases h with
  | non => exact .non
  | bl b => exact .bl b
  | int i => exact .int i
  | str x => exact .str x
  | lst e => exact .lst (s _ _ e)
  | tup e => exact .tup (s _ _ e)
  | dK e => exact .dK (s _ _ e)
theorem Oky.kTup {H : Hp} {x : V} {t : String} (h : Oky H x t) : kitB t "tuple" = some (decide (t = "tuple")) := by
  cases h <;> decide +kernel
theorem Oky.kInt {H : Hp} {x : V} {t : String} (h : Oky H x t) : kitB t "int" = some (decide (t = "int" ∨ t = "bool")) := by
  cases h <;> decide +kernel
theorem Oky.kBool {H : Hp} {x : V} {t : String} (h : Oky H x t) : kitB t "bool" = some (decide (t = "bool")) := by
  cases h <;> decide +kernel
def isInt : V → Bool
  | .int _ => true
  | _ => false
theorem Oky.isInt {H : Hp} {x : V} {t : String} (h : Oky H x t) : isInt x = decide (t = "int") := by
  cases h <;> simp [Vk.isInt]
/-- the reading of isinstance(x, T) -/
theorem isi_ {K : PySem.W.Frag} {H : Hp} {x : V} {t T : String} {b : Bool} {Q : VK} (h : Oky H x t) (k : kitB t T = some b) (q : Q (.bl b) H) : rIsi K [x, .ty T] H Q :=
  ⟨x, .ty T, _, _, b, rfl, .ty T, h.ty, kit_ty k, q⟩
end Vk
/-! Readings by what stands afterwards. -/
namespace Vk
open PySem PySem.Spec PyProof.Rows L2
theorem Same.seqT {K : PySem.W.Frag} {H H' : Hp} {a : Addr} {xs : List V} (s : Same H H') (h : SqT K H a xs) : SqT K H' a xs := by
  rcases h with (h | ⟨o, h⟩) | h
  · exact .inl (.inl (s _ _ h))
  · exact .inl (.inr ⟨o, s _ _ h⟩)
  · exact .inr h
theorem Same.seqK {b : Bool} {K : PySem.W.Frag} {H H' : Hp} {a : Addr} {xs : List V} (s : Same H H') (h : SqK b K H a xs) : SqK b K H' a xs := by
  cases b with
  | true => exact s.seq h
  | false => exact Same.seqT s h
/-- t + u -/
theorem cat_any {K : PySem.W.Frag} {H : Hp} {a b : Addr} {xs ys : List V} {Q : VK} (ha : SqT K H a xs) (hb : SqT K H b ys) (hl : xs.length + ys.length ≤ sizeLine) (q : ∀ r H', Same H H' → SqT K H' r (xs ++ ys) → Q (.ref r) H') : rCatA K (.ref a) (.ref b) H Q := by
  refine ⟨a, b, xs, ys, rfl, rfl, ha, hb, hl, fun e => ?_, fun _ e => ?_, fun _ _ p np => q p _ (same_new np) (SqT.of upd_same)⟩
  · subst e
    exact q b H (Same.refl _) hb
  · subst e
    exact q a H (Same.refl _) (by rw [List.append_nil]; exact ha)
theorem cutV_whole (xs : List V) (lo hi : Option Int) (h : HT.sIx xs.length 0 lo = 0 ∧ HT.sIx xs.length xs.length hi = xs.length) : cutV xs lo hi = xs := by
  unfold cutV
  rw [h.1, h.2, List.drop_zero, Nat.sub_zero, List.take_length]
/-- t[lo:hi] -/
theorem slice_any {K : PySem.W.Frag} {H : Hp} {a : Addr} {xs : List V} {lo hi : Option Int} {Q : VK} (ha : SqT K H a xs) (q : ∀ r H', Same H H' → SqT K H' r (cutV xs lo hi) → Q (.ref r) H') : rSlA K (.ref a) lo hi H Q :=
  ⟨a, xs, rfl, ha, fun h => q a H (Same.refl _) (by rw [cutV_whole xs lo hi h]; exact ha), fun _ p np => q p _ (same_new np) (SqT.of upd_same)⟩
/-- from one on -/
theorem cut1 {xs : List V} {x : V} : cutV (x :: xs) (some 1) none = xs := by
  unfold cutV
  have e1 : HT.sIx (x :: xs).length 0 (some 1) = 1 := by
    have h := HT.sIx_nat (x :: xs).length 0 1
    rw [List.length_cons] at h ⊢
    exact h.trans (by omega)
  have e2 : HT.sIx (x :: xs).length (x :: xs).length none = xs.length + 1 := by
    rw [HT.sIx_none, List.length_cons]
  rw [e1, e2, List.drop_succ_cons, List.drop_zero, Nat.add_sub_cancel, List.take_length]
/-- a comprehension without a test, over any walk, whose items are those of R -/
theorem lc_to {J : It} {n : Nat} {G : Hp → Prop} {Y : Nat → Hp → V → Hp → Prop} (w : Walk J n G Y) {g : TG} {te : TE} {vs : List Nat} {σ : L2.St} {H1 : Hp} {D : Addr} {Qd : Hp → Prop} (R : List V) (hn : R.length = n) (hz : n < sizeLine) (nD : H1 D = none)
    (hG : ∀ H, Same H1 H → G H)
    (hs : ∀ (i : Nat) (x y : V) (H H' : Hp) (Qy : VK), R[i]? = some y → i < n → Same H1 H → Y i H x H' → (∀ H4, Same H H4 → Qy y H4) → g x (wipe σ vs) H' fun σ2 H2 => wipe σ2 vs = wipe σ vs ∧ te σ2 H2 Qy)
    (hd : ∀ H, Same H1 H → H D = some (.lst R) → Qd H) :
    ∃ W : Nat → Nat → Hp → Prop, (∃ m, W 0 m (upd H1 D (.lst []))) ∧ ∀ i m H, W i m H →
      (J.stop i H ∧ Qd H) ∨ (J.go i H ∧ ∃ Nx : Hp → Prop, (∀ H', Nx H' → ∃ m', m' < m ∧ W (i + 1) m' H') ∧ ∀ x H', J.yld i H x H' → g x (wipe σ vs) H' fun σ2 H2 => wipe σ2 vs = wipe σ vs ∧ tYes σ2 H2 fun b H3 =>
        if b = true then te σ2 H3 fun y H4 => ∃ acc, H4 D = some (.lst acc) ∧ acc.length < sizeLine ∧ Nx (upd H4 D (.lst (acc ++ [y]))) else Nx H3) := by
  refine lc_it w (tt := tYes) (fun i H => Same H1 H ∧ H D = some (.lst (R.take i))) ⟨same_new nD, by rw [upd_same]; rfl⟩ (fun i H _ p => hG H p.1) ?_ ?_
  · rintro i x H H' hi ⟨s, d⟩ y
    have hiR : i < R.length := by omega
    obtain ⟨v, hv⟩ : ∃ v, R[i]? = some v := ⟨_, List.getElem?_eq_getElem hiR⟩
    exact hs i x v H H' (fun y H4 => ∃ acc, H4 D = some (.lst acc) ∧ acc.length < sizeLine ∧ Same H1 (upd H4 D (.lst (acc ++ [y]))) ∧ upd H4 D (.lst (acc ++ [y])) D = some (.lst (R.take (i + 1)))) hv hi s y fun H4 s4 => by
      refine ⟨R.take i, s4 _ _ d, ?_, same_put (s.trans s4) nD, ?_⟩
      · rw [List.length_take]
        omega
      · rw [upd_same, List.take_add_one, hv]
        rfl
  · rintro H ⟨s, d⟩
    refine hd H s ?_
    rw [d, ← hn, List.take_length]
/-- a tuple that stands in the heap -/
def Tp (H : Hp) (a : Addr) (xs : List V) : Prop := H a = some (.tup xs)
theorem Tp.same {H H' : Hp} {a : Addr} {xs : List V} (h : Tp H a xs) (s : Same H H') : Tp H' a xs := s _ _ h
theorem Tp.t {K : PySem.W.Frag} {H : Hp} {a : Addr} {xs : List V} (h : Tp H a xs) : SqT K H a xs := SqT.of h
theorem Tp.but {m : Addr} {H H' : Hp} {a : Addr} {xs : List V} {kvs : List (Key × V)} (h : Tp H a xs) (hm : H m = some (.dK kvs)) (s : SameBut m H H') : Tp H' a xs := s _ _ (ne_of h hm (by intro z; cases z)) h
theorem cat_tp {K : PySem.W.Frag} {H : Hp} {a b : Addr} {xs ys : List V} {Q : VK} (ha : Tp H a xs) (hb : Tp H b ys) (hl : xs.length + ys.length ≤ sizeLine) (q : ∀ r H', Same H H' → Tp H' r (xs ++ ys) → Q (.ref r) H') : rCatA K (.ref a) (.ref b) H Q := by
  refine ⟨a, b, xs, ys, rfl, rfl, ha.t, hb.t, hl, fun e => ?_, fun _ e => ?_, fun _ _ p np => q p _ (same_new np) upd_same⟩
  · subst e
    exact q b H (Same.refl _) hb
  · subst e
    exact q a H (Same.refl _) (by rw [List.append_nil]; exact ha)
theorem slice_tp {K : PySem.W.Frag} {H : Hp} {a : Addr} {xs : List V} {lo hi : Option Int} {Q : VK} (ha : Tp H a xs) (q : ∀ r H', Same H H' → Tp H' r (cutV xs lo hi) → Q (.ref r) H') : rSlA K (.ref a) lo hi H Q :=
  ⟨a, xs, rfl, ha.t, fun h => q a H (Same.refl _) (by rw [cutV_whole xs lo hi h]; exact ha), fun _ p np => q p _ (same_new np) upd_same⟩
end Vk
/-! A kept exception with fields of its own. -/
namespace Vk
open PySem PySem.Spec PyProof.Rows L2
/-- a kept exception of the class C with these fields -/
def KxF (H : Hp) (a C : Addr) (fs : List (Str × V)) : Prop := ∃ dd, H a = some (ExK (.ref C) (some dd) a) ∧ H dd = some (.xd fs)
theorem KxF.same {H H' : Hp} {a C : Addr} {fs : List (Str × V)} (k : KxF H a C fs) (s : Same H H') : KxF H' a C fs := by
  obtain ⟨dd, h1, h2⟩ := k
  exact ⟨dd, s _ _ h1, s _ _ h2⟩
theorem KxF.inst {X : Cx} {pins : List (Addr × Obj)} {σ : L2.St} {H : Hp} {s : Shared} {a C : Addr} {fs : List (Str × V)} (I : Inv X pins σ H s) (k : KxF H a C fs) : ∃ (oe od : Obj) (mA : Str → Option Value), PySem.W.InstAt s.heap a oe C (some od) ∧ (∀ f, PySem.W.lookIn f od = some (mA f)) ∧ ∀ f, RelO (fs.lookup f) (mA f) := by
  obtain ⟨dd, h1, h2⟩ := k
  obtain ⟨⟨oe, g, hz, vs, hd⟩, _, _⟩ := I.hok a _ h1
  obtain ⟨mA, hns, hr⟩ := (show ObjOk X.prog X.w H s.heap dd (.xd fs) from I.hok dd _ h2)
  obtain ⟨od, ho, hl⟩ := lookIn_ns hns
  exact ⟨oe, od, mA, ⟨g, hz.1, by unfold PySem.W.notCls; rw [hd] <;> rfl, by rw [hz.2]; exact ho⟩, hl, hr⟩
/-- isinstance(e, c) -/
def rIsF (K : PySem.W.Frag) (C : Addr) : List V → Hp → VK → Prop := fun xs H Q => ∃ (a : Addr) (fs : List (Str × V)) (c : V) (cv : Value) (b : Bool), xs = [.ref a, c] ∧ KxF H a C fs ∧ ClsV c cv ∧ PySem.W.kitOne K (.ref C) cv = some b ∧ Q (.bl b) H
theorem call_isF {X : Cx} {C : Addr} (E : ExcC X.K C) : CallR X (.builtin "isinstance") (rIsF X.K C) := by
  intro pins s σ H xs us Q I r h
  obtain ⟨a, fs, c, cv, b, rfl, k, hcv, e, q⟩ := h
  obtain ⟨u1, u2, rfl, r1, r2⟩ := vals2 r
  obtain rfl : u1 = Value.ref a := r1
  obtain rfl := hcv.eq r2
  obtain ⟨oe, od, mA, J, _, _⟩ := k.inst I
  have hcl : (PySem.W.clsIn X.K C).isSome = true := by
    obtain ⟨cd, hc, _⟩ := PySem.W.any_some E.hd
    rw [hc]
    rfl
  exact PySem.W.kia_one (PySem.W.kitx_exc (od := some od) hcl E.hg E.hk E.hs E.ha E.hn E.ht E.hm) I.kIn J e (fun z => nomatch z) fun tk => ⟨.bl b, H, I.kept (t' := tk) fun _ _ z => z, rfl, q⟩
/-- e.f -/
def tKf (C : Addr) (f : Str) (te : TE) : TE := fun σ H Q => te σ H fun x H1 => ∃ (a : Addr) (fs : List (Str × V)) (v : V), x = .ref a ∧ KxF H1 a C fs ∧ fs.lookup f = some v ∧ Q v H1
theorem pe_kf {X : Cx} {C : Addr} {e : Expr} {te : TE} {pos : Pos} {n : Str} (T : XfC X.K C) (hno : PySem.W.findIn X.K (.ref C) n = some none) (he : PE X e te) (hb : attributeBase e n X.env (eval e X.env) = eval e X.env := by rfl) :
    PE X (.Attribute e n pos) (tKf C n te) := by
  refine ⟨fun pins s σ H Q I h => attr_of hb (thn (he.run pins s σ H _ I h) fun u s1 hh => ?_)⟩
  obtain ⟨x, H1, I1, rx, a, fs, v, rfl, k, l, q⟩ := hh
  obtain rfl : u = Value.ref a := rx
  obtain ⟨oe, od, mA, J, hl, hr⟩ := k.inst I1
  obtain ⟨u, hu, ru⟩ := RelO.some_of (v := v) (o := mA n) (by rw [← l]; exact hr n)
  exact HandSPX.exc_get I1.kIn J T.ga T.gg T.exC (PySem.W.findObj_own T.hdC hno rfl (by rw [hl, hu])) (handed_of ru) ⟨v, H1, I1.tok _, ru, q⟩
end Vk
namespace Vk
open PySem PySem.Spec PyProof.Rows L2
/-- a tuple once is the tuple -/
theorem once_ (l : Addr) (its : Array Value) (n : Nat) (dd : Option Addr) (sl : Array (Option Value)) (u : Tok) :
    Meets (Builtin.«tuple.__mul__» ⟨[.ref l, .int 1 u], []⟩) (fun _ R s => s.heap.get? l = some { cls := .type "tuple", dict := dd, data := .seq its n, slots := sl } ∧ R (.ok (.ret (Value.ref l))) s) :=
  .of_wp fun prog w A R s h => by
    obtain ⟨hp, gs, dr, tk, os⟩ := s
    obtain ⟨at_l, last⟩ := h
    have f1 := AutoSeq1.idx_int
    have one : (its.isEmpty || (1 : Int) == 1) = true := by
      rw [Bool.or_eq_true]
      exact Or.inr rfl
    wp_walk using wpAny_loadPart' at_l
    exact ⟨_, rfl, last⟩
/-- a tuple no times is the empty tuple -/
theorem never_ (l : Addr) (its : Array Value) (n : Nat) (dd : Option Addr) (sl : Array (Option Value)) (u : Tok) (ne : its.isEmpty = false) :
    Meets (Builtin.«tuple.__mul__» ⟨[.ref l, .int 0 u], []⟩) (fun _ R s => s.heap.get? l = some { cls := .type "tuple", dict := dd, data := .seq its n, slots := sl } ∧
      R (.ok (.ret (Value.ref s.heap.objs.size))) { s with heap := s.heap.push { cls := Value.type "tuple", data := Data.seq #[] }, toks := s.toks }) :=
  .of_wp fun prog w A R s h => by
    obtain ⟨hp, gs, dr, tk, os⟩ := s
    obtain ⟨at_l, last⟩ := h
    have f1 := AutoSeq1.idx_int
    have no : (its.isEmpty || (0 : Int) == 1) = false := by
      rw [ne]
      rfl
    wp_walk using wpAny_loadPart' at_l
    exact ⟨_, rfl, last⟩
/-- a tuple some times, be it once or never -/
def rTms (K : PySem.W.Frag) : R2 := fun x y H Q => ∃ (l : Addr) (k : Nat) (xs : List V), x = .ref l ∧ y = .int (k : Int) ∧ SqT K H l xs ∧ xs ≠ [] ∧ k ≤ 1000 ∧ xs.length ≤ 1000 ∧ (k = 1 → Q (.ref l) H) ∧ (k ≠ 1 → ∀ p, H p = none → Q (.ref p) (upd H p (.tup (List.replicate k xs).flatten)))
theorem op_tms {X : Cx} {K : PySem.W.Frag} (h : X.K = K) : OpR X (binaryOp .Mult) (rTms K) := by
  subst h
  intro pins s σ H x y v u Q I rx ry h
  obtain ⟨l, k, xs, rfl, rfl, hT, hne, hk, hx, q1, q2⟩ := h
  by_cases big : 2 ≤ k
  · refine op_repT _ _ _ _ _ _ _ _ _ I rx ry ⟨l, k, xs, rfl, rfl, hT, hne, by omega, by omega, hx, ?_⟩
    rw [Int.toNat_natCast]
    exact q2 (by omega)
  · cases rx
    obtain ⟨tk, rfl⟩ := ry
    obtain ⟨its, r, ⟨⟨cls, dd, data, sl⟩, ho, hc, n, hd⟩, hs⟩ := I.tuple hT
    simp only at hc hd
    subst hc hd
    have full : its.toArray.isEmpty = false := by
      cases its with
      | cons a b => rfl
      | nil => exact absurd (List.eq_nil_of_length_eq_zero r.length) hne
    obtain rfl | rfl : k = 0 ∨ k = 1 := by omega
    · refine wpAny_binaryOp_repeat_ref (T := "tuple") (U := "int") (by decide) ⟨_, ho, rfl⟩ (fun s' => typeIs_int s' _ tk) noFill_tuple_mul F.fills_int_mul F.slot_int_rmul repeat_tuple F.slot_int_index.lookup (call_meets F.slot_int_rmul (typeIs_int s _ tk) F.entry_int_rmul (F.args_int_rmul_2 _ _) (int_rmul_tuple _ tk l its.toArray n dd sl) ⟨ho, rfl, ⟨_, ho, rfl⟩, call_meets F.slot_tuple_mul ⟨_, ho, rfl⟩ F.entry_tuple_mul (F.args_tuple_mul_2 _ _) (never_ l its.toArray n dd sl tk full) ⟨ho, ?_⟩⟩)
      refine ⟨.ref s.heap.objs.size, _, I.laid (t' := s.toks) (o := .tup []) (fun b ob q => Heap.get?_push_of_some _ q) (Nat.le_refl _) ?_, rfl, q2 (by decide) _ (I.hok.fresh (Nat.le_refl _))⟩
      exact ⟨by decide, _, .nil, IsTup.new _ _⟩
    · exact wpAny_binaryOp_repeat_ref (T := "tuple") (U := "int") (by decide) ⟨_, ho, rfl⟩ (fun s' => typeIs_int s' _ tk) noFill_tuple_mul F.fills_int_mul F.slot_int_rmul repeat_tuple F.slot_int_index.lookup (call_meets F.slot_int_rmul (typeIs_int s _ tk) F.entry_int_rmul (F.args_int_rmul_2 _ _) (int_rmul_tuple _ tk l its.toArray n dd sl) ⟨ho, rfl, ⟨_, ho, rfl⟩, call_meets F.slot_tuple_mul ⟨_, ho, rfl⟩ F.entry_tuple_mul (F.args_tuple_mul_2 _ _) (once_ l its.toArray n dd sl tk) ⟨ho, ⟨.ref l, _, I, rfl, q1 rfl⟩⟩⟩)
end Vk
/-! What nearly every law of the table wants: the state of the draws, rows of numbers, short data. -/
namespace Vk
open PySem PySem.Spec PyProof.Rows L2
def mkv (L sd : Int) (c : Addr) (sp : Int) : List (Key × V) := [(.inr "left", .int L), (.inr "seed", .int sd), (.inr "cells", .ref c), (.inr "spot", .int sp)]
theorem val_left {L sd sp : Int} {c : Addr} : valV (mkv L sd c sp) (.inr "left") = some (.int L) := by rfl
theorem val_seed {L sd sp : Int} {c : Addr} : valV (mkv L sd c sp) (.inr "seed") = some (.int sd) := by rfl
theorem val_cells {L sd sp : Int} {c : Addr} : valV (mkv L sd c sp) (.inr "cells") = some (.ref c) := by rfl
theorem val_spot {L sd sp : Int} {c : Addr} : valV (mkv L sd c sp) (.inr "spot") = some (.int sp) := by rfl
theorem put_left {L sd sp i : Int} {c : Addr} : putK (mkv L sd c sp) (.inr "left") (.int i) = mkv i sd c sp := by rfl
theorem put_spot {L sd sp i : Int} {c : Addr} : putK (mkv L sd c sp) (.inr "spot") (.int i) = mkv L sd c i := by rfl
theorem get_m {H : Hp} {m : Addr} {kvs : List (Key × V)} {x : Str} {v : V} (hm : H m = some (.dK kvs)) (h : valV kvs (.inr x) = some v) : DGet H m (.str x) (some v) := by
  have q := DGet.k (k := Sum.inr x) hm
  rw [h] at q
  exact q
theorem put_m {H : Hp} {m : Addr} {L sd sp : Int} {c : Addr} {kvs : List (Key × V)} {x : Str} {v : V} (hm : H m = some (.dK (mkv L sd c sp))) (h : putK (mkv L sd c sp) (.inr x) v = kvs) : DPut H m (.str x) v (upd H m (.dK kvs)) := by
  have q := DPut.k (k := Sum.inr x) (v := v) hm (small1000 (show 4 ≤ 1000 by decide))
  rw [h] at q
  exact q
/-- the state of the draws stands at m; at most n draws were made -/
def MOk (H : Hp) (m c : Addr) (n : Nat) : Prop := ∃ (L sd sp : Int) (cells : List Int), H m = some (.dK (mkv L sd c sp)) ∧ H c = some (.lst (cells.map V.int)) ∧ 0 < cells.length ∧ 0 ≤ sp ∧ sp ≤ n
theorem MOk.but {H H' : Hp} {m c q : Addr} {n : Nat} (h : MOk H m c n) (hq : q ≠ m) (hl : ∀ xs, H q ≠ some (.lst xs)) (s : SameBut q H H') : MOk H' m c n := by
  obtain ⟨L, sd, sp, cells, h1, h2, h3⟩ := h
  refine ⟨L, sd, sp, cells, s _ _ (Ne.symm hq) h1, s _ _ (fun z => hl _ (by rw [← z]; exact h2)) h2, h3⟩
theorem MOk.same {H H' : Hp} {m c : Addr} {n : Nat} (h : MOk H m c n) (s : Same H H') : MOk H' m c n := by
  obtain ⟨L, sd, sp, cells, h1, h2, h3⟩ := h
  exact ⟨L, sd, sp, cells, s _ _ h1, s _ _ h2, h3⟩
def spDraw : Sp := fun vs H Q _ => ∃ (m c : Addr) (n : Nat) (b : Int), vs = [.ref m, .int b] ∧ MOk H m c n ∧ n ≤ 100000 ∧ 0 < b ∧ b.natAbs < 2 ^ 200 ∧
  ∀ H' v, SameBut m H H' → MOk H' m c (n + 1) → 0 ≤ v → v < b → Q (.int v) H'
def spBegun (K : PySem.W.Frag) : Sp := fun vs H Q _ => ∃ (a : Addr) (k : Int) (ns : List Int), vs = [.ref a, .int k] ∧ SqL K H a (ns.map V.int) ∧ ns.length ≤ 63 ∧ 0 ≤ k ∧ k ≤ 100 ∧
  ∀ H' p r, Same H H' → H p = none → MOk H' p r 0 → Q (.ref p) H'
/-- |a| < 2 ^ n -/
def SmZ (n : Nat) (a : Int) : Prop := a.natAbs < 2 ^ n
def dot (xs ys : List Int) : Int := (List.zipWith (· * ·) xs ys).sum
/-- rows of few and small numbers -/
def Row (H : Hp) (a : Addr) (xs : List Int) : Prop := Tp H a (xs.map V.int) ∧ xs.length ≤ 100 ∧ ∀ x ∈ xs, SmZ 300 x
theorem Row.same {H H' : Hp} {a : Addr} {xs : List Int} (h : Row H a xs) (s : Same H H') : Row H' a xs := ⟨h.1.same s, h.2⟩
theorem small {n : Nat} (h : n ≤ 100) : n < sizeLine := Nat.lt_of_le_of_lt h (by decide)
theorem zipW_get {α : Type} {f : Int → Int → α} {xs ys : List Int} {i : Nat} {y : α} (h : (List.zipWith f xs ys)[i]? = some y) : ∃ a b, xs[i]? = some a ∧ ys[i]? = some b ∧ y = f a b := by
  rw [List.getElem?_zipWith] at h
  cases h1 : xs[i]? with
  | none => rw [h1] at h; cases h
  | some a =>
    cases h2 : ys[i]? with
    | none => rw [h1, h2] at h; cases h
    | some b => rw [h1, h2] at h; exact ⟨a, b, rfl, rfl, (Option.some.inj h).symm⟩
theorem map_get {α β : Type} {f : α → β} {xs : List α} {i : Nat} {y : β} (h : (xs.map f)[i]? = some y) : ∃ a, xs[i]? = some a ∧ y = f a := by
  rw [List.getElem?_map] at h
  cases h1 : xs[i]? with
  | none => rw [h1] at h; cases h
  | some a => rw [h1] at h; exact ⟨a, rfl, (Option.some.inj h).symm⟩
theorem wide {a b : Int} (h1 : SmZ 300 a) (h2 : SmZ 300 b) : a.natAbs.log2 + b.natAbs.log2 < 700 := by
  have := PySem.Flt.log2_lt_of (by decide) h1
  have := PySem.Flt.log2_lt_of (by decide) h2
  omega
/-- several rows of n numbers -/
def Rws (H : Hp) (ps : List Addr) (rows : List (List Int)) (n : Nat) : Prop := ps.length = rows.length ∧ ∀ (i : Nat) (p : Addr) (r : List Int), ps[i]? = some p → rows[i]? = some r → Row H p r ∧ r.length = n
theorem Rws.same {H H' : Hp} {ps : List Addr} {rows : List (List Int)} {n : Nat} (h : Rws H ps rows n) (s : Same H H') : Rws H' ps rows n := ⟨h.1, fun i p r h1 h2 => ⟨(h.2 i p r h1 h2).1.same s, (h.2 i p r h1 h2).2⟩⟩
theorem ix_tupK {X : Cx} {K : PySem.W.Frag} (h : X.K = K) : IxR X (rIxT K) := by
  subst h
  exact ix_tup
theorem atI_at {xs : List V} {j : Int} {i : Nat} {v : V} (e : j = ((i : Nat) : Int)) (h : xs[i]? = some v) : atI xs j = some v := by
  rw [e]
  exact atI_nat h
theorem get_map {α β : Type} {f : α → β} {xs : List α} {i : Nat} {x : α} (h : xs[i]? = some x) : (xs.map f)[i]? = some (f x) := by
  rw [List.getElem?_map, h]
  rfl
theorem Row.but {m a : Addr} {H H' : Hp} {xs : List Int} {kvs : List (Key × V)} (h : Row H a xs) (hm : H m = some (.dK kvs)) (s : SameBut m H H') : Row H' a xs := ⟨h.1.but hm s, h.2⟩
theorem Rws.but {m : Addr} {H H' : Hp} {ps : List Addr} {rows : List (List Int)} {n : Nat} {kvs : List (Key × V)} (h : Rws H ps rows n) (hm : H m = some (.dK kvs)) (s : SameBut m H H') : Rws H' ps rows n :=
  ⟨h.1, fun i p r h1 h2 => ⟨(h.2 i p r h1 h2).1.but hm s, (h.2 i p r h1 h2).2⟩⟩
theorem sb_put {m D : Addr} {H1 H4 : Hp} {o : HO} (nD : H1 D = none) (s : SameBut m H1 H4) : SameBut m H1 (upd H4 D o) := fun b u hb e => by
  rw [upd_ne (ne_of_none e nD)]
  exact s _ _ hb e
theorem MOk.m_some {H : Hp} {m c : Addr} {n : Nat} (h : MOk H m c n) : ∃ kvs, H m = some (.dK kvs) := by
  obtain ⟨L, sd, sp, cells, h1, _⟩ := h
  exact ⟨_, h1⟩
theorem MOk.c_some {H : Hp} {m c : Addr} {n : Nat} (h : MOk H m c n) : ∃ xs, H c = some (.lst xs) := by
  obtain ⟨L, sd, sp, cells, _, h2, _⟩ := h
  exact ⟨_, h2⟩
theorem MOk.mono {H : Hp} {m c : Addr} {n n' : Nat} (h : MOk H m c n) (l : n ≤ n') : MOk H m c n' := by
  obtain ⟨L, sd, sp, cells, h1, h2, h3, h4, h5⟩ := h
  exact ⟨L, sd, sp, cells, h1, h2, h3, h4, by omega⟩
theorem MOk.put {H : Hp} {m c D : Addr} {n : Nat} {o : HO} (h : MOk H m c n) (dm : D ≠ m) (dc : D ≠ c) : MOk (upd H D o) m c n := by
  obtain ⟨L, sd, sp, cells, h1, h2, h3, h4, h5⟩ := h
  exact ⟨L, sd, sp, cells, by rw [upd_ne (Ne.symm dm)]; exact h1, by rw [upd_ne (Ne.symm dc)]; exact h2, h3, h4, h5⟩
theorem smz_of {a b : Int} {n : Nat} (h0 : -b ≤ a) (h1 : a ≤ b) (hb : b.natAbs < 2 ^ n) : SmZ n a := by
  unfold SmZ
  have : a.natAbs ≤ b.natAbs := by omega
  omega
theorem smz_mono {a : Int} {n m : Nat} (h : SmZ n a) (l : n ≤ m) : SmZ m a := Nat.lt_of_lt_of_le h (Nat.pow_le_pow_right (by decide) l)
theorem smz_mul {a b : Int} {n m : Nat} (h1 : SmZ n a) (h2 : SmZ m b) : SmZ (n + m) (a * b) := by
  unfold SmZ at *
  rw [Int.natAbs_mul, Nat.pow_add]
  exact Nat.mul_lt_mul'' h1 h2
theorem ix_listK {X : Cx} {K : PySem.W.Frag} (h : X.K = K) : IxR X (rIxL K) := by
  subst h
  exact ix_list
theorem getD_at {xs : List Int} {i : Nat} (hi : i < xs.length) : xs[i]? = some (xs.getD i 0) := by
  rw [List.getD_eq_getElem?_getD, List.getElem?_eq_getElem hi]
  rfl
/-- a run over any walk, whatever a turn's form -/
theorem walk_run {J : It} {n : Nat} {G : Hp → Prop} {Y : Nat → Hp → V → Hp → Prop} (w : Walk J n G Y) (B : (Hp → Prop) → V → Hp → Prop) (Pv : Nat → Hp → Prop) {H0 : Hp} {Z : Hp → Prop} (h0 : Pv 0 H0) (hG : ∀ i H, i ≤ n → Pv i H → G H)
    (hs : ∀ i x H H', i < n → Pv i H → Y i H x H' → B (Pv (i + 1)) x H') (hd : ∀ H, Pv n H → Z H) :
    ∃ W : Nat → Nat → Hp → Prop, (∃ m, W 0 m H0) ∧ ∀ i m H, W i m H → (J.stop i H ∧ Z H) ∨ (J.go i H ∧ ∃ Nx : Hp → Prop, (∀ H', Nx H' → ∃ m', m' < m ∧ W (i + 1) m' H') ∧ ∀ x H', J.yld i H x H' → B Nx x H') := by
  refine ⟨fun i m H => m = n - i ∧ i ≤ n ∧ Pv i H, ⟨n - 0, rfl, Nat.zero_le _, h0⟩, ?_⟩
  rintro i m H ⟨rfl, hi, p⟩
  by_cases lt : i < n
  · exact .inr ⟨w.goes i H lt (hG i H hi p), Pv (i + 1), fun H' p' => ⟨n - (i + 1), by omega, rfl, lt, p'⟩, fun x H' y => hs i x H H' lt p (w.yields i H x H' lt (hG i H hi p) y)⟩
  · obtain rfl : i = n := by omega
    exact .inl ⟨w.stops H (hG _ H hi p), hd H p⟩
/-- several tuples of numbers -/
def Rw (H : Hp) (ps : List Addr) (ss : List (List Int)) : Prop := ps.length = ss.length ∧ ∀ (i : Nat) (p : Addr) (r : List Int), ps[i]? = some p → ss[i]? = some r → Tp H p (r.map V.int)
theorem Rw.same {H H' : Hp} {ps : List Addr} {ss : List (List Int)} (h : Rw H ps ss) (s : Same H H') : Rw H' ps ss := ⟨h.1, fun i p r h1 h2 => (h.2 i p r h1 h2).same s⟩
theorem Rw.snoc {H : Hp} {ps : List Addr} {ss : List (List Int)} {p : Addr} {r : List Int} (h : Rw H ps ss) (hp : Tp H p (r.map V.int)) : Rw H (ps ++ [p]) (ss ++ [r]) := by
  refine ⟨by rw [List.length_append, List.length_append, h.1]; rfl, fun j a z h1 h2 => ?_⟩
  by_cases hj : j < ps.length
  · rw [List.getElem?_append_left hj] at h1
    rw [List.getElem?_append_left (by rw [← h.1]; exact hj)] at h2
    exact h.2 j a z h1 h2
  · rw [List.getElem?_append_right (by omega)] at h1
    rw [List.getElem?_append_right (by rw [← h.1]; omega)] at h2
    have j0 : j - ps.length = 0 := by
      have := (List.getElem?_eq_some_iff.mp h1).1
      simp only [List.length_cons, List.length_nil] at this
      omega
    rw [j0] at h1
    rw [← h.1, j0] at h2
    obtain rfl : p = a := Option.some.inj h1
    obtain rfl : r = z := Option.some.inj h2
    exact hp
theorem eqv_rows (xs ys : List Int) : PyData.eqv (.tuple (xs.map PyData.int)) (.tuple (ys.map PyData.int)) = decide (xs = ys) := by
  rw [show PyData.eqv (.tuple (xs.map PyData.int)) (.tuple (ys.map PyData.int)) = PyData.eqvAll (xs.map PyData.int) (ys.map PyData.int) by simp only [PyData.eqv]]
  exact PySem.W.ked_eqvAll xs ys
theorem shaped_row (ns : List Int) : SeqAt.shaped (.tuple (ns.map PyData.int)) = true := by
  obtain ⟨h1, h2⟩ := lay_ints ns
  simp [SeqAt.shaped, PyData.canLay0, PyData.depth, h1, h2]
theorem pa_starK {X : Cx} {K : PySem.W.Frag} {e : Expr} {es : List Expr} {te : TE} {t : TA} {p : Pos} (h : X.K = K) (he : PE X e te) (hr : PA X es t) (hs : starEach (.Starred e p :: es) X.env = (true, eval e X.env) :: starEach es X.env := by rfl) : PA X (.Starred e p :: es) (StX.tStar K te t) := by
  subst h
  exact StX.pa_star he hr hs
theorem op_neDK {X : Cx} {K : PySem.W.Frag} (h : X.K = K) (hu : X.A.units + 64 < cLine) : OpR X (compareOp .NotEq) (rNeD K) := by
  subst h
  exact op_neD hu
theorem big {n : Nat} (h : n ≤ 40000) : n < sizeLine := Nat.lt_of_le_of_lt h (by decide)
theorem tp_put {H : Hp} {p D : Addr} {xs l : List V} {o : HO} (h : Tp H p xs) (d : H D = some (.lst l)) : Tp (upd H D o) p xs := by
  have ne : p ≠ D := by
    rintro rfl
    have h : H p = some (.tup xs) := h
    rw [h] at d
    cases d
  show upd H D o p = some (.tup xs)
  rw [upd_ne ne]
  exact h
theorem Rw.put {H : Hp} {D : Addr} {l : List V} {o : HO} {ps : List Addr} {ss : List (List Int)} (h : Rw H ps ss) (d : H D = some (.lst l)) : Rw (upd H D o) ps ss := ⟨h.1, fun i p r h1 h2 => tp_put (h.2 i p r h1 h2) d⟩
theorem op_tmsK {X : Cx} {K : PySem.W.Frag} (h : X.K = K) : OpR X (binaryOp .Mult) (rTms K) := op_tms h
theorem tms_tp {K : PySem.W.Frag} {H : Hp} {a : Addr} {xs : List V} {k : Nat} {z : Int} {Q : VK} (ez : z = ((k : Nat) : Int)) (ha : Tp H a xs) (ne : xs ≠ []) (hk : k ≤ 1000) (hx : xs.length ≤ 1000) (q : ∀ r H', Same H H' → Tp H' r (List.replicate k xs).flatten → Q (.ref r) H') : rTms K (.ref a) (.int z) H Q := by
  subst ez
  refine ⟨a, k, xs, rfl, rfl, ha.t, ne, hk, hx, fun e => ?_, fun _ p np => q p _ (same_new np) upd_same⟩
  subst e
  refine q a H (Same.refl _) ?_
  rw [List.replicate_one, List.flatten_singleton]
  exact ha
def spSigned : Sp := fun vs H Q _ => ∃ (m c : Addr) (q : Nat) (b : Int), vs = [.ref m, .int b] ∧ MOk H m c q ∧ q ≤ 50000 ∧ 0 ≤ b ∧ b ≤ 1000 ∧ ∀ H' v, SameBut m H H' → MOk H' m c (q + 2) → -b ≤ v → v ≤ b → Q (.int v) H'
/-- two values of the same data -/
def spLike (K : PySem.W.Frag) : Sp := fun vs H Q _ => ∃ x y d, vs = [x, y] ∧ Dp K H x d ∧ Dp K H y d ∧ Fit d ∧ Q (.bl true) H
theorem iteF' {c : Bool} {A B : Prop} (hc : c = false) (h : B) : if c = true then A else B := by
  subst hc
  exact iteF h
theorem dot_abs (A M : Nat) : ∀ (xs ys : List Int), (∀ x ∈ xs, x.natAbs ≤ A) → (∀ y ∈ ys, y.natAbs ≤ M) → (dot xs ys).natAbs ≤ ys.length * (A * M)
  | [], _, _, _ => by
    show (0 : Int).natAbs ≤ _
    exact Nat.zero_le _
  | x :: xs, [], _, _ => by
    show (0 : Int).natAbs ≤ _
    exact Nat.zero_le _
  | x :: xs, y :: ys, hx, hy => by
    have ih := dot_abs A M xs ys (fun a h => hx a (List.mem_cons_of_mem _ h)) (fun a h => hy a (List.mem_cons_of_mem _ h))
    have e : dot (x :: xs) (y :: ys) = x * y + dot xs ys := by
      unfold dot
      rw [List.zipWith_cons_cons, List.sum_cons]
    rw [e, List.length_cons, Nat.succ_mul]
    have h1 : (x * y).natAbs ≤ A * M := by
      rw [Int.natAbs_mul]
      exact Nat.mul_le_mul (hx x (List.mem_cons_self ..)) (hy y (List.mem_cons_self ..))
    have h2 := Int.natAbs_add_le (x * y) (dot xs ys)
    omega
theorem fdiv_abs {a d : Int} (hd : 0 < d) : (a.fdiv d).natAbs ≤ a.natAbs := by
  rw [Int.fdiv_eq_ediv_of_nonneg _ (Int.le_of_lt hd)]
  exact Int.natAbs_ediv_le_natAbs a d
theorem fit_all {k a : Nat} : ∀ (L : Nat) (ds : List PyData), (∀ d ∈ ds, FitN k a d) → ds.length ≤ L → FitLN k ((a + 1) * L) ds
  | _, [], _, _ => .nil
  | 0, d :: ds, _, h => by cases h
  | L + 1, d :: ds, hd, h => by
    refine .cons (hd d (List.mem_cons_self ..)) (fit_all L ds (fun x hx => hd x (List.mem_cons_of_mem _ hx)) (by rw [List.length_cons] at h; omega)) ?_
    rw [Nat.mul_succ]
    omega
theorem fit_ints {k : Nat} (L : Nat) (xs : List Int) (h : ∀ x ∈ xs, SmZ 300 x) (hl : xs.length ≤ L) : FitN (k + 1) L (.tuple (xs.map PyData.int)) := by
  have q := fit_all (k := k) (a := 0) L (xs.map PyData.int) (fun d hd => by
    obtain ⟨x, hx, rfl⟩ := List.mem_map.mp hd
    exact FitN.int (Nat.lt_of_lt_of_le (h x hx) (Nat.pow_le_pow_right (by decide) (by decide)))) (by rw [List.length_map]; exact hl)
  rw [Nat.zero_add, Nat.one_mul] at q
  exact .tup q
/-- the data of a row, of a table, of a grid -/
def dRow (r : List Int) : PyData := .tuple (r.map PyData.int)
theorem dp_row {K : PySem.W.Frag} {H : Hp} {p : Addr} {r : List Int} (h : Tp H p (r.map V.int)) : Dp K H (.ref p) (dRow r) := .tup h.t (dp_ints r)
theorem dp_all {K : PySem.W.Frag} {H : Hp} : ∀ (qs : List Addr) (ds : List PyData), qs.length = ds.length → (∀ (i : Nat) (q : Addr) (d : PyData), qs[i]? = some q → ds[i]? = some d → Dp K H (.ref q) d) → DpAll K H (qs.map V.ref) ds
  | [], [], _, _ => .nil
  | [], _ :: _, h, _ => by cases h
  | _ :: _, [], h, _ => by cases h
  | q :: qs, d :: ds, h, k => .cons (k 0 q d rfl rfl) (dp_all qs ds (Nat.succ.inj h) fun i a b h1 h2 => k (i + 1) a b h1 h2)
instance (n : Nat) (a : Int) : Decidable (SmZ n a) := Nat.decLt _ _
theorem MOk.ext {H H' : Hp} {m r : Addr} {n : Nat} (h : MOk H m r n) (e : LamX.ExtN H H') : MOk H' m r n := by
  obtain ⟨L, sd, sp, cells, h1, h2, h3⟩ := h
  exact ⟨L, sd, sp, cells, e _ _ h1 (fun ps z => by cases z), e _ _ h2 (fun ps z => by cases z), h3⟩
theorem sql_ext {K : PySem.W.Frag} {H H' : Hp} {a : Addr} {xs : List V} (h : SqL K H a xs) (e : LamX.ExtN H H') : SqL K H' a xs := by
  rcases h with (h | ⟨o, h⟩) | h
  · exact .inl (.inl (e _ _ h fun ps z => by cases z))
  · exact .inl (.inr ⟨o, e _ _ h fun ps z => by cases z⟩)
  · exact .inr h
theorem ext_but {H H1 H2 : Hp} {m : Addr} (hm : H m = none) (a : LamX.ExtN H H1) (b : SameBut m H1 H2) : LamX.ExtN H H2 := fun c o h n => b c o (ne_of_none h hm) (a c o h n)
theorem tabs_but {T : List (Addr × Str)} {H H' : Hp} {m : Addr} {kvs : List (Key × V)} (hT : LamX.Tabs T H) (hm : H m = some (.dK kvs)) (s : SameBut m H H') : LamX.Tabs T H' := fun p hp => by
  obtain ⟨ps, h1, h2, h3⟩ := hT p hp
  refine ⟨ps, s _ _ (ne_of h1 hm (by intro z; cases z)) h1, h2, fun pos cv hc => ?_⟩
  obtain ⟨c, e1, e2⟩ := h3 pos cv hc
  exact ⟨c, e1, s _ _ (ne_of e2 hm (by intro z; unfold LamX.CodeO at z; cases z)) e2⟩
theorem ext_same {H H1 H2 : Hp} (a : LamX.ExtN H H1) (b : Same H1 H2) : LamX.ExtN H H2 := a.trans (LamX.ExtN.of b)
theorem Tp.ext {H H' : Hp} {a : Addr} {xs : List V} (h : Tp H a xs) (e : LamX.ExtN H H') : Tp H' a xs := e _ _ h fun ps z => by cases z
theorem cons_ {te : TE} {t : TA} {σ : L2.St} {H : Hp} {R : List V → Hp → Prop} (h : te σ H fun x H1 => t σ H1 fun xs H2 => R (x :: xs) H2) : tCons te t σ H R := h
def tInts : List Int → TA
  | [] => tNil
  | x :: r => tCons (tC (.int x)) (tInts r)
def tRows : List (List Int) → TA
  | [] => tNil
  | x :: r => tCons (tTup (tInts x)) (tRows r)
theorem ints_ {σ : L2.St} {H : Hp} : ∀ (xs : List Int) {R : List V → Hp → Prop}, R (xs.map V.int) H → tInts xs σ H R
  | [], _, h => h
  | x :: r, R, h => ints_ r (R := fun vs H' => R (.int x :: vs) H') h
theorem row_ {σ : L2.St} {H : Hp} (xs : List Int) (hl : xs.length ≤ 100) {Q : VK} (h : ∀ p H', Same H H' → Tp H' p (xs.map V.int) → Q (.ref p) H') : tTup (tInts xs) σ H Q :=
  ints_ xs ⟨by rw [List.length_map]; exact Nat.le_of_lt (small hl), fun p np => h p _ (same_new np) upd_same⟩
theorem rows_ {n : Nat} {σ : L2.St} : ∀ (rs : List (List Int)) {H : Hp} {R : List V → Hp → Prop}, (∀ r ∈ rs, r.length = n ∧ n ≤ 100 ∧ ∀ x ∈ r, SmZ 300 x) → (∀ ps H', Same H H' → Rws H' ps rs n → R (ps.map V.ref) H') → tRows rs σ H R
  | [], H, R, _, h => h [] H (Same.refl _) ⟨rfl, fun i p r e _ => by cases e⟩
  | x :: rs, H, R, hx, h => by
    obtain ⟨l, ln, z⟩ := hx x (List.mem_cons_self ..)
    show tTup (tInts x) σ H fun v H1 => tRows rs σ H1 fun xs H2 => R (v :: xs) H2
    refine row_ x (by omega) fun p H1 s1 g1 => ?_
    refine rows_ rs (fun r hr => hx r (List.mem_cons_of_mem _ hr)) fun ps H2 s2 w2 => ?_
    refine h (p :: ps) H2 (s1.trans s2) ⟨by rw [List.length_cons, List.length_cons, w2.1], fun i q r e1 e2 => ?_⟩
    cases i with
    | zero =>
      obtain rfl : p = q := Option.some.inj e1
      obtain rfl : x = r := Option.some.inj e2
      exact ⟨⟨g1.same s2, by omega, z⟩, l⟩
    | succ i => exact w2.2 i q r e1 e2
theorem smz_le {x b : Int} (h0 : 0 ≤ x) (h1 : x ≤ b) (hb : b.natAbs < 2 ^ 300) : SmZ 300 x := smz_of (b := b) (by omega) h1 hb
def spOf : Sp := fun vs H Q _ => ∃ (m c L : Addr) (n : Nat) (xs : List V), vs = [.ref m, .ref L] ∧ MOk H m c n ∧ n ≤ 100000 ∧ H L = some (.lst xs) ∧ 0 < xs.length ∧ xs.length ≤ 100 ∧ ∀ H' v, SameBut m H H' → MOk H' m c (n + 1) → v ∈ xs → Q v H'
theorem Row.tail {H : Hp} {a : Addr} {x : Int} {xs : List Int} (h : Row H a (x :: xs)) : xs.length ≤ 100 ∧ ∀ y ∈ xs, SmZ 300 y := ⟨Nat.le_trans (Nat.le_succ _) h.2.1, fun y hy => h.2.2 y (List.mem_cons_of_mem _ hy)⟩
theorem smz_log {a : Int} {n : Nat} (hn : 0 < n) (h : SmZ n a) : a.natAbs.log2 < n := PySem.Flt.log2_lt_of hn h
def spIsn : Sp := fun vs H Q _ => ∃ x t, vs = [x] ∧ Oky H x t ∧ Q (.bl (isInt x)) H
def tupOk (n : Nat) (xs : List V) : Bool := decide (xs.length = n) && xs.all isInt
/-- a value of any kind is judged: an entry of a tuple, too -/
def spAren : Sp := fun vs H Q _ => ∃ (x : V) (n : Nat), vs = [x, .int n] ∧ ((∃ t, Oky H x t ∧ t ≠ "tuple" ∧ Q (.bl false) H) ∨ ∃ a xs, x = .ref a ∧ Tp H a xs ∧ xs.length ≤ 100 ∧ (∀ e ∈ xs, ∃ t, Oky H e t) ∧ ∀ H', Same H H' → Q (.bl (tupOk n xs)) H')
def spPsum : Sp := fun vs H Q _ => ∃ (a b : Addr) (xs ys : List Int), vs = [.ref a, .ref b] ∧ Row H a xs ∧ Row H b ys ∧ xs.length = ys.length ∧ ∀ H', Same H H' → Q (.int (dot xs ys)) H'
def spFval : Sp := fun vs H Q _ => ∃ (a b : Addr) (c : Int) (xs ys : List Int), vs = [.ref a, .ref b] ∧ Row H a (c :: xs) ∧ Row H b ys ∧ xs.length = ys.length ∧ ∀ H', Same H H' → Q (.int (c + dot xs ys)) H'
def spFsum : Sp := fun vs H Q _ => ∃ (a b : Addr) (xs ys : List Int), vs = [.ref a, .ref b] ∧ Row H a xs ∧ Row H b ys ∧ xs.length = ys.length ∧ ∀ r H', Same H H' → Tp H' r ((List.zipWith (· + ·) xs ys).map V.int) → Q (.ref r) H'
def spFtimes : Sp := fun vs H Q _ => ∃ (a : Addr) (n : Int) (xs : List Int), vs = [.ref a, .int n] ∧ Row H a xs ∧ SmZ 300 n ∧ ∀ r H', Same H H' → Tp H' r ((xs.map (n * ·)).map V.int) → Q (.ref r) H'
def spGcd : Sp := fun vs H Q _ => ∃ a c : Int, vs = [.int a, .int c] ∧ Q (.int (Int.gcd a c)) H
def sg (n : Int) : Int := (if 0 < n then 1 else 0) - (if n < 0 then 1 else 0)
def spSign : Sp := fun vs H Q _ => ∃ n : Int, vs = [.int n] ∧ Q (.int (sg n)) H
/-- a value of some kind, not the drawn dict -/
def Ky (m : Addr) (H : Hp) (x : V) : Prop := x ≠ .ref m ∧ ∃ t, Oky H x t
/-- a value that is judged -/
def Kn (m : Addr) (H : Hp) (x : V) : Prop := x ≠ .ref m ∧ ((∃ t, Oky H x t ∧ t ≠ "tuple") ∨ ∃ a xs, x = .ref a ∧ Tp H a xs ∧ xs.length ≤ 100 ∧ ∀ e ∈ xs, Ky m H e)
theorem Ky.but {m : Addr} {H H' : Hp} {x : V} (h : Ky m H x) (s : SameBut m H H') : Ky m H' x := by
  obtain ⟨n, t, h⟩ := h
  refine ⟨n, t, ?_⟩
  cases h with
  | non => exact .non
  | bl b => exact .bl b
  | int i => exact .int i
  | str x => exact .str x
  | lst e => exact .lst (s _ _ (fun z => n (by rw [z])) e)
  | tup e => exact .tup (s _ _ (fun z => n (by rw [z])) e)
  | dK e => exact .dK (s _ _ (fun z => n (by rw [z])) e)
theorem Kn.but {m : Addr} {H H' : Hp} {x : V} (h : Kn m H x) (s : SameBut m H H') : Kn m H' x := by
  obtain ⟨n, ⟨t, h, ht⟩ | ⟨a, xs, rfl, ha, hl, hes⟩⟩ := h
  · refine ⟨n, .inl ⟨t, ?_, ht⟩⟩
    cases h with
    | non => exact .non
    | bl b => exact .bl b
    | int i => exact .int i
    | str x => exact .str x
    | lst e => exact .lst (s _ _ (fun z => n (by rw [z])) e)
    | tup e => exact absurd rfl ht
    | dK e => exact .dK (s _ _ (fun z => n (by rw [z])) e)
  · exact ⟨n, .inr ⟨a, xs, rfl, s _ _ (fun z => n (by rw [z])) ha, hl, fun e he => (hes e he).but s⟩⟩
theorem Ky.int {m : Addr} {H : Hp} (i : Int) : Ky m H (.int i) := ⟨(fun z => by cases z), _, .int i⟩
theorem ky_row {m : Addr} {H : Hp} {xs : List Int} : ∀ e ∈ xs.map V.int, Ky m H e := fun e he => by
  obtain ⟨i, _, rfl⟩ := List.mem_map.mp he
  exact Ky.int i
theorem Kn.tp {m a : Addr} {H : Hp} {xs : List V} (hm : ∃ kvs, H m = some (.dK kvs)) (ha : Tp H a xs) (hl : xs.length ≤ 100) (h : ∀ e ∈ xs, Ky m H e) : Kn m H (.ref a) := by
  obtain ⟨kvs, hm⟩ := hm
  exact ⟨fun z => ne_of ha hm (by intro w; cases w) (V.ref.inj z), .inr ⟨a, xs, rfl, ha, hl, h⟩⟩
theorem Kn.lst {m a : Addr} {H : Hp} {xs : List V} (hm : ∃ kvs, H m = some (.dK kvs)) (ha : H a = some (.lst xs)) : Kn m H (.ref a) := by
  obtain ⟨kvs, hm⟩ := hm
  exact ⟨fun z => ne_of ha hm (by intro w; cases w) (V.ref.inj z), .inl ⟨_, .lst ha, by decide⟩⟩
theorem Ky.tp {m a : Addr} {H : Hp} {xs : List V} (hm : ∃ kvs, H m = some (.dK kvs)) (ha : Tp H a xs) : Ky m H (.ref a) := by
  obtain ⟨kvs, hm⟩ := hm
  exact ⟨fun z => ne_of ha hm (by intro w; cases w) (V.ref.inj z), _, .tup ha⟩
theorem Ky.lst {m a : Addr} {H : Hp} {xs : List V} (hm : ∃ kvs, H m = some (.dK kvs)) (ha : H a = some (.lst xs)) : Ky m H (.ref a) := by
  obtain ⟨kvs, hm⟩ := hm
  exact ⟨fun z => ne_of ha hm (by intro w; cases w) (V.ref.inj z), _, .lst ha⟩
theorem cut_mem {xs : List V} {lo hi : Option Int} {e : V} (h : e ∈ cutV xs lo hi) : e ∈ xs := by
  unfold cutV at h
  exact List.mem_of_mem_drop (List.mem_of_mem_take h)
theorem cut_len {xs : List V} {lo hi : Option Int} : (cutV xs lo hi).length ≤ xs.length := by
  unfold cutV
  rw [List.length_take, List.length_drop]
  omega
theorem sm_but {m : Addr} {H0 H H' : Hp} (nm : H0 m = none) (s : Same H0 H) (b : SameBut m H H') : Same H0 H' := fun a o e => b a o (ne_of_none e nm) (s a o e)
theorem sql_same {K : PySem.W.Frag} {H H' : Hp} {a : Addr} {xs : List V} (h : SqL K H a xs) (s : Same H H') : SqL K H' a xs := s.seq h
theorem nat_of {v : Int} (h : 0 ≤ v) : ∃ n : Nat, v = n := ⟨v.toNat, by omega⟩
/-- a comprehension of drawn numbers, w draws for each -/
theorem lc_dr {n w : Nat} {g : TG} {te : TE} {vs : List Nat} {σ : L2.St} {H1 : Hp} {D : Addr} {Qd : Hp → Prop} {m c : Addr} {q : Nat} (R : Nat → Int → Prop) (hz : n < sizeLine) (hM : MOk H1 m c q) (nD : H1 D = none)
    (hs : ∀ (i : Nat) (H : Hp) (Qy : VK), i < n → SameBut m H1 H → MOk H m c (q + w * i) → (∀ H4 v, SameBut m H H4 → MOk H4 m c (q + w * i + w) → R i v → Qy (.int v) H4) → g (.int (0 + i)) (wipe σ vs) H fun σ2 H2 => wipe σ2 vs = wipe σ vs ∧ te σ2 H2 Qy)
    (hd : ∀ H (xs : List Int), SameBut m H1 H → MOk H m c (q + w * n) → H D = some (.lst (xs.map V.int)) → xs.length = n → (∀ (i : Nat) (x : Int), xs[i]? = some x → R i x) → Qd H) :
    ∃ W : Nat → Nat → Hp → Prop, (∃ m, W 0 m (upd H1 D (.lst []))) ∧ ∀ i m H, W i m H →
      ((Itr 0 n).stop i H ∧ Qd H) ∨ ((Itr 0 n).go i H ∧ ∃ Nx : Hp → Prop, (∀ H', Nx H' → ∃ m', m' < m ∧ W (i + 1) m' H') ∧ ∀ x H', (Itr 0 n).yld i H x H' → g x (wipe σ vs) H' fun σ2 H2 => wipe σ2 vs = wipe σ vs ∧ tYes σ2 H2 fun b H3 =>
        if b = true then te σ2 H3 fun y H4 => ∃ acc, H4 D = some (.lst acc) ∧ acc.length < sizeLine ∧ Nx (upd H4 D (.lst (acc ++ [y]))) else Nx H3) := by
  obtain ⟨kvs, hm⟩ := hM.m_some
  obtain ⟨ys, hc⟩ := hM.c_some
  have dm : D ≠ m := Ne.symm (ne_of_none hm nD)
  have dc : D ≠ c := Ne.symm (ne_of_none hc nD)
  refine lc_it (walk_range (lo := 0) (n := n)) (tt := tYes) (fun i H => ∃ xs : List Int, SameBut m H1 H ∧ MOk H m c (q + w * i) ∧ H D = some (.lst (xs.map V.int)) ∧ xs.length = i ∧ ∀ (j : Nat) (x : Int), xs[j]? = some x → R j x) ⟨[], SameBut.of (same_new nD), hM.put dm dc, upd_same, rfl, fun j x hx => by cases hx⟩ (fun _ _ _ _ => True.intro) ?_ ?_
  · rintro i x H H' hi ⟨xs, sb, M, d, l, bd⟩ ⟨rfl, rfl⟩
    refine hs i H' (fun y H4 => ∃ acc, H4 D = some (.lst acc) ∧ acc.length < sizeLine ∧ ∃ xs : List Int, SameBut m H1 (upd H4 D (.lst (acc ++ [y]))) ∧ MOk (upd H4 D (.lst (acc ++ [y]))) m c (q + w * (i + 1)) ∧ upd H4 D (.lst (acc ++ [y])) D = some (.lst (xs.map V.int)) ∧ xs.length = i + 1 ∧ ∀ (j : Nat) (x : Int), xs[j]? = some x → R j x) hi sb M fun H4 v b4 M4 v0 => ?_
    refine ⟨xs.map V.int, b4 _ _ dm d, by rw [List.length_map]; omega, xs ++ [v], sb_put nD (sb.trans b4), (M4.put dm dc).mono (by rw [Nat.mul_succ]; omega), ?_, by rw [List.length_append, l]; rfl, fun j x hx => ?_⟩
    · rw [upd_same, List.map_append]
      rfl
    · by_cases hj : j < xs.length
      · rw [List.getElem?_append_left hj] at hx
        exact bd j x hx
      · have hj2 := (List.getElem?_eq_some_iff.mp hx).1
        rw [List.length_append] at hj2
        have hj3 : j = xs.length := by
          simp only [List.length_cons, List.length_nil] at hj2
          omega
        subst hj3
        rw [List.getElem?_append_right (Nat.le_refl _), Nat.sub_self] at hx
        obtain rfl := Option.some.inj hx
        rw [l]
        exact v0
  · rintro H ⟨xs, sb, M, d, l, bd⟩
    exact hd H xs sb M d l bd
/-- a comprehension with a test, over any walk: the values of the kept places -/
theorem lc_fl {J : It} {n : Nat} {G : Hp → Prop} {Y : Nat → Hp → V → Hp → Prop} (w : Walk J n G Y) {g : TG} {tt : TT} {te : TE} {vs : List Nat} {σ : L2.St} {H1 : Hp} {D : Addr} {Qd : Hp → Prop} (keep : Nat → Bool) (val : Nat → V) (hz : n < sizeLine) (nD : H1 D = none)
    (hG : ∀ H, Same H1 H → G H)
    (hs : ∀ (i : Nat) (x : V) (H H' : Hp) (Qy : VK) (Nx : Hp → Prop), i < n → Same H1 H → Y i H x H' → (keep i = true → ∀ H4, Same H H4 → Qy (val i) H4) → (keep i = false → ∀ H4, Same H H4 → Nx H4) → g x (wipe σ vs) H' fun σ2 H2 => wipe σ2 vs = wipe σ vs ∧ tt σ2 H2 fun b H3 => if b = true then te σ2 H3 Qy else Nx H3)
    (hd : ∀ H, Same H1 H → H D = some (.lst (((List.range n).filter keep).map val)) → Qd H) :
    ∃ W : Nat → Nat → Hp → Prop, (∃ m, W 0 m (upd H1 D (.lst []))) ∧ ∀ i m H, W i m H →
      (J.stop i H ∧ Qd H) ∨ (J.go i H ∧ ∃ Nx : Hp → Prop, (∀ H', Nx H' → ∃ m', m' < m ∧ W (i + 1) m' H') ∧ ∀ x H', J.yld i H x H' → g x (wipe σ vs) H' fun σ2 H2 => wipe σ2 vs = wipe σ vs ∧ tt σ2 H2 fun b H3 =>
        if b = true then te σ2 H3 fun y H4 => ∃ acc, H4 D = some (.lst acc) ∧ acc.length < sizeLine ∧ Nx (upd H4 D (.lst (acc ++ [y]))) else Nx H3) := by
  refine lc_it w (tt := tt) (fun i H => Same H1 H ∧ H D = some (.lst (((List.range i).filter keep).map val))) ⟨same_new nD, by rw [upd_same]; rfl⟩ (fun i H _ p => hG H p.1) ?_ ?_
  · rintro i x H H' hi ⟨s, d⟩ y
    refine hs i x H H' _ _ hi s y (fun hk H4 s4 => ?_) (fun hk H4 s4 => ?_)
    · refine ⟨_, s4 _ _ d, ?_, same_put (s.trans s4) nD, ?_⟩
      · rw [List.length_map]
        have := List.length_filter_le keep (List.range i)
        rw [List.length_range] at this
        omega
      · rw [upd_same, List.range_succ, List.filter_append, List.filter_cons_of_pos hk, List.filter_nil, List.map_append]
        rfl
    · refine ⟨s.trans s4, ?_⟩
      rw [s4 _ _ d, List.range_succ, List.filter_append, List.filter_cons_of_neg (by rw [hk]; decide), List.filter_nil, List.append_nil]
  · rintro H ⟨s, d⟩
    exact hd H s d
theorem lay_rows : ∀ rows : List (List Int), PyData.canLayAll0 (rows.map dRow) = true ∧ PyData.depthAll (rows.map dRow) ≤ 1
  | [] => ⟨by simp [PyData.canLayAll0], by simp [PyData.depthAll]⟩
  | r :: rs => by
    obtain ⟨h1, h2⟩ := lay_rows rs
    obtain ⟨h3, h4⟩ := lay_ints r
    refine ⟨by simp [PyData.canLayAll0, dRow, PyData.canLay0, h1, h3], ?_⟩
    simp only [List.map_cons, PyData.depthAll, dRow, PyData.depth, h4]
    omega
theorem shaped_rows (rows : List (List Int)) : SeqAt.shaped (.list (rows.map dRow)) = true ∧ SeqAt.shaped (.tuple (rows.map dRow)) = true := by
  obtain ⟨h1, h2⟩ := lay_rows rows
  constructor <;> simp [SeqAt.shaped, PyData.canLay0, PyData.depth, h1] <;> omega
theorem iteT' {c : Bool} {A B : Prop} (hc : c = true) (h : A) : if c = true then A else B := by
  subst hc
  exact iteT h
theorem all_of_get {xs : List Int} {R : Int → Prop} (h : ∀ (i : Nat) (x : Int), xs[i]? = some x → R x) : ∀ x ∈ xs, R x := fun x hx => by
  obtain ⟨i, hi⟩ := List.getElem?_of_mem hx
  exact h i x hi
end Vk
namespace K45
open PySem PySem.Spec PyProof.Rows L2 Vk
def topS (i : Nat) : Stmt := PySem.Challenge.pw_pointtally_k45_whole_directions.main.body.getD i (.Pass ⟨0, 0, 0, 0⟩)
abbrev s_draw : Stmt := topS 10
theorem sc_draw : FnScope ["m", "bound", "found", "spot", "cells", "extra", "cell", "blend"] ["m", "bound"] (defScope s_draw) := ⟨rfl, rfl, rfl, by decide +kernel, rfl, by decide +kernel, by decide +kernel⟩
abbrev s_begun : Stmt := topS 9
theorem sc_begun : FnScope ["script", "k", "cells", "cell", "great", "seed"] ["script", "k"] (defScope s_begun) := ⟨rfl, rfl, rfl, by decide +kernel, rfl, by decide +kernel, by decide +kernel⟩
abbrev s_like : Stmt := topS 13
theorem sc_like : FnScope ["got", "due"] ["got", "due"] (defScope s_like) := ⟨rfl, rfl, rfl, by decide +kernel, rfl, by decide +kernel, by decide +kernel⟩
abbrev s_of : Stmt := topS 11
theorem sc_of : FnScope ["m", "some"] ["m", "some"] (defScope s_of) := ⟨rfl, rfl, rfl, by decide +kernel, rfl, by decide +kernel, by decide +kernel⟩
abbrev s_isn : Stmt := topS 1
theorem sc_isn : FnScope ["value"] ["value"] (defScope s_isn) := ⟨rfl, rfl, rfl, by decide +kernel, rfl, by decide +kernel, by decide +kernel⟩
abbrev s_aren : Stmt := topS 2
theorem sc_aren : FnScope ["value", "count", "entry"] ["value", "count"] (defScope s_aren) := ⟨rfl, rfl, rfl, by decide +kernel, rfl, by decide +kernel, by decide +kernel⟩
abbrev s_psum : Stmt := topS 3
theorem sc_psum : FnScope ["one", "other", "a", "b"] ["one", "other"] (defScope s_psum) := ⟨rfl, rfl, rfl, by decide +kernel, rfl, by decide +kernel, by decide +kernel⟩
section
variable {P : Program} {w : World} {K : PySem.W.Frag} {mg : Str → Option Value} {base : Heap}
theorem ok_draw {f : Addr} {fd : FuncData} (F : Fun K "_law_draw" "_law_draw" s_draw f fd) (m_int : mg "int" = none) (m_len : mg "len" = none) : FnOk P w K mg base CX0 1 f fd ["m", "bound"] spDraw := by
  have sc := sc_draw
  refine F.ok sc (fun vs H Q E h => ?_) (fun cdv A outer s H vs Q E hr h => ?_)
  · obtain ⟨m, c, n, b, rfl, _⟩ := h
    rfl
  · obtain ⟨m, c, n, b, rfl, hM, hn, hb0, hb1, q⟩ := h
    refine ⟨_, (pss_cons (ps_if (pt_cmpR op_gt (pe_dget (hu_of hr) (pv 0) pe_str (fun _ _ => rfl)) pe_int (nomark _))
      (pss_cons (ps_set (i := 2) sc.nd rfl (Or.inl rfl) (pe_op op_modN (pe_callTy call_int1 (by rfl) m_int (by decide +kernel) (pa_cons (pe_dget (hu_of hr) (pv 0) pe_str (fun _ _ => rfl)) pa_nil)) (pv 1)))
    (pss_cons (ps_dput (hu_of hr) (pv 0) pe_str (pe_op op_fdivX (pe_dget (hu_of hr) (pv 0) pe_str (fun _ _ => rfl)) (pv 1)) rfl)
    (pss_one (ps_ret (pv 2)))))
      pss_nil)
    (pss_cons (ps_set (i := 3) sc.nd rfl (Or.inl rfl) (pe_dget (hu_of hr) (pv 0) pe_str (fun _ _ => rfl)))
    (pss_cons (ps_dput (hu_of hr) (pv 0) pe_str (pe_op op_add (pv 3) pe_int) rfl)
    (pss_cons (ps_par (i := 4) (j := 5) (by rfl) sc.nd rfl rfl (by decide) rfl rfl (pa_cons (pe_dget (hu_of hr) (pv 0) pe_str (fun _ _ => rfl)) (pa_cons (pe_op op_add (pe_dget (hu_of hr) (pv 0) pe_str (fun _ _ => rfl)) (pe_op op_mul (pe_op op_mul pe_int (pv 3)) (pv 3))) pa_nil)) (by rfl))
    (pss_cons (ps_set (i := 6) sc.nd rfl (Or.inl rfl) (pe_ix ix_list (pv 4) (pe_op op_modN (pe_callTy call_int1 (by rfl) m_int (by decide +kernel) (pa_cons (pv 3) pa_nil)) (pe_callB call_len_seq (by rfl) m_len (by decide +kernel) (pa_cons (pv 4) pa_nil))) (fun _ _ => rfl)))
    (pss_cons (ps_set (i := 7) sc.nd rfl (Or.inl rfl) (pe_op op_modN (pe_callTy call_int1 (by rfl) m_int (by decide +kernel) (pa_cons (pe_op op_add (pe_op op_mul (pv 6) (pe_op op_add (pe_op op_mul pe_int (pv 3)) pe_int)) (pv 5)) pa_nil)) pe_int))
    (pss_cons (ps_set (i := 7) sc.nd rfl (Or.inl rfl) (pe_op op_modN (pe_callTy call_int1 (by rfl) m_int (by decide +kernel) (pa_cons (pe_op op_add (pe_op op_add (pe_op op_mul (pv 7) (pv 7)) (pe_op op_mul pe_int (pv 3))) (pe_dget (hu_of hr) (pv 0) pe_str (fun _ _ => rfl))) pa_nil)) pe_int))
    (pss_one (ps_ret (pe_op op_modN (pe_op op_fdivN (pe_op op_modN (pe_callTy call_int1 (by rfl) m_int (by decide +kernel) (pa_cons (pe_op op_add (pe_op op_mul (pv 7) pe_int) (pv 3)) pa_nil)) pe_int) pe_int) (pv 1))))))))))), ?_⟩
    obtain ⟨L, sd, sp, cells, h1, h2, h3, h4, h5⟩ := hM
    have ncm : c ≠ m := ne_of h2 h1 (by intro z; cases z)
    refine ⟨.ref m, rfl, m, .int L, rfl, get_m h1 val_left, L, 0, rfl, rfl, _, rfl, ite2 (fun hL => ?_) (fun hL => ?_)⟩
    · -- the first way
      refine ⟨.ref m, rfl, m, .int L, rfl, get_m h1 val_left, .inl ⟨L, rfl, .int b, rfl, L, b, rfl, rfl, by omega, ?_⟩⟩
      refine ⟨.ref m, rfl, m, .int L, rfl, get_m h1 val_left, .int b, rfl, L, b, rfl, rfl, ⟨by omega, Nat.lt_trans (PySem.Flt.log2_lt_of (by decide) hb1) (by decide)⟩, .ref m, rfl, m, _, rfl, put_m h1 put_left, ?_⟩
      refine ⟨.int (L.fmod b), rfl, q _ _ but_put ⟨_, sd, sp, cells, upd_same, ?_, h3, h4, by omega⟩ (Int.fmod_nonneg_of_pos _ hb0) (Int.fmod_lt_of_pos _ hb0)⟩
      rw [upd_ne ncm]
      exact h2
    · -- the second way
      refine ⟨.ref m, rfl, m, .int sp, rfl, get_m h1 val_spot, ?_⟩
      refine ⟨.int sp, rfl, sp, 1, rfl, rfl, .ref m, rfl, m, _, rfl, put_m h1 put_spot, ?_⟩
      have g1 : (upd H m (.dK (mkv L sd c (sp + 1)))) m = some (.dK (mkv L sd c (sp + 1))) := upd_same
      have g2 : (upd H m (.dK (mkv L sd c (sp + 1)))) c = some (.lst (cells.map V.int)) := by
        rw [upd_ne ncm]
        exact h2
      refine ⟨.ref m, rfl, m, .ref c, rfl, get_m g1 val_cells, .ref m, rfl, m, .int sd, rfl, get_m g1 val_seed, .int sp, rfl, 40503, sp, rfl, rfl, .inl ⟨by decide, by decide⟩, .int sp, rfl, 40503 * sp, sp, rfl, rfl, .inr ⟨by omega, by omega⟩, sd, 40503 * sp * sp, rfl, rfl, .ref c, .int (sd + 40503 * sp * sp), rfl, ?_⟩
      have hj : (sp.toNat % cells.length) < cells.length := Nat.mod_lt _ h3
      have e1 : Int.fmod sp ((cells.map V.int).length : Int) = ((sp.toNat % cells.length : Nat) : Int) := by
        rw [List.length_map, Int.fmod_eq_emod_of_nonneg _ (by omega), Int.natCast_emod, Int.toNat_of_nonneg h4]
      have e2 : (cells.map V.int)[sp.toNat % cells.length]? = some (.int cells[sp.toNat % cells.length]) := by
        rw [List.getElem?_map, List.getElem?_eq_getElem hj]
        rfl
      refine ⟨.ref c, rfl, .int sp, rfl, .inl ⟨sp, rfl, .ref c, rfl, c, _, rfl, .inl (SqL.of g2), sp, _, rfl, rfl, ?_, c, _, _, .int cells[sp.toNat % cells.length], rfl, rfl, SqL.of g2, ?_, ?_⟩⟩
      · rw [List.length_map]
        omega
      · rw [e1]
        exact atI_nat e2
      refine ⟨_, rfl, .int sp, rfl, 2, sp, rfl, rfl, .inl ⟨by decide, by decide⟩, 2 * sp, 3, rfl, rfl, _, 2 * sp + 3, rfl, rfl, .inr ⟨by omega, by omega⟩, _, rfl, _, _, rfl, rfl, .inl ⟨_, rfl, _, 2147483647, rfl, rfl, (by show (2147483647 : Int) ≠ 0; decide), ?_⟩⟩
      dsimp only
      generalize hB : Int.fmod (cells[sp.toNat % cells.length] * (2 * sp + 3) + (sd + 40503 * sp * sp)) 2147483647 = B
      have b0 : 0 ≤ B := by
        rw [← hB]
        exact Int.fmod_nonneg_of_pos _ (by decide)
      have b1 : B < 2147483647 := by
        rw [← hB]
        exact Int.fmod_lt_of_pos _ (by decide)
      refine ⟨.int B, rfl, .int B, rfl, B, B, rfl, rfl, .inl ⟨by omega, by omega⟩, .int sp, rfl, 69621, sp, rfl, rfl, .inl ⟨by decide, by decide⟩, B * B, 69621 * sp, rfl, rfl, .ref m, rfl, m, .int sd, rfl, get_m g1 val_seed, _, sd, rfl, rfl, .inl ⟨_, rfl, _, 2147483629, rfl, rfl, (by show (2147483629 : Int) ≠ 0; decide), ?_⟩⟩
      dsimp only
      generalize hB2 : Int.fmod (B * B + 69621 * sp + sd) 2147483629 = B2
      have c0 : 0 ≤ B2 := by
        rw [← hB2]
        exact Int.fmod_nonneg_of_pos _ (by decide)
      have c1 : B2 < 2147483629 := by
        rw [← hB2]
        exact Int.fmod_lt_of_pos _ (by decide)
      refine ⟨.int B2, rfl, B2, 48271, rfl, rfl, .inl ⟨by omega, by omega⟩, .int sp, rfl, _, sp, rfl, rfl, .inl ⟨_, rfl, _, 2147483647, rfl, rfl, (by show (2147483647 : Int) ≠ 0; decide), _, 11, rfl, rfl, (by show (11 : Int) ≠ 0 ∧ (11 : Int).natAbs < 1073741824; decide), .int b, rfl, _, b, rfl, rfl, by omega, ?_⟩⟩
      exact q _ _ but_put ⟨L, sd, sp + 1, cells, g1, g2, h3, by omega, by omega⟩ (Int.fmod_nonneg_of_pos _ hb0) (Int.fmod_lt_of_pos _ hb0)
theorem ok_begun {f : Addr} {fd : FuncData} (F : Fun K "_law_begun" "_law_begun" s_begun f fd) (m_int : mg "int" = none) : FnOk P w K mg base CX0 1 f fd ["script", "k"] (spBegun K) := by
  have sc := sc_begun
  refine F.ok sc (fun vs H Q E h => ?_) (fun cdv A outer s H vs Q E hr h => ?_)
  · obtain ⟨a, k, ns, rfl, _⟩ := h
    rfl
  · obtain ⟨a, k, ns, rfl, hS, hl, hk0, hk1, q⟩ := h
    refine ⟨_, (pss_cons (ps_set (i := 2) sc.nd rfl (Or.inl rfl) (pe_op op_cat (pe_slice sl_list (pv 0) (po_some (pv 1)) po_none) (pe_slice sl_list (pv 0) po_none (po_some (pv 1)))))
    (pss_cons (ps_setLc (i := 4) (own := [("cell", 3)]) (g := gName 3) (by rfl) sc.nd rfl rfl (sw_true rfl rfl rfl (by decide +kernel)) (pi_list (pv 2)) (blkOk_by (own := [("cell", 3)]) (N := ["script", "k", "cells", "cell", "great", "seed"]) (sc := defScope s_begun) (by decide +kernel)) (fun _ _ _ _ _ => pg_name (i := 3) sc.nd rfl (Or.inl rfl)) (fun _ _ _ _ _ => (pts_one (pt_cmpR op_ge (pv 3) (pe_op op_pow pe_int pe_int) (nomark _)))) (fun _ _ _ _ _ => (pv 3)))
    (pss_cons (ps_set (i := 5) sc.nd rfl (Or.inl rfl) (pe_op op_add pe_int (pv 1)))
    (pss_cons (ps_for PassesOwn.never rfl (pi_list (pv 2)) (pg_name (i := 3) sc.nd rfl (Or.inl rfl))
      (pss_one (ps_set (i := 5) sc.nd rfl (Or.inl rfl) (pe_op op_modN (pe_callTy call_int1 (by rfl) m_int (by decide +kernel) (pa_cons (pe_op op_add (pe_op op_mul (pv 5) pe_int) (pv 3)) pa_nil)) pe_int))))
    (pss_one (ps_ret (pe_disp (pps_cons pe_str (pe_ifExp (pt_cmpR (op_neD hr.units) (pv 4) (pe_lst pa_nil) (nomark _)) (pe_ix ix_list (pv 4) pe_int (fun _ _ => rfl)) pe_int) (pps_cons pe_str (pv 5) (pps_cons pe_str (pe_op op_cat (pv 2) (pe_lst (pa_cons (pe_op op_add (pe_op op_mul pe_int (pv 1)) pe_int) pa_nil))) (pps_cons pe_str pe_int pps_nil)))) (by rfl) (by rfl) (fun z => by cases z) (by decide)))))))), ?_⟩
    obtain ⟨l1, e1, b1⟩ := cut_ints ns (some k) none
    obtain ⟨l2, e2, b2⟩ := cut_ints ns none (some k)
    refine ⟨.ref a, rfl, .int k, rfl, k, rfl, a, _, rfl, hS, fun p1 n1 => ?_⟩
    rw [e1]
    have s1 : Same H (upd H p1 (.lst (l1.map V.int))) := same_new n1
    refine ⟨.ref a, rfl, .int k, rfl, k, rfl, a, _, rfl, s1.seq hS, fun p2 n2 => ?_⟩
    rw [e2]
    have n12 : p1 ≠ p2 := fun z => by
      rw [← z, upd_same] at n2
      cases n2
    have h2 : H p2 = none := s1.free n2
    refine ⟨p1, p2, l1.map V.int, l2.map V.int, rfl, rfl, ?_, upd_same, ?_, fun p np => ?_⟩
    · rw [upd_ne n12, upd_same]
    · rw [List.length_map, List.length_map]
      exact Nat.le_of_lt (small1000 (by omega))
    rw [← List.map_append]
    have s2 : Same H (upd (upd H p1 (.lst (l1.map V.int))) p2 (.lst (l2.map V.int))) := same_put s1 h2
    have hp : H p = none := s2.free np
    have s3 := same_put (o := .lst ((l1 ++ l2).map V.int)) s2 hp
    have hH3 : upd (upd (upd H p1 (.lst (l1.map V.int))) p2 (.lst (l2.map V.int))) p (.lst ((l1 ++ l2).map V.int)) p = some (.lst ((l1 ++ l2).map V.int)) := upd_same
    generalize upd (upd (upd H p1 (.lst (l1.map V.int))) p2 (.lst (l2.map V.int))) p (.lst ((l1 ++ l2).map V.int)) = H3 at s3 hH3 ⊢
    have g3 : H3 p = some (.lst ((l1 ++ l2).map V.int)) := hH3
    generalize hcs : l1 ++ l2 = cs at g3
    have bcs : cs.length ≤ 126 := by
      rw [← hcs, List.length_append]
      omega
    refine ⟨.ref p, rfl, p, rfl, ⟨_, SqL.of g3⟩, fun D nD => ?_⟩
    have hD : H D = none := s3.free nD
    have nDp : p ≠ D := ne_of_none g3 nD
    refine lc_list (K := K) (a := p) (xs := cs.map V.int) (fun i H' => ∃ acc : List Int, H' = upd H3 D (.lst (acc.map V.int)) ∧ acc.length ≤ i) ⟨[], rfl, Nat.le_refl _⟩ ?_ ?_ ?_
    · rintro i H' _ ⟨acc, rfl, _⟩
      refine SqL.of ?_
      rw [upd_ne nDp]
      exact g3
    · rintro i x H' hx ⟨acc, rfl, hacc⟩
      obtain ⟨z, hz, rfl⟩ : ∃ z, cs[i]? = some z ∧ x = V.int z := by
        rw [List.getElem?_map] at hx
        cases hc : cs[i]? with
        | none => rw [hc] at hx; cases hx
        | some z => rw [hc] at hx; exact ⟨z, rfl, (Option.some.inj hx).symm⟩
      have hi : i < cs.length := (List.getElem?_eq_some_iff.mp hz).1
      refine ⟨rfl, .int z, rfl, 10, 18, rfl, rfl, ⟨by decide, by decide, by decide⟩, z, _, rfl, rfl, _, rfl, ite2 (fun h => ?_) (fun h => ?_)⟩
      · refine ⟨.int z, rfl, _, upd_same, ?_, acc ++ [z], ?_, ?_⟩
        · rw [List.length_map]
          exact small1000 (by omega)
        · rw [upd_upd, List.map_append]
          rfl
        · rw [List.length_append]
          show acc.length + 1 ≤ i + 1
          omega
      · exact ⟨acc, rfl, by omega⟩
    rintro H' ⟨acc, rfl, hacc⟩
    have s4 : Same H (upd H3 D (.lst (acc.map V.int))) := same_put s3 hD
    have g4 : upd H3 D (.lst (acc.map V.int)) p = some (.lst (cs.map V.int)) := by
      rw [upd_ne nDp]
      exact g3
    have d4 : upd H3 D (.lst (acc.map V.int)) D = some (.lst (acc.map V.int)) := upd_same
    generalize upd H3 D (.lst (acc.map V.int)) = H4 at s4 g4 d4
    refine ⟨.int k, rfl, 71, k, rfl, rfl, .ref p, rfl, p, rfl, ⟨_, SqL.of g4⟩, ?_⟩
    refine for_list (K := K) (a := p) (xs := cs.map V.int) (fun i σ H' => ∃ (sd : Int) (y : Option V), σ = [some (.ref a), some (.int k), some (.ref p), y, some (.ref D), some (.int sd)] ∧ H' = H4 ∧ 0 ≤ sd ∧ sd < 2147483648) ⟨71 + k, none, rfl, rfl, by omega, by omega⟩ ?_ ?_ ?_
    · rintro i σ H' _ ⟨sd, y, rfl, rfl, _⟩
      exact SqL.of g4
    · rintro i x σ H' hx ⟨sd, y, rfl, rfl, h0, h1⟩
      obtain ⟨z, hz, rfl⟩ : ∃ z, cs[i]? = some z ∧ x = V.int z := by
        rw [List.getElem?_map] at hx
        cases hc : cs[i]? with
        | none => rw [hc] at hx; cases hx
        | some z => rw [hc] at hx; exact ⟨z, rfl, (Option.some.inj hx).symm⟩
      refine ⟨.int sd, rfl, sd, 48271, rfl, rfl, .inl ⟨by omega, by omega⟩, .int z, rfl, _, z, rfl, rfl, .inl ⟨_, rfl, _, 2147483647, rfl, rfl, (by show (2147483647 : Int) ≠ 0; decide), ?_⟩⟩
      have q1 := Int.fmod_lt_of_pos (sd * 48271 + z) (show (0 : Int) < 2147483647 by decide)
      exact ⟨_, _, rfl, rfl, Int.fmod_nonneg_of_pos _ (by decide), by omega⟩
    rintro σ H' ⟨sd, y, rfl, rfl, h0, h1⟩
    intro r nr
    have hr0 : H r = none := s4.free nr
    have s5 : Same H (upd H' r (.dK [])) := same_put s4 hr0
    have prn : p ≠ r := ne_of_none g4 nr
    have drn : D ≠ r := ne_of_none d4 nr
    have g5 : upd H' r (.dK []) p = some (.lst (cs.map V.int)) := by
      rw [upd_ne prn]
      exact g4
    have d5 : upd H' r (.dK []) D = some (.lst (acc.map V.int)) := by
      rw [upd_ne drn]
      exact d4
    have r5 : upd H' r (.dK []) r = some (.dK []) := upd_same
    generalize upd H' r (.dK []) = H5 at s5 g5 d5 r5 ⊢
    refine ⟨.ref D, rfl, Nat.zero_le _, fun e0 ne0 => ?_⟩
    have p0 : p ≠ e0 := ne_of_none g5 ne0
    have d0 : D ≠ e0 := ne_of_none d5 ne0
    have r0 : r ≠ e0 := ne_of_none r5 ne0
    have s6 : Same H (upd H5 e0 (.lst [])) := same_put s5 (s5.free ne0)
    have g6 : upd H5 e0 (.lst []) p = some (.lst (cs.map V.int)) := by
      rw [upd_ne p0]
      exact g5
    have d6 : upd H5 e0 (.lst []) D = some (.lst (acc.map V.int)) := by
      rw [upd_ne d0]
      exact d5
    have r6 : upd H5 e0 (.lst []) r = some (.dK []) := by
      rw [upd_ne r0]
      exact r5
    have l6 : upd H5 e0 (.lst []) e0 = some (.lst ([] : List V)) := upd_same
    generalize upd H5 e0 (.lst []) = H6 at s6 g6 d6 r6 l6 ⊢
    refine ⟨.list (acc.map PyData.int), .list [], .lst (SqL.of d6) (dp_ints acc), .lst (SqL.of l6) .nil, shaped_ints acc, shaped_ints [], _, rfl, ?_⟩
    refine tif_both (fun v => ∃ L : Int, v = .int L) ?_ ?_ ?_
    · rintro _ ⟨L, rfl⟩
      refine ⟨.int sd, rfl, .ref p, rfl, .int k, rfl, 53, k, rfl, rfl, .inl ⟨by decide, by decide⟩, _, 11, rfl, rfl, (by show 1 ≤ sizeLine; decide), fun e1 ne1 => ?_⟩
      have p1' : p ≠ e1 := ne_of_none g6 ne1
      have r1' : r ≠ e1 := ne_of_none r6 ne1
      have s7 : Same H (upd H6 e1 (.lst [.int (53 * k + 11)])) := same_put s6 (s6.free ne1)
      refine ⟨p, e1, cs.map V.int, [.int (53 * k + 11)], rfl, rfl, ?_, upd_same, ?_, fun c nc => ?_⟩
      · rw [upd_ne p1']
        exact g6
      · rw [List.length_map]
        exact Nat.le_of_lt (small1000 (show cs.length + 1 ≤ 1000 by omega))
      have r7 : upd H6 e1 (.lst [.int (53 * k + 11)]) r = some (.dK []) := by
        rw [upd_ne r1']
        exact r6
      have rc : r ≠ c := ne_of_none r7 nc
      have s8 := same_put (o := .lst (cs.map V.int ++ [.int (53 * k + 11)])) s7 (s7.free nc)
      refine ⟨?_, mkv L sd c 0, rfl, (by show 4 ≤ 15; decide), ?_⟩
      · rw [upd_ne rc]
        exact r7
      refine q _ _ _ (same_put s8 hr0) hr0 ⟨L, sd, 0, cs ++ [53 * k + 11], upd_same, ?_, ?_, by omega, by omega⟩
      · rw [upd_ne (Ne.symm rc), upd_same, List.map_append]
        rfl
      · rw [List.length_append]
        exact Nat.succ_pos _
    · intro hc hQ
      cases acc with
      | nil => exact absurd hc (by decide)
      | cons z zs => exact ⟨.ref D, rfl, D, _, 0, .int z, rfl, rfl, SqL.of d6, atI_nat (j := 0) rfl, hQ _ ⟨z, rfl⟩⟩
    · intro hc hQ
      exact hQ _ ⟨0, rfl⟩
theorem ok_like {f : Addr} {fd : FuncData} (F : Fun K "_law_like" "_law_like" s_like f fd) (m_repr : mg "repr" = none) : FnG P w K mg base 1 f fd ["got", "due"] (spLike K) := by
  have sc := sc_like
  refine okG F sc (fun vs H Q E h => ?_) (fun cdv A outer s H vs Q E hG hr h => ?_)
  · obtain ⟨x, y, d, rfl, _⟩ := h
    rfl
  · obtain ⟨x, y, d, rfl, h1, h2, hf, q⟩ := h
    have hG' : Quiet (cxOf CX0 P w K mg base ["got", "due"] "_law_like" (defScope s_like) f cdv A outer s H E).nox.A := hG.deeper _
    refine ⟨_, (pss_one (ps_ret (pe_cmpR op_eq (pe_callB (call_rep hG' hr.units) (by rfl) m_repr (by decide +kernel) (pa_cons (pv 0) pa_nil)) (pe_callB (call_rep hG' hr.units) (by rfl) m_repr (by decide +kernel) (pa_cons (pv 1) pa_nil)) (nomark _)))), ?_⟩
    refine ⟨x, rfl, x, d, rfl, h1, hf.s, hf.h, hf.dp, hf.len (Nat.le_refl _), y, rfl, y, d, rfl, h2, hf.s, hf.h, hf.dp, hf.len (Nat.le_refl _), rfl, ?_⟩
    rw [decide_eq_true rfl]
    exact q
theorem ok_of {f : Addr} {fd : FuncData} (F : Fun K "_law_of" "_law_of" s_of f fd) (C__law_draw : Cal P w K mg base 1 "_law_draw" ["m", "bound"] spDraw) (m_len : mg "len" = none) : FnOk P w K mg base CX0 2 f fd ["m", "some"] spOf := by
  have sc := sc_of
  refine F.ok sc (fun vs H Q E h => ?_) (fun cdv A outer s H vs Q E hr h => ?_)
  · obtain ⟨m, c, L, n, xs, rfl, _⟩ := h
    rfl
  · obtain ⟨m, c, L, n, xs, rfl, hM, hn, hL, h0, h1, q⟩ := h
    refine ⟨_, (pss_one (ps_ret (pe_ix ix_list (pv 1) (call_ C__law_draw (hr.mono (by decide)) (by rfl) (pa_cons (pv 0) (pa_cons (pe_callB call_len_seq (by rfl) m_len (by decide +kernel) (pa_cons (pv 1) pa_nil)) pa_nil))) (fun _ _ => rfl)))), ?_⟩
    have hLm : L ≠ m := by
      obtain ⟨_, _, _, _, h2, _⟩ := hM
      exact ne_of hL h2 (by intro z; cases z)
    refine ⟨.ref L, rfl, .ref m, rfl, .ref L, rfl, L, xs, rfl, .inl (SqL.of hL), m, c, n, xs.length, rfl, hM, hn, by omega, ?_, fun H1 v b1 M1 v0 v1 => ?_⟩
    · have e : ((xs.length : Nat) : Int).natAbs = xs.length := by omega
      rw [e]
      exact Nat.lt_of_le_of_lt h1 (by decide)
    · obtain ⟨j, rfl⟩ : ∃ j : Nat, v = j := ⟨v.toNat, by omega⟩
      have hj : j < xs.length := by omega
      exact ⟨L, xs, j, xs[j], rfl, rfl, SqL.of (b1 _ _ hLm hL), atI_nat (List.getElem?_eq_getElem hj), q H1 xs[j] b1 M1 (List.getElem_mem hj)⟩
theorem ok_isn {f : Addr} {fd : FuncData} (F : Fun K "is_number" "is_number" s_isn f fd) (m_isinstance : mg "isinstance" = none) (m_int : mg "int" = none) (m_bool : mg "bool" = none) : FnOk P w K mg base CX0 1 f fd ["value"] spIsn := by
  have sc := sc_isn
  refine F.ok sc (fun vs H Q E h => ?_) (fun cdv A outer s H vs Q E hr h => ?_)
  · obtain ⟨x, t, rfl, _⟩ := h
    rfl
  · obtain ⟨x, t, rfl, hx, q⟩ := h
    refine ⟨_, (pss_one (ps_ret (pe_and (pe_callB call_isi (by rfl) m_isinstance (by decide +kernel) (pa_cons (pv 0) (pa_cons (pe_bltn (v := .ty "int") (by rfl) m_int (by decide +kernel) rfl) pa_nil))) (pe_one (pe_not (pe_callB call_isi (by rfl) m_isinstance (by decide +kernel) (pa_cons (pv 0) (pa_cons (pe_bltn (v := .ty "bool") (by rfl) m_bool (by decide +kernel) rfl) pa_nil)))))))), ?_⟩
    refine ⟨x, rfl, x, .ty "int", _, _, _, rfl, .ty _, hx.ty, kit_ty hx.kInt, _, rfl, ite2 (fun h => ?_) (fun h => ?_)⟩
    · refine ⟨x, rfl, x, .ty "bool", _, _, _, rfl, .ty _, hx.ty, kit_ty hx.kBool, _, rfl, ?_⟩
      rw [hx.isInt] at q
      have e : decide (t = "int") = !decide (t = "bool") := by
        cases hx <;> revert h <;> decide
      rw [e] at q
      exact q
    · rw [hx.isInt] at q
      have e : decide (t = "int") = false := by
        cases hx <;> revert h <;> decide
      rw [e] at q
      exact q
theorem ok_aren {f : Addr} {fd : FuncData} (F : Fun K "are_numbers" "are_numbers" s_aren f fd) (C_is_number : Cal P w K mg base 1 "is_number" ["value"] spIsn) (m_isinstance : mg "isinstance" = none) (m_tuple : mg "tuple" = none) (m_len : mg "len" = none) (m_all : mg "all" = none) : FnOk P w K mg base CX0 2 f fd ["value", "count"] spAren := by
  have sc := sc_aren
  refine F.ok sc (fun vs H Q E h => ?_) (fun cdv A outer s H vs Q E hr h => ?_)
  · obtain ⟨x, n, rfl, _⟩ := h
    rfl
  · obtain ⟨x, n, rfl, h⟩ := h
    refine ⟨_, (pss_cons (ps_if (PW.pt (pw_or (pt_not (pt_val (pe_callB call_isi (by rfl) m_isinstance (by decide +kernel) (pa_cons (pv 0) (pa_cons (pe_bltn (v := .ty "tuple") (by rfl) m_tuple (by decide +kernel) rfl) pa_nil))))) (pw_or1 (pt_cmpR op_ne (pe_callB call_len_seq (by rfl) m_len (by decide +kernel) (pa_cons (pv 0) pa_nil)) (pv 1) (nomark _)))))
      (pss_one (ps_ret pe_bl))
      pss_nil)
    (pss_one (ps_ret (pe_callB (cr_all rfl) (by rfl) m_all (by decide +kernel) (pa_cons (pe_lc (own := [("entry", 2)]) (g := gName 2) (by rfl) sc.nd (pi_tup (pv 0)) (blkOk_by (own := [("entry", 2)]) (N := ["value", "count", "entry"]) (sc := defScope s_aren) (by decide +kernel)) (fun _ _ _ _ _ => pg_name (i := 2) sc.nd rfl (Or.inl rfl)) (fun _ _ _ _ _ => pts_nil) (fun _ _ _ _ _ => (call_ C_is_number (hr.mono (by decide)) (by rfl) (pa_cons (pv 2) pa_nil)))) pa_nil))))), ?_⟩
    rcases h with ⟨t, hx, ht, q⟩ | ⟨a, xs, rfl, ha, hz, hes, q⟩
    · refine ⟨x, rfl, x, .ty "tuple", _, _, _, rfl, .ty _, hx.ty, kit_ty hx.kTup, _, rfl, ?_⟩
      rw [decide_eq_false ht]
      exact iteT (iteT q)
    · have hx : Oky H (.ref a) "tuple" := .tup ha
      refine ⟨.ref a, rfl, .ref a, .ty "tuple", _, _, _, rfl, .ty _, hx.ty, kit_ty hx.kTup, _, rfl, iteF ?_⟩
      refine ⟨.ref a, rfl, a, xs, rfl, .inr ha.t, .int n, rfl, rfl, _, rfl, ite2 (fun hl => ?_) (fun hl => ?_)⟩
      · have n2 : xs.length ≠ n := fun z => by
          rw [z] at hl
          simp at hl
        have e : tupOk n xs = false := by
          unfold tupOk
          rw [decide_eq_false n2]
          rfl
        have q := q H (Same.refl _)
        rw [e] at q
        exact q
      · have n2 : xs.length = n := by
          by_cases z : xs.length = n
          · exact z
          · refine absurd ?_ hl
            rw [decide_eq_false (fun y => z (by have := V.int.inj y; omega))]
            rfl
        refine ⟨.ref a, rfl, a, rfl, ⟨_, ha.t⟩, fun D nD => ?_⟩
        refine lc_to (walk_tup (K := K) (a := a) (xs := xs)) (xs.map fun e => V.bl (isInt e)) (List.length_map ..) (small hz) nD (fun H' s => (ha.same s).t) ?_ ?_
        · rintro i x y H0 H1 Qy hy hi s0 ⟨rfl, hx⟩ hq
          obtain ⟨p, hp, rfl⟩ := map_get hy
          obtain rfl := Option.some.inj (hp.symm.trans hx)
          obtain ⟨t, ht⟩ := hes _ (List.mem_of_getElem? hp)
          exact ⟨rfl, p, rfl, p, t, rfl, ht.same s0, hq _ (Same.refl _)⟩
        · intro H' s d
          refine ⟨D, xs.map Vk.isInt, rfl, SqL.of (by rw [d, List.map_map]; rfl), ?_⟩
          have q := q H' s
          have e : tupOk n xs = (xs.map Vk.isInt).all id := by
            unfold tupOk
            rw [decide_eq_true n2, List.all_map]
            rfl
          rw [e] at q
          exact q
theorem ok_psum {f : Addr} {fd : FuncData} (F : Fun K "product_sum" "product_sum" s_psum f fd) (m_sum : mg "sum" = none) (m_zip : mg "zip" = none) : FnOk P w K mg base CX0 1 f fd ["one", "other"] spPsum := by
  have sc := sc_psum
  refine F.ok sc (fun vs H Q E h => ?_) (fun cdv A outer s H vs Q E hr h => ?_)
  · obtain ⟨a, b, xs, ys, rfl, _⟩ := h
    rfl
  · obtain ⟨a, b, xs, ys, rfl, ha, hb, hl, q⟩ := h
    refine ⟨_, (pss_one (ps_ret (pe_callB (cr_sum rfl) (by rfl) m_sum (by decide +kernel) (pa_cons (pe_lc (own := [("a", 2), ("b", 3)]) (g := gTup K 2 (gCons (gName 2) (gCons (gName 3) gNil))) (by rfl) sc.nd (pi_zipK (by rfl) m_zip (pa_cons (pv 0) (pa_cons (pv 1) pa_nil))) (blkOk_by (own := [("a", 2), ("b", 3)]) (N := ["one", "other", "a", "b"]) (sc := defScope s_psum) (by decide +kernel)) (fun _ _ _ _ _ => pg_tup (n := 2) (by rfl) (pgs_cons (pg_name (i := 2) sc.nd rfl (Or.inl rfl)) (pgs_cons (pg_name (i := 3) sc.nd rfl (Or.inl rfl)) pgs_nil))) (fun _ _ _ _ _ => pts_nil) (fun _ _ _ _ _ => (pe_op op_mulW (pv 2) (pv 3)))) pa_nil)))), ?_⟩
    refine ⟨.ref a, rfl, .ref b, rfl, false, false, a, b, xs.map V.int, ys.map V.int, rfl, ha.1.t, hb.1.t, fun D nD => ?_⟩
    refine lc_to (walk_zipK (n := xs.length) (by rw [List.length_map, List.length_map]; omega)) ((List.zipWith (· * ·) xs ys).map V.int) (by rw [List.length_map, List.length_zipWith]; omega) (small ha.2.1) nD (fun H' s => ⟨(ha.1.same s).t, (hb.1.same s).t⟩) ?_ ?_
    · rintro i x y H0 H1 Qy hy hi s0 ⟨T, u, v, rfl, nT, rfl, hu, hv⟩ hq
      obtain ⟨z, hz, rfl⟩ := map_get hy
      obtain ⟨p, r, hp, hr', rfl⟩ := zipW_get hz
      obtain ⟨p', hp', rfl⟩ := map_get hu
      obtain ⟨r', hr'', rfl⟩ := map_get hv
      obtain rfl := Option.some.inj (hp.symm.trans hp')
      obtain rfl := Option.some.inj (hr'.symm.trans hr'')
      refine ⟨T, [.int p, .int r], rfl, SqT.of upd_same, rfl, .int p, [.int r], rfl, .int r, [], rfl, rfl, rfl, .int p, rfl, .int r, rfl, p, r, rfl, rfl, ?_, hq _ (same_new nT)⟩
      exact Nat.lt_trans (wide (ha.2.2 _ (List.mem_of_getElem? hp)) (hb.2.2 _ (List.mem_of_getElem? hr'))) (by decide)
    · intro H' s d
      exact ⟨D, List.zipWith (· * ·) xs ys, rfl, SqL.of d, q H' s⟩
end
end K45
namespace K45
open Vk
/-- the value of a row of coefficients at a number -/
def pv_ (x : Int) : List Int → Int
  | [] => 0
  | c :: r => c + x * pv_ x r
def addL : List Int → List Int → List Int
  | [], ys => ys
  | xs, [] => xs
  | x :: xs, y :: ys => (x + y) :: addL xs ys
theorem pv_add (x : Int) : ∀ xs ys, pv_ x (addL xs ys) = pv_ x xs + pv_ x ys
  | [], ys => by simp [addL, pv_]
  | a :: xs, [] => by simp [addL, pv_]
  | a :: xs, b :: ys => by
    simp only [addL, pv_, pv_add x xs ys, Int.mul_add]
    omega
theorem pv_scale (x k : Int) : ∀ xs, pv_ x (xs.map (k * ·)) = k * pv_ x xs
  | [] => by simp [pv_]
  | a :: xs => by
    simp only [List.map_cons, pv_, pv_scale x k xs, Int.mul_add]
    rw [Int.mul_left_comm]
theorem addL_len : ∀ xs ys, (addL xs ys).length ≤ max xs.length ys.length
  | [], ys => by simp [addL]
  | a :: xs, [] => by simp [addL]
  | a :: xs, b :: ys => by
    have := addL_len xs ys
    simp only [addL, List.length_cons]
    omega
/-- the quotient by x - a -/
def quot (a : Int) : List Int → List Int
  | [] => []
  | _ :: r => addL r ((quot a r).map (a * ·))
theorem quot_len (a : Int) : ∀ c, (quot a c).length ≤ c.length - 1
  | [] => Nat.le_refl _
  | x :: r => by
    have h := quot_len a r
    have h2 := addL_len r ((quot a r).map (a * ·))
    rw [List.length_map] at h2
    show (addL r _).length ≤ _
    rw [List.length_cons]
    omega
theorem quot_val (a x : Int) : ∀ c, pv_ x c - pv_ a c = (x - a) * pv_ x (quot a c)
  | [] => by simp [pv_, quot]
  | c :: r => by
    have ih := quot_val a x r
    show (c + x * pv_ x r) - (c + a * pv_ a r) = (x - a) * pv_ x (addL r ((quot a r).map (a * ·)))
    rw [pv_add, pv_scale, Int.mul_add, Int.mul_left_comm (x - a) a, ← ih, Int.sub_mul, Int.mul_sub]
    omega
/-- as many roots as coefficients: it is 0 everywhere -/
theorem all_zero : ∀ (n : Nat) (c : List Int) (l : List Int), c.length ≤ n → l.Nodup → n ≤ l.length → (∀ x ∈ l, pv_ x c = 0) → ∀ x, pv_ x c = 0
  | 0, c, l, hc, _, _, _, x => by
    obtain rfl : c = [] := List.length_eq_zero_iff.mp (by omega)
    rfl
  | n + 1, c, [], hc, _, hl, _, x => by simp at hl
  | n + 1, c, a :: l, hc, nd, hl, hz, x => by
    have ha := hz a (List.mem_cons_self ..)
    have nd' := List.nodup_cons.mp nd
    have q := all_zero n (quot a c) l (by have := quot_len a c; omega) nd'.2 (by rw [List.length_cons] at hl; omega) (fun b hb => by
      have hb0 := hz b (List.mem_cons_of_mem _ hb)
      have e := quot_val a b c
      rw [hb0, ha, Int.sub_zero] at e
      rcases Int.mul_eq_zero.mp e.symm with h | h
      · have : b = a := by omega
        subst this
        exact absurd hb nd'.1
      · exact h) x
    have e := quot_val a x c
    rw [q, ha, Int.mul_zero, Int.sub_zero] at e
    exact e
theorem coefs_zero : ∀ c : List Int, (∀ x, pv_ x c = 0) → ∀ y ∈ c, y = 0
  | [], _, y, hy => by cases hy
  | c :: r, h, y, hy => by
    have h0 := h 0
    simp only [pv_, Int.zero_mul, Int.add_zero] at h0
    rcases List.mem_cons.mp hy with rfl | hy
    · exact h0
    · refine coefs_zero r ?_ y hy
      refine all_zero r.length r ((List.range r.length).map fun i => ((i : Nat) : Int) + 1) (Nat.le_refl _) ?_ (by simp) fun x hx => ?_
      · exact List.Pairwise.map _ (fun a b hab z => hab (by have : (a : Int) + 1 = (b : Int) + 1 := z; omega)) List.nodup_range
      · obtain ⟨i, _, rfl⟩ := List.mem_map.mp hx
        have e := h (((i : Nat) : Int) + 1)
        simp only [pv_, h0, Int.zero_add] at e
        rcases Int.mul_eq_zero.mp e with z | z
        · omega
        · exact z
/-- a row that is not all 0 has fewer roots than entries -/
theorem few_roots {c : List Int} (hc : ∃ y ∈ c, y ≠ 0) (N : Nat) : ((List.range N).countP fun i => decide (pv_ (((i : Nat) : Int) + 1) c = 0)) ≤ c.length - 1 := by
  rw [List.countP_eq_length_filter]
  by_cases h : ((List.range N).filter fun i => decide (pv_ (((i : Nat) : Int) + 1) c = 0)).length ≤ c.length - 1
  · exact h
  · obtain ⟨y, hy, y0⟩ := hc
    refine absurd (coefs_zero c (all_zero c.length c (((List.range N).filter fun i => decide (pv_ (((i : Nat) : Int) + 1) c = 0)).map fun i => ((i : Nat) : Int) + 1) (Nat.le_refl _) ?_ ?_ ?_) y hy) y0
    · exact List.Pairwise.map _ (fun a b hab z => hab (by have : (a : Int) + 1 = (b : Int) + 1 := z; omega)) (List.nodup_range.filter _)
    · rw [List.length_map]
      omega
    · intro x hx
      obtain ⟨i, hi, rfl⟩ := List.mem_map.mp hx
      exact of_decide_eq_true (List.mem_filter.mp hi).2
theorem count_or {α : Type} (q r : α → Bool) : ∀ l : List α, l.countP (fun i => q i || r i) ≤ l.countP q + l.countP r
  | [] => Nat.le_refl _
  | a :: l => by
    have ih := count_or q r l
    rw [List.countP_cons, List.countP_cons, List.countP_cons]
    generalize l.countP (fun i => q i || r i) = x at ih ⊢
    generalize l.countP q = y at ih ⊢
    generalize l.countP r = z at ih ⊢
    cases q a <;> cases r a <;> simp <;> omega
theorem count_any {α : Type} (p : α → Nat → Bool) (l : List Nat) (k : Nat) : ∀ vs : List α, (∀ v ∈ vs, l.countP (p v) ≤ k) → l.countP (fun i => vs.any fun v => p v i) ≤ k * vs.length
  | [], _ => by simp
  | v :: vs, h => by
    have h1 := h v (List.mem_cons_self ..)
    have h2 := count_any p l k vs fun u hu => h u (List.mem_cons_of_mem _ hu)
    have h3 := count_or (p v) (fun i => vs.any fun v => p v i) l
    have e : (fun i => (v :: vs).any fun v => p v i) = fun i => (p v i || vs.any fun v => p v i) := by
      funext i
      exact List.any_cons
    rw [e, List.length_cons, Nat.mul_succ]
    omega
/-- no vector's product with the powers of n is 0 -/
def good (vs : List (List Int)) (n : Nat) : Bool := vs.all fun v => decide (pv_ (n : Int) v ≠ 0)
theorem good_ex {d : Nat} {vs : List (List Int)} (h : ∀ v ∈ vs, v.length = d ∧ ∃ y ∈ v, y ≠ 0) : ∃ i, i ≤ (d - 1) * vs.length ∧ good vs (i + 1) = true := by
  by_cases hx : ∃ i, i ≤ (d - 1) * vs.length ∧ good vs (i + 1) = true
  · exact hx
  · exfalso
    have hb : ∀ i ∈ List.range ((d - 1) * vs.length + 1), (vs.any fun v => decide (pv_ (((i : Nat) : Int) + 1) v = 0)) = true := fun i hi => by
      have hi := List.mem_range.mp hi
      have hg : ¬ good vs (i + 1) = true := fun g => hx ⟨i, by omega, g⟩
      unfold good at hg
      rw [List.all_eq_true] at hg
      rw [List.any_eq_true]
      by_cases hh : ∃ v, v ∈ vs ∧ decide (pv_ (((i : Nat) : Int) + 1) v = 0) = true
      · exact hh
      · refine absurd (fun v hv => ?_) hg
        rw [decide_eq_true_iff]
        intro z
        exact hh ⟨v, hv, decide_eq_true (by rw [← z]; congr 1)⟩
    have c1 := count_any (fun v i => decide (pv_ (((i : Nat) : Int) + 1) v = 0)) (List.range ((d - 1) * vs.length + 1)) (d - 1) vs fun v hv => by
      have := few_roots (h v hv).2 ((d - 1) * vs.length + 1)
      rw [(h v hv).1] at this
      exact this
    rw [List.countP_eq_length.mpr hb, List.length_range] at c1
    omega
/-- the least one -/
theorem least_ex {p : Nat → Bool} : ∀ n, p n = true → ∃ k, k ≤ n ∧ p k = true ∧ ∀ j, j < k → p j = false
  | 0, h => ⟨0, Nat.le_refl _, h, fun j hj => absurd hj (Nat.not_lt_zero j)⟩
  | n + 1, h => by
    by_cases hx : ∃ k, k ≤ n ∧ p k = true
    · obtain ⟨k, hk, hp⟩ := hx
      obtain ⟨k', a, b, c⟩ := least_ex_aux k hp
      exact ⟨k', by omega, b, c⟩
    · refine ⟨n + 1, Nat.le_refl _, h, fun j hj => ?_⟩
      cases e : p j with
      | false => rfl
      | true => exact absurd ⟨j, by omega, e⟩ hx
where
  least_ex_aux : ∀ n, p n = true → ∃ k, k ≤ n ∧ p k = true ∧ ∀ j, j < k → p j = false := fun n => by
    induction n using Nat.strongRecOn with
    | ind n ih =>
      intro h
      by_cases hx : ∃ k, k < n ∧ p k = true
      · obtain ⟨k, hk, hp⟩ := hx
        obtain ⟨k', a, b, c⟩ := ih k hk hp
        exact ⟨k', by omega, b, c⟩
      · refine ⟨n, Nat.le_refl _, h, fun j hj => ?_⟩
        cases e : p j with
        | false => rfl
        | true => exact absurd ⟨j, hj, e⟩ hx
/-- the powers of n, as many as d -/
def pows (n : Int) : Nat → List Int
  | 0 => []
  | d + 1 => 1 :: (pows n d).map (n * ·)
theorem pows_len (n : Int) : ∀ d, (pows n d).length = d
  | 0 => rfl
  | d + 1 => by
    show ((pows n d).map _).length + 1 = _
    rw [List.length_map, pows_len]
theorem dot_scale (k : Int) : ∀ xs ys, dot (xs.map (k * ·)) ys = k * dot xs ys
  | [], ys => by simp [dot]
  | x :: xs, [] => by simp [dot]
  | x :: xs, y :: ys => by
    have ih := dot_scale k xs ys
    unfold dot at *
    simp only [List.map_cons, List.zipWith_cons_cons, List.sum_cons, ih, Int.mul_add, Int.mul_assoc]
theorem dot_pows (n : Int) : ∀ v : List Int, dot (pows n v.length) v = pv_ n v
  | [] => rfl
  | c :: r => by
    have ih := dot_pows n r
    show dot (1 :: (pows n r.length).map (n * ·)) (c :: r) = c + n * pv_ n r
    rw [← ih, ← dot_scale]
    unfold dot
    rw [List.zipWith_cons_cons, List.sum_cons, Int.one_mul]
theorem pows_snoc (n : Int) : ∀ d, pows n (d + 1) = pows n d ++ [n ^ d]
  | 0 => by simp [pows]
  | d + 1 => by
    show 1 :: (pows n (d + 1)).map (n * ·) = (1 :: (pows n d).map (n * ·)) ++ [n ^ (d + 1)]
    rw [pows_snoc n d, List.map_append]
    show 1 :: ((pows n d).map (n * ·) ++ [n * n ^ d]) = 1 :: ((pows n d).map (n * ·) ++ [n ^ (d + 1)])
    rw [Int.pow_succ, Int.mul_comm]
end K45
namespace K45
open PySem PySem.Spec PyProof.Rows L2 Vk
abbrev s_isdir : Stmt := topS 5
theorem sc_isdir : FnScope ["value", "d", "vectors", "vector"] ["value", "d", "vectors"] (defScope s_isdir) := ⟨rfl, rfl, rfl, by decide +kernel, rfl, by decide +kernel, by decide +kernel⟩
abbrev s_up : Stmt := topS 7
theorem sc_up : FnScope ["lam", "vectors", "i", "vector"] ["lam", "vectors"] (defScope s_up) := ⟨rfl, rfl, rfl, by decide +kernel, rfl, by decide +kernel, by decide +kernel⟩
abbrev s_times : Stmt := topS 14
theorem sc_times : FnScope ["lam", "vector", "a", "b"] ["lam", "vector"] (defScope s_times) := ⟨rfl, rfl, rfl, by decide +kernel, rfl, by decide +kernel, by decide +kernel⟩
abbrev s_powers : Stmt := topS 15
theorem sc_powers : FnScope ["n", "d", "found", "turn"] ["n", "d"] (defScope s_powers) := ⟨rfl, rfl, rfl, by decide +kernel, rfl, by decide +kernel, by decide +kernel⟩
def isdirI (ns : List Int) (vecs : List (List Int)) : Bool := vecs.all fun v => decide (dot ns v ≠ 0)
def spIsdir : Sp := fun vs H Q _ => ∃ (x : V) (n : Nat) (vt : Addr) (ps : List Addr) (vecs : List (List Int)), vs = [x, .int n, .ref vt] ∧ Tp H vt (ps.map V.ref) ∧ Rws H ps vecs n ∧ n ≤ 100 ∧
  ((∃ t, Oky H x t ∧ t ≠ "tuple" ∧ ∀ H', Same H H' → Q (.bl false) H') ∨ ∃ a xs, x = .ref a ∧ Tp H a xs ∧ xs.length ≤ 100 ∧ (∀ e ∈ xs, ∃ t, Oky H e t) ∧ ((tupOk n xs = false ∧ ∀ H', Same H H' → Q (.bl false) H') ∨
    ∃ ns : List Int, xs = ns.map V.int ∧ ns.length = n ∧ (∀ y ∈ ns, SmZ 300 y) ∧ ∀ H', Same H H' → Q (.bl (isdirI ns vecs)) H'))
/-- places of the vectors whose product is above 0 -/
def upI (ns : List Int) (vecs : List (List Int)) : List Int := ((List.range vecs.length).filter fun i => decide (0 < dot ns (vecs.getD i []))).map fun i => ((i : Nat) : Int)
def spUp : Sp := fun vs H Q _ => ∃ (a vt : Addr) (ps : List Addr) (vecs : List (List Int)) (ns : List Int), vs = [.ref a, .ref vt] ∧ Row H a ns ∧ Tp H vt (ps.map V.ref) ∧ Rws H ps vecs ns.length ∧ vecs.length ≤ 100 ∧ ∀ r H', Same H H' → Tp H' r ((upI ns vecs).map V.int) → Q (.ref r) H'
def spPowers : Sp := fun vs H Q _ => ∃ (n d : Nat), vs = [.int n, .int d] ∧ n ≤ 1000 ∧ d ≤ 10 ∧ ∀ r H', Same H H' → Row H' r (pows n d) → Q (.ref r) H'
theorem tupOk_ints {n : Nat} {ns : List Int} (h : ns.length = n) : tupOk n (ns.map V.int) = true := by
  unfold tupOk
  rw [List.length_map, decide_eq_true h, Bool.true_and, List.all_map, List.all_eq_true]
  intro x _
  rfl
theorem pows_small {n : Nat} (hn : n ≤ 1000) : ∀ d, ∀ x ∈ pows n d, x.natAbs ≤ 1000 ^ d
  | 0, x, h => by cases h
  | d + 1, x, h => by
    rw [pows_snoc] at h
    have p : 1000 ^ d ≤ 1000 ^ (d + 1) := Nat.pow_le_pow_right (by decide) (Nat.le_succ d)
    rcases List.mem_append.mp h with h | h
    · exact Nat.le_trans (pows_small hn d x h) p
    · rw [List.mem_singleton] at h
      subst h
      rw [Int.natAbs_pow, Int.natAbs_natCast]
      exact Nat.le_trans (Nat.pow_le_pow_left hn d) p
theorem pows_sm {n d : Nat} (hn : n ≤ 1000) (hd : d ≤ 10) : ∀ x ∈ pows n d, SmZ 300 x := fun x hx =>
  Nat.lt_of_le_of_lt (pows_small hn d x hx) (Nat.lt_of_le_of_lt (Nat.pow_le_pow_right (by decide) hd) (by decide))
section
variable {P : Program} {w : World} {K : PySem.W.Frag} {mg : Str → Option Value} {base : Heap}
theorem ok_isdir {f : Addr} {fd : FuncData} (F : Fun K "is_direction" "is_direction" s_isdir f fd) (C_are_numbers : Cal P w K mg base 2 "are_numbers" ["value", "count"] spAren) (C_product_sum : Cal P w K mg base 1 "product_sum" ["one", "other"] spPsum) : FnOk P w K mg base CX0 3 f fd ["value", "d", "vectors"] spIsdir := by
  have sc := sc_isdir
  refine F.ok sc (fun vs H Q E h => ?_) (fun cdv A outer s H vs Q E hr h => ?_)
  · obtain ⟨x, n, vt, ps, vecs, rfl, _⟩ := h
    rfl
  · obtain ⟨x, n, vt, ps, vecs, rfl, hv, hR, hn, h⟩ := h
    refine ⟨_, (pss_cons (ps_if (pt_not (pt_val (call_ C_are_numbers (hr.mono (by decide)) (by rfl) (pa_cons (pv 0) (pa_cons (pv 1) pa_nil)))))
      (pss_one (ps_ret pe_bl))
      pss_nil)
    (pss_cons (ps_for PassesOwn.never rfl (pi_tup (pv 2)) (pg_name (i := 3) sc.nd rfl (Or.inl rfl))
      (pss_one (ps_if (pt_cmpR op_eq (call_ C_product_sum (hr.mono (by decide)) (by rfl) (pa_cons (pv 0) (pa_cons (pv 3) pa_nil))) pe_int (nomark _))
      (pss_one (ps_ret pe_bl))
      pss_nil)))
    (pss_one (ps_ret pe_bl)))), ?_⟩
    rcases h with ⟨t, hx, ht, q⟩ | ⟨a, xs, rfl, ha, hl, hes, h⟩
    · exact ⟨x, rfl, .int n, rfl, x, n, rfl, .inl ⟨t, hx, ht, _, rfl, iteT (q H (Same.refl _))⟩⟩
    · refine ⟨.ref a, rfl, .int n, rfl, .ref a, n, rfl, .inr ⟨a, xs, rfl, ha, hl, hes, fun H1 s1 => ⟨_, rfl, ?_⟩⟩⟩
      rcases h with ⟨hf, q⟩ | ⟨ns, rfl, ln, zn, q⟩
      · rw [hf]
        exact iteT (q H1 s1)
      · rw [tupOk_ints ln]
        refine iteF ⟨.ref vt, rfl, vt, rfl, ⟨_, (hv.same s1).t⟩, ?_⟩
        rw [List.length_map] at hl
        refine for_tup (K := K) (a := vt) (xs := ps.map V.ref) (fun i σ H' => (∃ y, σ = [some (.ref a), some (.int n), some (.ref vt), y]) ∧ Same H H' ∧ ∀ j v, j < i → vecs[j]? = some v → dot ns v ≠ 0) ⟨⟨none, rfl⟩, s1, fun j v h => absurd h (Nat.not_lt_zero j)⟩ (fun i σ H' _ p => (hv.same p.2.1).t) ?_ ?_
        · rintro i x σ H2 hx ⟨⟨y, rfl⟩, s2, hall⟩
          obtain ⟨p, hp, rfl⟩ := map_get hx
          have hi := (List.getElem?_eq_some_iff.mp hp).1
          rw [hR.1] at hi
          have hvi : vecs[i]? = some vecs[i] := List.getElem?_eq_getElem hi
          generalize vecs[i] = v at hvi
          obtain ⟨Rp, lp⟩ := hR.2 i p v hp hvi
          refine ⟨.ref a, rfl, .ref p, rfl, a, p, ns, v, rfl, ⟨ha.same s2, hl, zn⟩, Rp.same s2, by omega, fun H3 s3 => ⟨rfl, _, rfl, ite2 (fun hd => ?_) (fun hd => ?_)⟩⟩
          · have hz : dot ns v = 0 := by
              have := of_decide_eq_true hd
              exact V.int.inj this
            have e : isdirI ns vecs = false := by
              unfold isdirI
              rw [List.all_eq_false]
              exact ⟨v, List.mem_of_getElem? hvi, by simp [hz]⟩
            have q := q H3 (s2.trans s3)
            rw [e] at q
            exact q
          · refine ⟨⟨_, rfl⟩, s2.trans s3, fun j u hj hu => ?_⟩
            by_cases e : j = i
            · subst e
              rw [hvi] at hu
              obtain rfl := Option.some.inj hu
              intro z
              exact hd (decide_eq_true (by rw [z]))
            · exact hall j u (by omega) hu
        · rintro σ H2 ⟨⟨y, rfl⟩, s2, hall⟩
          have e : isdirI ns vecs = true := by
            unfold isdirI
            rw [List.all_eq_true]
            intro v hv'
            obtain ⟨j, hj⟩ := List.getElem?_of_mem hv'
            have jl := (List.getElem?_eq_some_iff.mp hj).1
            rw [List.length_map, hR.1] at hall
            exact decide_eq_true (hall j v jl hj)
          have q := q H2 s2
          rw [e] at q
          exact q
theorem ok_up {f : Addr} {fd : FuncData} (F : Fun K "uphill" "uphill" s_up f fd) (C_product_sum : Cal P w K mg base 1 "product_sum" ["one", "other"] spPsum) (m_tuple : mg "tuple" = none) (m_enumerate : mg "enumerate" = none) : FnOk P w K mg base CX0 2 f fd ["lam", "vectors"] spUp := by
  have sc := sc_up
  refine F.ok sc (fun vs H Q E h => ?_) (fun cdv A outer s H vs Q E hr h => ?_)
  · obtain ⟨a, vt, ps, vecs, ns, rfl, _⟩ := h
    rfl
  · obtain ⟨a, vt, ps, vecs, ns, rfl, ha, hv, hR, hl, q⟩ := h
    refine ⟨_, (pss_one (ps_ret (pe_callTy call_tuple_of (by rfl) m_tuple (by decide +kernel) (pa_cons (pe_lc (own := [("i", 2), ("vector", 3)]) (g := gTup K 2 (gCons (gName 2) (gCons (gName 3) gNil))) (by rfl) sc.nd (pi_enumK (by rfl) m_enumerate (pa_cons (pv 1) pa_nil)) (blkOk_by (own := [("i", 2), ("vector", 3)]) (N := ["lam", "vectors", "i", "vector"]) (sc := defScope s_up) (by decide +kernel)) (fun _ _ _ _ _ => pg_tup (n := 2) (by rfl) (pgs_cons (pg_name (i := 2) sc.nd rfl (Or.inl rfl)) (pgs_cons (pg_name (i := 3) sc.nd rfl (Or.inl rfl)) pgs_nil))) (fun _ _ _ _ _ => (pts_one (pt_cmpR op_gt (call_ C_product_sum (hr.mono (by decide)) (by rfl) (pa_cons (pv 0) (pa_cons (pv 3) pa_nil))) pe_int (nomark _)))) (fun _ _ _ _ _ => (pv 2))) pa_nil)))), ?_⟩
    refine ⟨.ref vt, rfl, false, vt, ps.map V.ref, rfl, hv.t, fun D nD => ?_⟩
    have lp : (ps.map V.ref).length = vecs.length := by rw [List.length_map, hR.1]
    refine lc_fl (walk_enumK (K := K) (b := false) (a := vt) (xs := ps.map V.ref)) (fun i => decide (0 < dot ns (vecs.getD i []))) (fun i => .int ((i : Nat) : Int)) (by rw [lp]; exact small hl) nD (fun H' s => (hv.same s).t) ?_ ?_
    · rintro i x H0 H1 Qy Nx hi s0 ⟨T, u, v, rfl, nT, rfl, hu, hv'⟩ hk hn
      obtain rfl := Option.some.inj hu
      obtain ⟨p, hp, rfl⟩ := map_get hv'
      have hi' : i < vecs.length := by omega
      have hvi : vecs[i]? = some (vecs.getD i []) := by
        rw [List.getD_eq_getElem?_getD, List.getElem?_eq_getElem hi']
        rfl
      obtain ⟨Rp, lv⟩ := hR.2 i p _ hp hvi
      have sT := s0.trans (same_new (o := .tup [.int (i : Nat), .ref p]) nT)
      refine ⟨T, [.int (i : Nat), .ref p], rfl, SqT.of upd_same, rfl, .int (i : Nat), [.ref p], rfl, .ref p, [], rfl, rfl, rfl, ?_⟩
      refine ⟨.ref a, rfl, .ref p, rfl, a, p, ns, _, rfl, ha.same sT, Rp.same sT, by omega, fun H2 s2 => ⟨_, _, rfl, rfl, _, rfl, ite2 (fun hd => ?_) (fun hd => ?_)⟩⟩
      · exact ⟨_, rfl, hk (decide_eq_true (by have := of_decide_eq_true hd; omega)) H2 ((same_new nT).trans s2)⟩
      · exact hn (decide_eq_false (fun z => hd (decide_eq_true (by omega)))) H2 ((same_new nT).trans s2)
    · intro H' s d
      refine ⟨D, _, rfl, .inl ⟨SqL.of d, fun l nl => q l _ (s.trans (same_new nl)) ?_⟩⟩
      show upd H' l _ l = _
      rw [upd_same, lp]
      unfold upI
      rw [List.map_map]
      rfl
theorem ok_times {f : Addr} {fd : FuncData} (F : Fun K "_law_times" "_law_times" s_times f fd) (m_sum : mg "sum" = none) (m_zip : mg "zip" = none) : FnOk P w K mg base CX0 1 f fd ["lam", "vector"] spPsum := by
  have sc := sc_times
  refine F.ok sc (fun vs H Q E h => ?_) (fun cdv A outer s H vs Q E hr h => ?_)
  · obtain ⟨a, b, xs, ys, rfl, _⟩ := h
    rfl
  · obtain ⟨a, b, xs, ys, rfl, ha, hb, hl, q⟩ := h
    refine ⟨_, (pss_one (ps_ret (pe_callB (cr_sum rfl) (by rfl) m_sum (by decide +kernel) (pa_cons (pe_lc (own := [("a", 2), ("b", 3)]) (g := gTup K 2 (gCons (gName 2) (gCons (gName 3) gNil))) (by rfl) sc.nd (pi_zipK (by rfl) m_zip (pa_cons (pv 0) (pa_cons (pv 1) pa_nil))) (blkOk_by (own := [("a", 2), ("b", 3)]) (N := ["lam", "vector", "a", "b"]) (sc := defScope s_times) (by decide +kernel)) (fun _ _ _ _ _ => pg_tup (n := 2) (by rfl) (pgs_cons (pg_name (i := 2) sc.nd rfl (Or.inl rfl)) (pgs_cons (pg_name (i := 3) sc.nd rfl (Or.inl rfl)) pgs_nil))) (fun _ _ _ _ _ => pts_nil) (fun _ _ _ _ _ => (pe_op op_mulW (pv 2) (pv 3)))) pa_nil)))), ?_⟩
    refine ⟨.ref a, rfl, .ref b, rfl, false, false, a, b, xs.map V.int, ys.map V.int, rfl, ha.1.t, hb.1.t, fun D nD => ?_⟩
    refine lc_to (walk_zipK (n := xs.length) (by rw [List.length_map, List.length_map]; omega)) ((List.zipWith (· * ·) xs ys).map V.int) (by rw [List.length_map, List.length_zipWith]; omega) (small ha.2.1) nD (fun H' s => ⟨(ha.1.same s).t, (hb.1.same s).t⟩) ?_ ?_
    · rintro i x y H0 H1 Qy hy hi s0 ⟨T, u, v, rfl, nT, rfl, hu, hv⟩ hq
      obtain ⟨z, hz, rfl⟩ := map_get hy
      obtain ⟨p, r, hp, hr', rfl⟩ := zipW_get hz
      obtain ⟨p', hp', rfl⟩ := map_get hu
      obtain ⟨r', hr'', rfl⟩ := map_get hv
      obtain rfl := Option.some.inj (hp.symm.trans hp')
      obtain rfl := Option.some.inj (hr'.symm.trans hr'')
      refine ⟨T, [.int p, .int r], rfl, SqT.of upd_same, rfl, .int p, [.int r], rfl, .int r, [], rfl, rfl, rfl, .int p, rfl, .int r, rfl, p, r, rfl, rfl, ?_, hq _ (same_new nT)⟩
      exact Nat.lt_trans (wide (ha.2.2 _ (List.mem_of_getElem? hp)) (hb.2.2 _ (List.mem_of_getElem? hr'))) (by decide)
    · intro H' s d
      exact ⟨D, List.zipWith (· * ·) xs ys, rfl, SqL.of d, q H' s⟩
theorem ok_powers {f : Addr} {fd : FuncData} (F : Fun K "_law_powers" "_law_powers" s_powers f fd) (m_tuple : mg "tuple" = none) (m_range : mg "range" = none) : FnOk P w K mg base CX0 1 f fd ["n", "d"] spPowers := by
  have sc := sc_powers
  refine F.ok sc (fun vs H Q E h => ?_) (fun cdv A outer s H vs Q E hr h => ?_)
  · obtain ⟨n, d, rfl, _⟩ := h
    rfl
  · obtain ⟨n, d, rfl, hn, hd, q⟩ := h
    refine ⟨_, (pss_cons (ps_set (i := 2) sc.nd rfl (Or.inl rfl) (pe_lst (pa_cons pe_int pa_nil)))
    (pss_cons (ps_for PassesOwn.never rfl (pi_range1 rfl m_range (pa_cons (pv 1) pa_nil)) (pg_name (i := 3) sc.nd rfl (Or.inl rfl))
      (pss_one (ps_expr (pe_bm PySem.F.plainAttrs_list PySem.F.slot_list_append PySem.F.type_list_append mt_append (pv 2) (pa_cons (pe_op op_mulW (pe_ix ix_list (pv 2) (pe_un un_neg pe_int) (fun _ _ => rfl)) (pv 0)) pa_nil)))))
    (pss_one (ps_ret (pe_callTy call_tuple_of (by rfl) m_tuple (by decide +kernel) (pa_cons (pe_slice sl_list (pv 2) po_none (po_some (pv 1))) pa_nil)))))), ?_⟩
    refine ⟨by show 1 ≤ sizeLine; decide, fun L nL => ?_⟩
    have gL : upd H L (.lst [.int 1]) L = some (.lst ((pows n (0 + 1)).map V.int)) := by
      rw [upd_same]
      rfl
    refine ⟨.int d, rfl, (d : Int), rfl, by omega, by omega, ?_⟩
    rw [Int.toNat_natCast]
    refine for_it (walk_range (lo := 0) (n := d)) (fun i σ H' => (∃ y3, σ = [some (.int n), some (.int d), some (.ref L), y3]) ∧ Same H H' ∧ H' L = some (.lst ((pows n (i + 1)).map V.int))) ⟨⟨none, rfl⟩, same_new nL, gL⟩ (fun _ _ _ _ _ => True.intro) ?_ ?_
    · rintro i x σ H1 H2 hi ⟨⟨y3, rfl⟩, s1, g1⟩ ⟨rfl, rfl⟩
      have e1 : (pows (n : Int) (i + 1)).map V.int = (pows (n : Int) i).map V.int ++ [.int ((n : Int) ^ i)] := by
        rw [pows_snoc, List.map_append]
        rfl
      have z1 : SmZ 300 ((n : Int) ^ i) := pows_sm (d := i + 1) hn (by omega) _ (by
        rw [pows_snoc]
        exact List.mem_append_right _ (List.mem_singleton.mpr rfl))
      have zn : SmZ 300 (n : Int) := Nat.lt_of_le_of_lt (show (n : Int).natAbs ≤ 1000 by omega) (by decide)
      refine ⟨.ref L, rfl, .inl ⟨rfl, _, SqL.of g1⟩, .ref L, rfl, 1, rfl, L, _, -1, .int ((n : Int) ^ i), rfl, rfl, SqL.of g1, by rw [e1]; exact atI_last _ _, .int n, rfl, (n : Int) ^ i, n, rfl, rfl, Nat.lt_trans (wide z1 zn) (by decide), ?_⟩
      refine ⟨L, _, _, rfl, rfl, g1, by rw [List.length_map, pows_len]; exact small (by omega), ⟨_, rfl⟩, same_put s1 nL, ?_⟩
      rw [upd_same, pows_snoc (n : Int) (i + 1), List.map_append, Int.pow_succ]
      rfl
    · rintro σ H1 ⟨⟨y3, rfl⟩, s1, g1⟩
      refine ⟨.ref L, rfl, .int d, rfl, (d : Int), rfl, L, _, rfl, SqL.of g1, fun p np => ?_⟩
      have cut : cutV ((pows (n : Int) (d + 1)).map V.int) none (some (d : Int)) = (pows (n : Int) d).map V.int := by
        unfold cutV
        rw [HT.sIx_none, HT.sIx_nat, List.drop_zero, Nat.sub_zero, List.length_map, pows_len, Nat.min_eq_left (Nat.le_succ d), pows_snoc, List.map_append]
        rw [List.take_append_of_le_length (by rw [List.length_map, pows_len]; exact Nat.le_refl _), List.take_of_length_le (by rw [List.length_map, pows_len]; exact Nat.le_refl _)]
      rw [cut]
      have s2 : Same H1 (upd H1 p (.lst ((pows (n : Int) d).map V.int))) := same_new np
      have g2 : upd H1 p (.lst ((pows (n : Int) d).map V.int)) p = some (.lst ((pows (n : Int) d).map V.int)) := upd_same
      generalize upd H1 p (.lst ((pows (n : Int) d).map V.int)) = H2 at s2 g2 ⊢
      exact ⟨p, _, rfl, .inl ⟨SqL.of g2, fun l nl => q l _ ((s1.trans s2).trans (same_new nl)) ⟨upd_same, by rw [pows_len]; omega, pows_sm hn hd⟩⟩⟩
end
end K45
namespace K45
open PySem PySem.Spec PyProof.Rows L2 Vk
abbrev s_dir : Stmt := topS 6
theorem sc_dir : FnScope ["d", "vectors", "base", "lam", "i"] ["d", "vectors"] (defScope s_dir) := ⟨rfl, rfl, rfl, by decide +kernel, rfl, by decide +kernel, by decide +kernel⟩
abbrev s_due : Stmt := topS 16
theorem sc_due : FnScope ["d", "vectors", "n", "v"] ["d", "vectors"] (defScope s_due) := ⟨rfl, rfl, rfl, by decide +kernel, rfl, by decide +kernel, by decide +kernel⟩
/-- the least number from 1 on that is good -/
def Least (vecs : List (List Int)) (n : Nat) : Prop := 1 ≤ n ∧ good vecs n = true ∧ ∀ j, 1 ≤ j → j < n → good vecs j = false
def spDir : Sp := fun vs H Q _ => ∃ (d : Nat) (vt : Addr) (ps : List Addr) (vecs : List (List Int)) (n : Nat), vs = [.int d, .ref vt] ∧ d ≤ 10 ∧ Tp H vt (ps.map V.ref) ∧ Rws H ps vecs d ∧ Least vecs n ∧ n ≤ 1000 ∧ ∀ r H', Same H H' → Row H' r (pows n d) → Q (.ref r) H'
def spDue : Sp := fun vs H Q _ => ∃ (d : Nat) (vt : Addr) (ps : List Addr) (vecs : List (List Int)) (n : Nat), vs = [.int d, .ref vt] ∧ d ≤ 10 ∧ Tp H vt (ps.map V.ref) ∧ Rws H ps vecs d ∧ vecs.length ≤ 100 ∧ Least vecs n ∧ n ≤ 1000 ∧ ∀ H', Same H H' → Q (.int n) H'
theorem isdir_good {d n : Nat} {vecs : List (List Int)} (h : ∀ v ∈ vecs, v.length = d) : isdirI (pows n d) vecs = good vecs n := by
  unfold isdirI good
  have e : ∀ v ∈ vecs, decide (dot (pows n d) v ≠ 0) = decide (pv_ (n : Int) v ≠ 0) := fun v hv => by
    rw [← h v hv, dot_pows]
  induction vecs with
  | nil => rfl
  | cons v vs ih => rw [List.all_cons, List.all_cons, e v (List.mem_cons_self ..), ih (fun u hu => h u (List.mem_cons_of_mem _ hu)) fun u hu => e u (List.mem_cons_of_mem _ hu)]
theorem rws_len {H : Hp} {ps : List Addr} {rows : List (List Int)} {n : Nat} (h : Rws H ps rows n) : ∀ v ∈ rows, v.length = n := fun v hv => by
  obtain ⟨i, hi⟩ := List.getElem?_of_mem hv
  have il := (List.getElem?_eq_some_iff.mp hi).1
  have ip : i < ps.length := by
    rw [h.1]
    exact il
  exact (h.2 i ps[i] v (List.getElem?_eq_getElem ip) hi).2
theorem flat1 {α : Type} (n : Nat) (a : α) : (List.replicate n [a]).flatten = List.replicate n a := by
  induction n with
  | zero => rfl
  | succ n ih => rw [List.replicate_succ, List.flatten_cons, ih, List.replicate_succ]; rfl
/-- lam with the first k entries made -/
def lamI (n d k : Nat) : List Int := pows n k ++ List.replicate (d - k) 1
theorem lamI_one (n d : Nat) : lamI n d 1 = List.replicate d 1 ∨ d = 0 := by
  cases d with
  | zero => exact .inr rfl
  | succ d => exact .inl rfl
theorem lamI_set {n d k : Nat} (h1 : 1 ≤ k) (h : k < d) : (lamI n d k).set k ((n : Int) ^ k) = lamI n d (k + 1) := by
  unfold lamI
  rw [List.set_append_right _ _ (by rw [pows_len]; exact Nat.le_refl _), pows_len, Nat.sub_self, pows_snoc, List.append_assoc]
  congr 1
  obtain ⟨e, he⟩ : ∃ e, d - k = e + 1 := ⟨d - k - 1, by omega⟩
  rw [he, List.replicate_succ, List.set_cons_zero, show d - (k + 1) = e by omega]
  rfl
theorem lamI_at {n d k : Nat} (h1 : 1 ≤ k) (h : k ≤ d) : (lamI n d k)[k - 1]? = some ((n : Int) ^ (k - 1)) := by
  obtain ⟨j, rfl⟩ : ∃ j, k = j + 1 := ⟨k - 1, by omega⟩
  unfold lamI
  rw [pows_snoc, Nat.add_sub_cancel, List.append_assoc, List.getElem?_append_right (by rw [pows_len]; exact Nat.le_refl _), pows_len, Nat.sub_self]
  rfl
theorem lamI_len {n d k : Nat} (h : k ≤ d) : (lamI n d k).length = d := by
  unfold lamI
  rw [List.length_append, pows_len, List.length_replicate]
  omega
theorem lamI_end (n d : Nat) : lamI n d d = pows n d := by
  unfold lamI
  rw [Nat.sub_self, List.replicate_zero, List.append_nil]
section
variable {P : Program} {w : World} {K : PySem.W.Frag} {mg : Str → Option Value} {base : Heap}
theorem ok_dir {f : Addr} {fd : FuncData} (F : Fun K "direction" "direction" s_dir f fd) (C_is_direction : Cal P w K mg base 3 "is_direction" ["value", "d", "vectors"] spIsdir) (m_tuple : mg "tuple" = none) (m_range : mg "range" = none) : FnOk P w K mg base CX0 4 f fd ["d", "vectors"] spDir := by
  have sc := sc_dir
  refine F.ok sc (fun vs H Q E h => ?_) (fun cdv A outer s H vs Q E hr h => ?_)
  · obtain ⟨d, vt, ps, vecs, n, rfl, _⟩ := h
    rfl
  · obtain ⟨d, vt, ps, vecs, n, rfl, hd, hv, hR, ⟨n1, hgood, hbad⟩, hn, q⟩ := h
    refine ⟨_, (pss_cons (ps_set (i := 2) sc.nd rfl (Or.inl rfl) pe_int)
    (pss_one (ps_while PassesOwn.never (pt_val pe_bl)
      (pss_cons (ps_aug (i := 2) sc.nd rfl (Or.inl rfl) pe_int ip_add)
    (pss_cons (ps_set (i := 3) sc.nd rfl (Or.inl rfl) (pe_op op_rep (pe_lst (pa_cons pe_int pa_nil)) (pv 0)))
    (pss_cons (ps_for PassesOwn.never rfl (pi_range2 rfl m_range (pa_cons pe_int (pa_cons (pv 0) pa_nil))) (pg_name (i := 4) sc.nd rfl (Or.inl rfl))
      (pss_one (ps_asg (pe_op op_mulW (pe_ix ix_list (pv 3) (pe_op op_sub (pv 4) pe_int) (fun _ _ => rfl)) (pv 2)) (pg_sub (pv 3) (pv 4) set_list))))
    (pss_one (ps_if (pt_val (call_ C_is_direction (hr.mono (by decide)) (by rfl) (pa_cons (pe_callTy call_tuple_of (by rfl) m_tuple (by decide +kernel) (pa_cons (pv 3) pa_nil)) (pa_cons (pv 0) (pa_cons (pv 1) pa_nil)))))
      (pss_one (ps_ret (pe_callTy call_tuple_of (by rfl) m_tuple (by decide +kernel) (pa_cons (pv 3) pa_nil))))
      pss_nil)))))))), ?_⟩
    refine ⟨fun m σ H' => ∃ b : Nat, m = n - b ∧ (∃ y3 y4, σ = [some (.int d), some (.ref vt), some (.int b), y3, y4]) ∧ Same H H' ∧ b < n ∧ ∀ j, 1 ≤ j → j ≤ b → good vecs j = false, ⟨_, 0, rfl, ⟨none, none, rfl⟩, Same.refl _, n1, fun j h1 h2 => absurd h1 (by omega)⟩, ?_⟩
    rintro m σ H1 ⟨b, rfl, ⟨y3, y4, rfl⟩, s1, hb, hbs⟩
    refine ⟨_, rfl, iteT ⟨fun σ' H' => ∃ y3 y4, σ' = [some (.int d), some (.ref vt), some (.int ((b + 1 : Nat) : Int)), y3, y4] ∧ Same H H' ∧ b + 1 < n ∧ ∀ j, 1 ≤ j → j ≤ b + 1 → good vecs j = false, ?_, ?_⟩⟩
    · rintro σ' H' ⟨y3, y4, rfl, s', hb', hbs'⟩
      exact ⟨n - (b + 1), by omega, b + 1, rfl, ⟨_, _, rfl⟩, s', hb', hbs'⟩
    refine ⟨.int b, rfl, b, 1, rfl, rfl, by show 1 ≤ sizeLine; decide, fun p1 np1 => ?_⟩
    have eb : ((b : Nat) : Int) + 1 = ((b + 1 : Nat) : Int) := by omega
    dsimp only
    rw [eb]
    obtain ⟨c, hc⟩ : ∃ c, c = b + 1 := ⟨_, rfl⟩
    rw [← hc]
    have hcn : c ≤ 1000 := by omega
    have s2 : Same H1 (upd H1 p1 (.lst [.int 1])) := same_new np1
    have g2 : upd H1 p1 (.lst [.int 1]) p1 = some (.lst [.int 1]) := upd_same
    generalize upd H1 p1 (.lst [.int 1]) = H2 at s2 g2 ⊢
    refine ⟨.int d, rfl, p1, d, [.int 1], rfl, rfl, g2, by omega, by omega, Nat.le_of_lt (small (by show 1 * (d : Int).toNat ≤ 100; omega)), fun L nL => ?_⟩
    have e3 : (List.replicate (d : Int).toNat [V.int 1]).flatten = (List.replicate d (1 : Int)).map V.int := by
      rw [Int.toNat_natCast, flat1, List.map_replicate]
    rw [e3]
    have s12 := s1.trans s2
    have nLH : H2 L = none := nL
    have g3 : upd H2 L (.lst ((List.replicate d (1 : Int)).map V.int)) L = some (.lst ((List.replicate d (1 : Int)).map V.int)) := upd_same
    have g3 : upd H2 L (.lst ((List.replicate d (1 : Int)).map V.int)) L = some (.lst (((lamI c d 1).take d).map V.int)) := by
      rw [g3]
      cases d with
      | zero => rfl
      | succ e =>
        rw [List.take_of_length_le (by rw [lamI_len (by omega)]; exact Nat.le_refl _)]
        rfl
    refine ⟨.int d, rfl, 1, d, rfl, ⟨by omega, by omega, by omega, by omega⟩, ?_⟩
    have zc : SmZ 300 (c : Int) := Nat.lt_of_le_of_lt (show (c : Int).natAbs ≤ 1000 by omega) (by decide)
    refine for_it (walk_range (lo := 1) (n := ((d : Int) - 1).toNat)) (fun i σ H' => (∃ y4, σ = [some (.int d), some (.ref vt), some (.int c), some (.ref L), y4]) ∧ Same H2 H' ∧ H' L = some (.lst (((lamI c d (i + 1)).take d).map V.int))) ⟨⟨_, rfl⟩, same_new nL, g3⟩ (fun _ _ _ _ _ => True.intro) ?_ ?_
    · rintro i x σ H3 H4 hi ⟨⟨y4', rfl⟩, s4, g4⟩ ⟨rfl, rfl⟩
      have hid : i + 1 < d := by omega
      rw [List.take_of_length_le (by rw [lamI_len (by omega)]; exact Nat.le_refl _)] at g4
      have z1 : SmZ 300 ((c : Int) ^ i) := pows_sm (d := i + 1) hcn (by omega) _ (by
        rw [pows_snoc]
        exact List.mem_append_right _ (List.mem_singleton.mpr rfl))
      have at1 : atI ((lamI c d (i + 1)).map V.int) ((1 : Int) + (i : Nat) - 1) = some (V.int ((c : Int) ^ i)) := atI_at (i := i) (by omega) (get_map (lamI_at (k := i + 1) (by omega) (by omega)))
      have ix1 : ixN ((lamI c d (i + 1)).map V.int).length ((1 : Int) + (i : Nat)) = some (i + 1) := by
        rw [List.length_map, lamI_len (by omega)]
        unfold ixN
        rw [if_pos (by omega), if_pos (by omega)]
        congr 1
        omega
      refine ⟨.ref L, rfl, .int (1 + i), rfl, (1 + i : Int), 1, rfl, rfl, L, _, (1 + i - 1 : Int), .int ((c : Int) ^ i), rfl, rfl, SqL.of g4, at1, .int c, rfl, (c : Int) ^ i, c, rfl, rfl, Nat.lt_trans (wide z1 zc) (by decide), .ref L, rfl, .int (1 + i), rfl, L, _, (1 + i : Int), i + 1, rfl, rfl, g4, ix1, ⟨_, rfl⟩, same_put s4 nL, ?_⟩
      rw [upd_same, List.take_of_length_le (by rw [lamI_len (by omega)]; exact Nat.le_refl _), ← lamI_set (n := c) (k := i + 1) (by omega) hid, ← List.map_set, Int.pow_succ]
    · rintro σ H3 ⟨⟨y4', rfl⟩, s4, g4⟩
      have g4 : H3 L = some (.lst ((pows c d).map V.int)) := by
        rw [g4]
        cases d with
        | zero => rfl
        | succ e =>
          rw [show (((e + 1 : Nat) : Int) - 1).toNat + 1 = e + 1 by omega, lamI_end, List.take_of_length_le (by rw [pows_len]; exact Nat.le_refl _)]
      refine ⟨.ref L, rfl, L, _, rfl, .inl ⟨SqL.of g4, fun t nt => ?_⟩⟩
      have s5 : Same H3 (upd H3 t (.tup ((pows c d).map V.int))) := same_new nt
      have g5 : Tp (upd H3 t (.tup ((pows c d).map V.int))) t ((pows c d).map V.int) := upd_same
      have g4' := s5 _ _ g4
      generalize upd H3 t (.tup ((pows c d).map V.int)) = H5 at s5 g5 g4' ⊢
      have s15 := (s12.trans s4).trans s5
      refine ⟨.int d, rfl, .ref vt, rfl, .ref t, d, vt, ps, vecs, rfl, hv.same s15, hR.same s15, by omega, .inr ⟨t, _, rfl, g5, by rw [List.length_map, pows_len]; omega, fun e he => ?_, .inr ⟨pows c d, rfl, pows_len _ _, pows_sm hcn hd, fun H6 s6 => ⟨_, rfl, ?_⟩⟩⟩⟩
      · obtain ⟨y, _, rfl⟩ := List.mem_map.mp he
        exact ⟨_, .int y⟩
      · rw [isdir_good (rws_len hR)]
        have s16 := s15.trans s6
        by_cases hg : good vecs c = true
        · rw [hg]
          obtain rfl : c = n := by
            by_cases h : c < n
            · rw [hbad c (by omega) h] at hg
              cases hg
            · omega
          exact iteT ⟨.ref L, rfl, L, _, rfl, .inl ⟨SqL.of (s6 _ _ g4'), fun t2 n2 => q t2 _ (s16.trans (same_new n2)) ⟨upd_same, by rw [pows_len]; omega, pows_sm hcn hd⟩⟩⟩
        · have hg : good vecs c = false := by
            cases e : good vecs c with
            | false => rfl
            | true => exact absurd e hg
          rw [hg]
          refine iteF ⟨_, _, by rw [hc], s16, ?_, fun j h1 h2 => ?_⟩
          · by_cases h : b + 1 = n
            · rw [hc, h, hgood] at hg
              cases hg
            · omega
          · by_cases h : j ≤ b
            · exact hbs j h1 h
            · obtain rfl : j = c := by omega
              exact hg
theorem ok_due {f : Addr} {fd : FuncData} (F : Fun K "_law_due" "_law_due" s_due f fd) (C__law_times : Cal P w K mg base 1 "_law_times" ["lam", "vector"] spPsum) (C__law_powers : Cal P w K mg base 1 "_law_powers" ["n", "d"] spPowers) : FnOk P w K mg base CX0 2 f fd ["d", "vectors"] spDue := by
  have sc := sc_due
  refine F.ok sc (fun vs H Q E h => ?_) (fun cdv A outer s H vs Q E hr h => ?_)
  · obtain ⟨d, vt, ps, vecs, n, rfl, _⟩ := h
    rfl
  · obtain ⟨d, vt, ps, vecs, n, rfl, hd, hv, hR, hl, ⟨n1, hgood, hbad⟩, hn, q⟩ := h
    refine ⟨_, (pss_cons (ps_set (i := 2) sc.nd rfl (Or.inr rfl) pe_int)
    (pss_cons (ps_while PassesOwn.never (pt_cmpR (op_neD hr.units) (pe_lc (own := [("v", 3)]) (g := gName 3) (by rfl) sc.nd (pi_tup (pv 1)) (blkOk_by (own := [("v", 3)]) (N := ["d", "vectors", "n", "v"]) (sc := defScope s_due) (by decide +kernel)) (fun _ _ _ _ _ => pg_name (i := 3) sc.nd rfl (Or.inl rfl)) (fun _ _ _ _ _ => (pts_one (pt_cmpR op_eq (call_ C__law_times (hr.mono (by decide)) (by rfl) (pa_cons (call_ C__law_powers (hr.mono (by decide)) (by rfl) (pa_cons (pv 2) (pa_cons (pv 0) pa_nil))) (pa_cons (pv 3) pa_nil))) pe_int (nomark _)))) (fun _ _ _ _ _ => (pv 3))) (pe_lst pa_nil) (nomark _))
      (pss_one (ps_set (i := 2) sc.nd rfl (Or.inr rfl) (pe_op op_add (pv 2) pe_int))))
    (pss_one (ps_ret (pv 2))))), ?_⟩
    have hrl := rws_len hR
    refine ⟨fun m σ H' => ∃ b : Nat, m = n - b ∧ (∃ y3, σ = [some (.int d), some (.ref vt), some (.int b), y3]) ∧ Same H H' ∧ 1 ≤ b ∧ b ≤ n, ⟨_, 1, rfl, ⟨none, rfl⟩, Same.refl _, Nat.le_refl _, n1⟩, ?_⟩
    rintro m σ H1 ⟨b, rfl, ⟨y3, rfl⟩, s1, hb1, hbn⟩
    have hv1 := hv.same s1
    have hR1 := hR.same s1
    refine ⟨.ref vt, rfl, vt, rfl, ⟨_, hv1.t⟩, fun D nD => ?_⟩
    have lp : (ps.map V.ref).length = vecs.length := by rw [List.length_map, hR.1]
    refine lc_fl (walk_tup (K := K) (a := vt) (xs := ps.map V.ref)) (fun i => decide (pv_ (b : Int) (vecs.getD i []) = 0)) (fun i => (ps.map V.ref).getD i .non) (by rw [lp]; exact small hl) nD (fun H' s => (hv1.same s).t) ?_ ?_
    · rintro i x H0 H0' Qy Nx hi s0 ⟨rfl, hx⟩ hk hnk
      have hx0 : (ps.map V.ref).getD i .non = x := by
        rw [List.getD_eq_getElem?_getD, hx]
        rfl
      obtain ⟨p, hp, rfl⟩ := map_get hx
      have hi' : i < vecs.length := by omega
      have hvi : vecs[i]? = some (vecs.getD i []) := by
        rw [List.getD_eq_getElem?_getD, List.getElem?_eq_getElem hi']
        rfl
      generalize vecs.getD i [] = v at hvi hk hnk
      obtain ⟨Rp, lv⟩ := hR1.2 i p _ hp hvi
      refine ⟨rfl, .int b, rfl, .int d, rfl, b, d, rfl, by omega, hd, fun r H2 s2 R2 => ?_⟩
      refine ⟨.ref p, rfl, r, p, pows b d, v, rfl, R2, Rp.same (s0.trans s2), by rw [pows_len, lv], fun H3 s3 => ?_⟩
      rw [show dot (pows (b : Int) d) v = pv_ (b : Int) v by rw [← lv, dot_pows]]
      refine ⟨rfl, _, rfl, ite2 (fun hd => ?_) (fun hd => ?_)⟩
      · exact ⟨.ref p, rfl, by rw [← hx0]; exact hk (decide_eq_true (V.int.inj (of_decide_eq_true hd))) _ (s2.trans s3)⟩
      · exact hnk (decide_eq_false fun z => hd (decide_eq_true (by rw [z]))) _ (s2.trans s3)
    · intro H2 s2 g2
      rw [lp] at g2
      have s02 := s1.trans s2
      refine ⟨by show 0 ≤ sizeLine; decide, fun E nE => ?_⟩
      have s3 : Same H2 (upd H2 E (.lst [])) := same_new nE
      have g3 : upd H2 E (.lst []) E = some (.lst []) := upd_same
      have g2 := s3 _ _ g2
      generalize upd H2 E (.lst []) = H3 at s3 g3 g2 ⊢
      have s03 := s02.trans s3
      have dps : ∀ l : List Nat, (∀ i ∈ l, i < vecs.length) → DpAll K H3 (l.map fun i => (ps.map V.ref).getD i .non) (l.map fun i => dRow (vecs.getD i [])) := fun l hl => by
        induction l with
        | nil => exact .nil
        | cons i l ih =>
          have hi := hl i (List.mem_cons_self ..)
          have ip : i < ps.length := by rw [hR.1]; exact hi
          have hvi : vecs[i]? = some (vecs.getD i []) := by
            rw [List.getD_eq_getElem?_getD, List.getElem?_eq_getElem hi]
            rfl
          refine .cons ?_ (ih fun j hj => hl j (List.mem_cons_of_mem _ hj))
          show Dp K H3 ((ps.map V.ref).getD i .non) (dRow (vecs.getD i []))
          rw [List.getD_eq_getElem?_getD, List.getElem?_map, List.getElem?_eq_getElem ip]
          exact dp_row ((hR.same s03).2 i ps[i] _ (List.getElem?_eq_getElem ip) hvi).1.1
      have hlt : ∀ i ∈ (List.range vecs.length).filter (fun i => decide (pv_ (b : Int) (vecs.getD i []) = 0)), i < vecs.length := fun i hi => List.mem_range.mp (List.mem_filter.mp hi).1
      have dpl := dps _ hlt
      have emp : good vecs b = ((List.range vecs.length).filter (fun i => decide (pv_ (b : Int) (vecs.getD i []) = 0))).isEmpty := by
        unfold good
        rw [Bool.eq_iff_iff, List.all_eq_true, List.isEmpty_iff, List.filter_eq_nil_iff]
        constructor
        · intro h i hi
          have hi := List.mem_range.mp hi
          have hm : vecs.getD i [] ∈ vecs := by
            rw [List.getD_eq_getElem?_getD, List.getElem?_eq_getElem hi]
            exact List.getElem_mem hi
          have := of_decide_eq_true (h _ hm)
          simpa using this
        · intro h v hv
          obtain ⟨i, hi⟩ := List.getElem?_of_mem hv
          have il := (List.getElem?_eq_some_iff.mp hi).1
          have := h i (List.mem_range.mpr il)
          rw [List.getD_eq_getElem?_getD, hi] at this
          simpa using this
      generalize (List.range vecs.length).filter (fun i => decide (pv_ (b : Int) (vecs.getD i []) = 0)) = kept at g2 dpl emp hlt
      have shp : SeqAt.shaped (.list (kept.map fun i => dRow (vecs.getD i []))) = true := by
        have h := (shaped_rows (kept.map fun i => vecs.getD i [])).1
        rw [List.map_map] at h
        exact h
      refine ⟨.list (kept.map fun i => dRow (vecs.getD i [])), .list [], .lst (SqL.of g2) dpl, .lst (SqL.of g3) .nil, shp, by decide, _, rfl, ?_⟩
      cases kept with
      | nil =>
        refine iteF' (by rfl) ⟨.int b, rfl, ?_⟩
        obtain rfl : b = n := by
          by_cases h : b < n
          · rw [hbad b hb1 h] at emp
            cases emp
          · omega
        exact q H3 s03
      | cons i l =>
        refine iteT' (by rfl) ⟨fun σ' H' => ∃ y3, σ' = [some (.int d), some (.ref vt), some (.int ((b + 1 : Nat) : Int)), y3] ∧ Same H H' ∧ b < n, ?_, ?_⟩
        · rintro σ' H' ⟨y3, rfl, s', hb'⟩
          exact ⟨n - (b + 1), by omega, b + 1, rfl, ⟨_, rfl⟩, s', by omega, hb'⟩
        · refine ⟨.int b, rfl, b, 1, rfl, rfl, _, rfl, s03, ?_⟩
          by_cases h : b = n
          · rw [h, hgood] at emp
            cases emp
          · omega
end
end K45
namespace Vk
open PySem PySem.Spec PyProof.Rows L2
theorem tifs_rest {c : TT} {t u : TS} {D : Ends} {σ : L2.St} {H : Hp} (Good : L2.St → Hp → Prop) (rest : ∀ σ' H', Good σ' H' → D.nx σ' H') (paths : (∀ σ' H', Good σ' H' → D.nx σ' H') → tIfS c t u D σ H) : tIfS c t u D σ H := paths rest
theorem gname_ {i : Nat} {v : V} {σ : L2.St} {H : Hp} {Q : L2.St → Hp → Prop} (h : Q (σ.set i (some v)) H) : gName i v σ H Q := h
theorem seq_ {t u : TS} {D : Ends} {σ : L2.St} {H : Hp} (h : t { D with nx := u D } σ H) : tSeq t u D σ H := h
theorem Rws.snoc {H : Hp} {ps : List Addr} {rows : List (List Int)} {n : Nat} {p : Addr} {r : List Int} (h : Rws H ps rows n) (hp : Row H p r) (hl : r.length = n) : Rws H (ps ++ [p]) (rows ++ [r]) n := by
  refine ⟨by rw [List.length_append, List.length_append, h.1]; rfl, fun j a z h1 h2 => ?_⟩
  by_cases hj : j < ps.length
  · rw [List.getElem?_append_left hj] at h1
    rw [List.getElem?_append_left (by rw [← h.1]; exact hj)] at h2
    exact h.2 j a z h1 h2
  · rw [List.getElem?_append_right (by omega)] at h1
    rw [List.getElem?_append_right (by rw [← h.1]; omega)] at h2
    have j0 : j - ps.length = 0 := by
      have := (List.getElem?_eq_some_iff.mp h1).1
      simp only [List.length_cons, List.length_nil] at this
      omega
    rw [j0] at h1
    rw [← h.1, j0] at h2
    obtain rfl : p = a := Option.some.inj h1
    obtain rfl : r = z := Option.some.inj h2
    exact ⟨hp, hl⟩
theorem Rws.put {H : Hp} {D : Addr} {l : List V} {o : HO} {ps : List Addr} {rows : List (List Int)} {n : Nat} (h : Rws H ps rows n) (d : H D = some (.lst l)) : Rws (upd H D o) ps rows n := ⟨h.1, fun i p r h1 h2 => ⟨⟨tp_put (h.2 i p r h1 h2).1.1 d, (h.2 i p r h1 h2).1.2⟩, (h.2 i p r h1 h2).2⟩⟩
end Vk
namespace K45
open PySem PySem.Spec PyProof.Rows L2 Vk
abbrev s_vectors : Stmt := topS 17
theorem sc_vectors : FnScope ["m", "d", "found", "turn", "vector", "n", "i", "c"] ["m", "d"] (defScope s_vectors) := ⟨rfl, rfl, rfl, by decide +kernel, rfl, by decide +kernel, by decide +kernel⟩
def spVectors : Sp := fun vs H Q _ => ∃ (m c : Addr) (q d : Nat), vs = [.ref m, .int d] ∧ MOk H m c q ∧ q ≤ 50000 ∧ 1 ≤ d ∧ d ≤ 10 ∧ ∀ H' vt ps vecs, SameBut m H H' → MOk H' m c (q + 100) → Tp H' vt (ps.map V.ref) → Rws H' ps vecs d → vecs.length ≤ 6 → (∀ v ∈ vecs, ∃ y ∈ v, y ≠ 0) → Q (.ref vt) H'
section
variable {P : Program} {w : World} {K : PySem.W.Frag} {mg : Str → Option Value} {base : Heap}
theorem ok_vectors {f : Addr} {fd : FuncData} (F : Fun K "_law_vectors" "_law_vectors" s_vectors f fd) (C__law_draw : Cal P w K mg base 1 "_law_draw" ["m", "bound"] spDraw) (m_tuple : mg "tuple" = none) (m_range : mg "range" = none) : FnOk P w K mg base CX0 2 f fd ["m", "d"] spVectors := by
  have sc := sc_vectors
  refine F.ok sc (fun vs H Q E h => ?_) (fun cdv A outer s H vs Q E hr h => ?_)
  · obtain ⟨m, c, q, d, rfl, _⟩ := h
    rfl
  · obtain ⟨m, c, q, d, rfl, hM, hq, hd1, hd, k⟩ := h
    refine ⟨_, (pss_cons (ps_set (i := 2) sc.nd rfl (Or.inl rfl) (pe_lst pa_nil))
    (pss_cons (ps_for PassesOwn.never rfl (pi_range1 rfl m_range (pa_cons (call_ C__law_draw (hr.mono (by decide)) (by rfl) (pa_cons (pv 0) (pa_cons pe_int pa_nil))) pa_nil)) (pg_name (i := 3) sc.nd rfl (Or.inl rfl))
      (pss_cons (ps_setLc (i := 4) (own := [("i", 6)]) (g := gName 6) (by rfl) sc.nd rfl rfl (sw_true rfl rfl rfl (by decide +kernel)) (pi_range1 rfl m_range (pa_cons (pv 1) pa_nil)) (blkOk_by (own := [("i", 6)]) (N := ["m", "d", "found", "turn", "vector", "n", "i", "c"]) (sc := defScope s_vectors) (by decide +kernel)) (fun _ _ _ _ _ => pg_name (i := 6) sc.nd rfl (Or.inl rfl)) (fun _ _ _ _ _ => pts_nil) (fun _ _ _ _ _ => (pe_op op_sub (call_ C__law_draw (hr.mono (by decide)) (by rfl) (pa_cons (pv 0) (pa_cons pe_int pa_nil))) pe_int)))
    (pss_cons (ps_if (PW.pt (pw_and (pt_cmpR op_gt (pv 1) pe_int (nomark _)) (pw_and1 (pt_cmpR op_eq (call_ C__law_draw (hr.mono (by decide)) (by rfl) (pa_cons (pv 0) (pa_cons pe_int pa_nil))) pe_int (nomark _)))))
      (pss_cons (ps_set (i := 5) sc.nd rfl (Or.inl rfl) (pe_op op_add pe_int (call_ C__law_draw (hr.mono (by decide)) (by rfl) (pa_cons (pv 0) (pa_cons pe_int pa_nil)))))
    (pss_cons (ps_set (i := 4) sc.nd rfl (Or.inl rfl) (pe_op op_rep (pe_lst (pa_cons pe_int pa_nil)) (pv 1)))
    (pss_one (ps_asg (pe_tup (pa_cons (pv 5) (pa_cons (pe_un un_neg pe_int) pa_nil))) (pg_tup (by rfl) (pgs_cons (pg_sub (pv 4) pe_int set_list) (pgs_cons (pg_sub (pv 4) pe_int set_list) pgs_nil)))))))
      pss_nil)
    (pss_one (ps_if (pt_cmpR (op_neD hr.units) (pe_lc (own := [("c", 7)]) (g := gName 7) (by rfl) sc.nd (pi_list (pv 4)) (blkOk_by (own := [("c", 7)]) (N := ["m", "d", "found", "turn", "vector", "n", "i", "c"]) (sc := defScope s_vectors) (by decide +kernel)) (fun _ _ _ _ _ => pg_name (i := 7) sc.nd rfl (Or.inl rfl)) (fun _ _ _ _ _ => (pts_one (pt_cmpR op_ne (pv 7) pe_int (nomark _)))) (fun _ _ _ _ _ => (pv 7))) (pe_lst pa_nil) (nomark _))
      (pss_one (ps_expr (pe_bm PySem.F.plainAttrs_list PySem.F.slot_list_append PySem.F.type_list_append mt_append (pv 2) (pa_cons (pe_callTy call_tuple_of (by rfl) m_tuple (by decide +kernel) (pa_cons (pv 4) pa_nil)) pa_nil))))
      pss_nil)))))
    (pss_one (ps_ret (pe_callTy call_tuple_of (by rfl) m_tuple (by decide +kernel) (pa_cons (pv 2) pa_nil)))))), ?_⟩
    refine ⟨by show 0 ≤ sizeLine; decide, fun L nL => ?_⟩
    obtain ⟨kvs, hmH⟩ := hM.m_some
    obtain ⟨ys, hcH⟩ := hM.c_some
    have lm : L ≠ m := Ne.symm (ne_of_none hmH nL)
    have lc : L ≠ c := Ne.symm (ne_of_none hcH nL)
    have M0 := hM.put (o := .lst []) lm lc
    have g0 : upd H L (.lst []) L = some (.lst (([] : List Addr).map V.ref)) := upd_same
    have b0 : SameBut m H (upd H L (.lst [])) := SameBut.of (same_new nL)
    generalize upd H L (.lst []) = H0 at M0 g0 b0 ⊢
    refine ⟨.ref m, rfl, m, c, q, 7, rfl, M0, by omega, by decide, by decide, fun H1 v b1 M1 v0 v1 => ?_⟩
    have g1 := b1 _ _ lm g0
    have b01 := b0.trans b1
    refine ⟨v, rfl, by omega, by omega, ?_⟩
    obtain ⟨t, rfl⟩ : ∃ t : Nat, v = t := ⟨v.toNat, by omega⟩
    rw [Int.toNat_natCast]
    refine for_it (walk_range (lo := 0) (n := t)) (fun i σ H' => ∃ ps vecs, (∃ y3 y4 y5 y6 y7, σ = [some (.ref m), some (.int d), some (.ref L), y3, y4, y5, y6, y7]) ∧ SameBut m H H' ∧ MOk H' m c (q + 1 + 12 * i) ∧ H' L = some (.lst (ps.map V.ref)) ∧ Rws H' ps vecs d ∧ vecs.length ≤ i ∧ ∀ v ∈ vecs, ∃ y ∈ v, y ≠ 0) ⟨[], [], ⟨_, _, _, _, _, rfl⟩, b01, M1, g1, ⟨rfl, fun i p r e => by cases e⟩, Nat.le_refl _, fun v hv => by cases hv⟩ (fun _ _ _ _ _ => True.intro) ?_ ?_
    · rintro i x σ H2 H3 hi ⟨ps, vecs, ⟨y3, y4, y5, y6, y7, rfl⟩, b2, M2, g2, R2, l2, z2⟩ ⟨rfl, rfl⟩
      refine ⟨.int d, rfl, (d : Int), rfl, by omega, by omega, fun D nD => ?_⟩
      rw [Int.toNat_natCast]
      refine lc_dr (w := 1) (q := q + 1 + 12 * i) (m := m) (c := c) (fun _ x => -4 ≤ x ∧ x ≤ 4) (small (by omega)) M2 nD ?_ ?_
      · intro j H4 Qy hj _ M' hQ
        exact ⟨rfl, .ref m, rfl, m, c, q + 1 + 12 * i + 1 * j, 9, rfl, M', by omega, by decide, by decide, fun H5 v b5 M5 v0 v1 => ⟨v, 4, rfl, rfl, hQ H5 _ b5 M5 ⟨by omega, by omega⟩⟩⟩
      intro H4 xs b4 M4 d4 l4 bd
      have bd := all_of_get bd
      obtain ⟨kv2, hm2⟩ := M2.m_some
      have nDL : D ≠ L := Ne.symm (ne_of_none g2 nD)
      have nDm : D ≠ m := Ne.symm (ne_of_none hm2 nD)
      have g4 := b4 _ _ lm g2
      have R4 := R2.but hm2 b4
      obtain ⟨kv4, hm2'⟩ := M4.m_some
      refine gname_ ?_
      dsimp only
      refine seq_ ?_
      refine tifs_rest (fun σ' H' => ∃ W ws y5 y6 y7, σ' = [some (.ref m), some (.int d), some (.ref L), some (.int (0 + i)), some (.ref W), y5, y6, y7] ∧ SameBut m H H' ∧ MOk H' m c (q + 1 + 12 * i + d + 2) ∧ H' W = some (.lst ((ws : List Int).map V.int)) ∧ ws.length = d ∧ (∀ x ∈ ws, -4 ≤ x ∧ x ≤ 4) ∧ H' L = some (.lst (ps.map V.ref)) ∧ Rws H' ps vecs d ∧ W ≠ L) ?_ ?_
      · rintro σ' H5 ⟨W, ws, y5, y6, y7, rfl, b5, M5, gW, lW, bW, gL, R5, nWL⟩
        refine ⟨.ref W, rfl, W, rfl, ⟨_, SqL.of gW⟩, fun E nE => ?_⟩
        refine lc_fl (walk_list (K := K) (a := W) (xs := ws.map V.int)) (fun i => decide (ws.getD i 0 ≠ 0)) (fun i => .int (ws.getD i 0)) (by rw [List.length_map]; exact small (by omega)) nE (fun H' s => SqL.of (s _ _ gW)) ?_ ?_
        · rintro j x H6 H6' Qy Nx hj s6 ⟨rfl, hx⟩ hk hnk
          obtain ⟨y, hy, rfl⟩ := map_get hx
          have ey : ws.getD j 0 = y := by
            rw [List.getD_eq_getElem?_getD, hy]
            rfl
          rw [ey] at hk hnk
          refine ⟨rfl, .int y, rfl, rfl, _, rfl, ite2 (fun h => ?_) (fun h => ?_)⟩
          · refine ⟨.int y, rfl, hk (decide_eq_true (fun z => ?_)) _ (Same.refl _)⟩
            rw [z] at h
            exact absurd h (by decide)
          · refine hnk (decide_eq_false (fun z => h ?_)) _ (Same.refl _)
            rw [decide_eq_false (fun e => z (V.int.inj e))]
            rfl
        · intro H6 s6 g6
          refine ⟨by show 0 ≤ sizeLine; decide, fun Z nZ => ?_⟩
          have s7 : Same H6 (upd H6 Z (.lst [])) := same_new nZ
          have g7 : upd H6 Z (.lst []) Z = some (.lst []) := upd_same
          have g6 := s7 _ _ g6
          generalize upd H6 Z (.lst []) = H7 at s7 g7 g6 ⊢
          have s57 := s6.trans s7
          have e6 : ((List.range (ws.map V.int).length).filter fun i => decide (ws.getD i 0 ≠ 0)).map (fun i => V.int (ws.getD i 0)) = (((List.range (ws.map V.int).length).filter fun i => decide (ws.getD i 0 ≠ 0)).map fun i => ws.getD i 0).map V.int := by
            rw [List.map_map]
            rfl
          rw [e6] at g6
          have kk : ∀ i, i ∈ (List.range (ws.map V.int).length).filter (fun i => decide (ws.getD i 0 ≠ 0)) → ∃ y ∈ ws, y ≠ 0 := fun i hi => by
            obtain ⟨h1, h2⟩ := List.mem_filter.mp hi
            have h1 := List.mem_range.mp h1
            rw [List.length_map] at h1
            refine ⟨ws.getD i 0, ?_, of_decide_eq_true h2⟩
            rw [List.getD_eq_getElem?_getD, List.getElem?_eq_getElem h1]
            exact List.getElem_mem h1
          generalize ((List.range (ws.map V.int).length).filter fun i => decide (ws.getD i 0 ≠ 0)) = kept at g6 kk
          refine ⟨.list ((kept.map fun i => ws.getD i 0).map PyData.int), .list [], .lst (SqL.of g6) (dp_ints _), .lst (SqL.of g7) .nil, shaped_ints _, by decide, _, rfl, ?_⟩
          have b7 := b5.trans (SameBut.of s57)
          have M7 := M5.same s57
          have gL7 := s57 _ _ gL
          have gW7 := s57 _ _ gW
          have R7 := R5.same s57
          cases kept with
          | nil => exact iteF' (by rfl) ⟨ps, vecs, ⟨_, _, _, _, _, rfl⟩, b7, M7.mono (by omega), gL7, R7, by omega, z2⟩
          | cons i0 l0 =>
            refine iteT' (by rfl) ⟨.ref L, rfl, .inl ⟨rfl, _, SqL.of gL7⟩, .ref W, rfl, W, _, rfl, .inl ⟨SqL.of gW7, fun T nT => ?_⟩⟩
            have s8 : Same H7 (upd H7 T (.tup (ws.map V.int))) := same_new nT
            have g8 : Tp (upd H7 T (.tup (ws.map V.int))) T (ws.map V.int) := upd_same
            generalize upd H7 T (.tup (ws.map V.int)) = H8 at s8 g8 ⊢
            have gL8 := s8 _ _ gL7
            have rT : Row H8 T ws := ⟨g8, by omega, fun x hx => by have := bW x hx; exact Nat.lt_of_le_of_lt (show x.natAbs ≤ 4 by omega) (by decide)⟩
            refine ⟨L, _, _, rfl, rfl, gL8, by rw [List.length_map, R5.1]; exact small (by omega), ps ++ [T], vecs ++ [ws], ⟨_, _, _, _, _, rfl⟩, sb_put nL (b7.trans (SameBut.of s8)), (((M7.same s8).put lm lc).mono (by omega)), ?_, ?_, by rw [List.length_append]; show vecs.length + 1 ≤ i + 1; omega, fun v hv => ?_⟩
            · rw [upd_same, List.map_append]
              rfl
            · exact ((R7.same s8).snoc rT lW).put gL8
            · rcases List.mem_append.mp hv with h | h
              · exact z2 v h
              · rw [List.mem_singleton] at h
                subst h
                exact kk i0 (List.mem_cons_self ..)
      · intro hQ
        refine ⟨.int d, rfl, _, _, rfl, rfl, _, rfl, ite2 (fun h => ?_) (fun h => ?_)⟩
        · have hd2 : 1 < d := by
            have := of_decide_eq_true h
            omega
          refine ⟨.ref m, rfl, m, c, q + 1 + 12 * i + 1 * d, 3, rfl, M4, by omega, by decide, by decide, fun H5 u b5 M5 u0 u1 => ⟨rfl, _, rfl, ite2 (fun h2 => ?_) (fun h2 => ?_)⟩⟩
          · refine ⟨.ref m, rfl, m, c, q + 1 + 12 * i + 1 * d + 1, 4, rfl, M5, by omega, by decide, by decide, fun H6 u' b6 M6 v0' v1' => ⟨1, u', rfl, rfl, ?_⟩⟩
            refine ⟨by show 1 ≤ sizeLine; decide, fun p1 np1 => ?_⟩
            have s7 : Same H6 (upd H6 p1 (.lst [.int 0])) := same_new np1
            have g7 : upd H6 p1 (.lst [.int 0]) p1 = some (.lst [.int 0]) := upd_same
            generalize upd H6 p1 (.lst [.int 0]) = H7 at s7 g7 ⊢
            refine ⟨.int d, rfl, p1, d, [.int 0], rfl, rfl, g7, by omega, by omega, Nat.le_of_lt (small (by show 1 * (d : Int).toNat ≤ 100; omega)), fun W nW => ?_⟩
            have e3 : (List.replicate (d : Int).toNat [V.int 0]).flatten = (List.replicate d (0 : Int)).map V.int := by
              rw [Int.toNat_natCast, flat1, List.map_replicate]
            rw [e3]
            have s8 : Same H7 (upd H7 W (.lst ((List.replicate d (0 : Int)).map V.int))) := same_new nW
            have g8 : upd H7 W (.lst ((List.replicate d (0 : Int)).map V.int)) W = some (.lst ((List.replicate d (0 : Int)).map V.int)) := upd_same
            have b68 : SameBut m H4 H7 := (b5.trans b6).trans (SameBut.of s7)
            have gL7 : H7 L = _ := b68 _ _ lm g4
            have nWL : W ≠ L := Ne.symm (ne_of_none gL7 nW)
            have M7 := M6.same s7
            obtain ⟨kv7, hm7⟩ := M7.m_some
            obtain ⟨ys7, hc7⟩ := M7.c_some
            have nWm : W ≠ m := Ne.symm (ne_of_none hm7 nW)
            have nWc : W ≠ c := Ne.symm (ne_of_none hc7 nW)
            have b8 : SameBut m H (upd H7 W (.lst ((List.replicate d (0 : Int)).map V.int))) := ((b2.trans b4).trans b68).trans (SameBut.of s8)
            have M8 := M7.same s8
            have R8 := (R4.but hm2' b68).same s8
            have gL8 := s8 _ _ gL7
            have nWH : H W = none := by
              cases hz : H W with
              | none => rfl
              | some o =>
                have h9 := ((b2.trans b4).trans b68) _ _ nWm hz
                rw [nW] at h9
                cases h9
            generalize upd H7 W (.lst ((List.replicate d (0 : Int)).map V.int)) = H8 at s8 g8 b8 M8 R8 gL8 ⊢
            refine ⟨.int (1 + u'), rfl, 1, rfl, by show 2 ≤ sizeLine; decide, fun p2 np2 => ?_⟩
            have s9 : Same H8 (upd H8 p2 (.tup [.int (1 + u'), .int (-1)])) := same_new np2
            have g9 : Tp (upd H8 p2 (.tup [.int (1 + u'), .int (-1)])) p2 [.int (1 + u'), .int (-1)] := upd_same
            generalize upd H8 p2 (.tup [.int (1 + u'), .int (-1)]) = H9 at s9 g9 ⊢
            have g8 := s9 _ _ g8
            have gL9 := s9 _ _ gL8
            have R9 := R8.same s9
            have M9 := M8.same s9
            have b9 := b8.trans (SameBut.of s9)
            have ix0 : ixN ((List.replicate d (0 : Int)).map V.int).length 0 = some 0 := by
              rw [List.length_map, List.length_replicate]
              unfold ixN
              rw [if_pos (by omega), if_pos (by omega)]
              rfl
            have ix1 : ixN (((List.replicate d (0 : Int)).map V.int).set 0 (.int (1 + u'))).length 1 = some 1 := by
              rw [List.length_set, List.length_map, List.length_replicate]
              unfold ixN
              rw [if_pos (by omega), if_pos (by omega)]
              rfl
            refine ⟨p2, _, rfl, g9.t, rfl, .int (1 + u'), [.int (-1)], rfl, .ref W, rfl, W, _, 0, 0, rfl, rfl, g8, ix0, .int (-1), [], rfl, .ref W, rfl, W, _, 1, 1, rfl, rfl, upd_same, ix1, rfl, ?_⟩
            refine hQ _ _ ⟨W, ((List.replicate d (0 : Int)).set 0 (1 + u')).set 1 (-1), _, _, _, rfl, sb_put nWH (sb_put nWH b9), ((M9.put nWm nWc).put nWm nWc).mono (by omega), ?_, ?_, ?_, ?_, (R9.put g8).put upd_same, nWL⟩
            · rw [upd_same, List.map_set, List.map_set]
            · rw [List.length_set, List.length_set, List.length_replicate]
            · intro x hx
              rcases List.mem_or_eq_of_mem_set hx with hx | rfl
              · rcases List.mem_or_eq_of_mem_set hx with hx | rfl
                · have := (List.mem_replicate.mp hx).2
                  omega
                · omega
              · omega
            · rw [upd_ne (Ne.symm nWL), upd_ne (Ne.symm nWL)]
              exact gL9
          · exact hQ _ _ ⟨D, xs, _, _, _, rfl, (b2.trans b4).trans b5, M5.mono (by omega), b5 _ _ nDm d4, l4, bd, b5 _ _ lm g4, R4.but hm2' b5, nDL⟩
        · exact iteF (hQ _ _ ⟨D, xs, _, _, _, rfl, b2.trans b4, M4.mono (by omega), d4, l4, bd, g4, R4, nDL⟩)
    · rintro σ H2 ⟨ps, vecs, ⟨y3, y4, y5, y6, y7, rfl⟩, b2, M2, g2, R2, l2, z2⟩
      refine ⟨.ref L, rfl, L, _, rfl, .inl ⟨SqL.of g2, fun T nT => ?_⟩⟩
      have s3 := same_new (o := .tup (ps.map V.ref)) nT
      exact k _ T ps vecs (b2.trans (SameBut.of s3)) ((M2.same s3).mono (by omega)) upd_same (R2.same s3) (by omega) z2
end
end K45
namespace K45
open PySem PySem.Spec PyProof.Rows L2 Vk
abbrev s_right : Stmt := topS 18
theorem sc_right : FnScope ["m", "d", "vectors", "n", "lam", "places", "turn", "some", "value_so", "due", "i", "v"] ["m"] (defScope s_right) := ⟨rfl, rfl, rfl, by decide +kernel, rfl, by decide +kernel, by decide +kernel⟩
def spRight : Sp := fun vs H Q _ => ∃ (m c : Addr) (q : Nat), vs = [.ref m] ∧ MOk H m c q ∧ q ≤ 20000 ∧ ∀ H', SameBut m H H' → MOk H' m c (q + 200) → Q (.bl true) H'
/-- a value that is no direction of d entries -/
def Bad (d : Nat) (m : Addr) (H : Hp) (x : V) : Prop := x ≠ .ref m ∧ ((∃ t, Oky H x t ∧ t ≠ "tuple") ∨ ∃ a xs, x = .ref a ∧ Tp H a xs ∧ xs.length ≤ 100 ∧ (∀ e ∈ xs, ∀ H', ∃ t, Oky H' e t) ∧ tupOk d xs = false)
theorem Bad.but {d : Nat} {m : Addr} {H H' : Hp} {x : V} (h : Bad d m H x) (s : SameBut m H H') : Bad d m H' x := by
  obtain ⟨n, ⟨t, h, ht⟩ | ⟨a, xs, rfl, ha, hl, hes, hk⟩⟩ := h
  · refine ⟨n, .inl ⟨t, ?_, ht⟩⟩
    cases h with
    | non => exact .non
    | bl b => exact .bl b
    | int i => exact .int i
    | str x => exact .str x
    | lst e => exact .lst (s _ _ (fun z => n (by rw [z])) e)
    | tup e => exact absurd rfl ht
    | dK e => exact .dK (s _ _ (fun z => n (by rw [z])) e)
  · exact ⟨n, .inr ⟨a, xs, rfl, s _ _ (fun z => n (by rw [z])) ha, hl, hes, hk⟩⟩
theorem Bad.same {d : Nat} {m : Addr} {H H' : Hp} {x : V} (h : Bad d m H x) (s : Same H H') : Bad d m H' x := h.but (SameBut.of s)
theorem Bad.spIs {d : Nat} {m vt : Addr} {H : Hp} {x : V} {ps : List Addr} {vecs : List (List Int)} {Q : VK} {E : XK} (h : Bad d m H x) (hd : d ≤ 100) (hv : Tp H vt (ps.map V.ref)) (hR : Rws H ps vecs d) (q : ∀ H', Same H H' → Q (.bl false) H') : spIsdir [x, .int d, .ref vt] H Q E := by
  refine ⟨x, d, vt, ps, vecs, rfl, hv, hR, hd, ?_⟩
  obtain ⟨n, ⟨t, h, ht⟩ | ⟨a, xs, rfl, ha, hl, hes, hk⟩⟩ := h
  · exact .inl ⟨t, h, ht, q⟩
  · exact .inr ⟨a, xs, rfl, ha, hl, fun e he => hes e he H, .inl ⟨hk, q⟩⟩
theorem Bad.tp {d : Nat} {m a : Addr} {H : Hp} {xs : List V} (hm : ∃ kvs, H m = some (.dK kvs)) (ha : Tp H a xs) (hl : xs.length ≤ 100) (h : ∀ e ∈ xs, ∀ H', ∃ t, Oky H' e t) (hk : tupOk d xs = false) : Bad d m H (.ref a) := by
  obtain ⟨kvs, hm⟩ := hm
  exact ⟨fun z => ne_of ha hm (by intro w; cases w) (V.ref.inj z), .inr ⟨a, xs, rfl, ha, hl, h, hk⟩⟩
theorem Bad.lst {d : Nat} {m a : Addr} {H : Hp} {xs : List V} (hm : ∃ kvs, H m = some (.dK kvs)) (ha : H a = some (.lst xs)) : Bad d m H (.ref a) := by
  obtain ⟨kvs, hm⟩ := hm
  exact ⟨fun z => ne_of ha hm (by intro w; cases w) (V.ref.inj z), .inl ⟨_, .lst ha, by decide⟩⟩
theorem tupOk_len {d : Nat} {xs : List V} (h : xs.length ≠ d) : tupOk d xs = false := by
  unfold tupOk
  rw [decide_eq_false h]
  rfl
theorem tupOk_odd {d : Nat} {xs : List V} {e : V} (he : e ∈ xs) (h : isInt e = false) : tupOk d xs = false := by
  unfold tupOk
  have : xs.all isInt = false := by
    rw [List.all_eq_false]
    exact ⟨e, he, by rw [h]; decide⟩
  rw [this, Bool.and_false]
theorem plainI {xs : List Int} : ∀ e ∈ xs.map V.int, ∀ H', ∃ t, Oky H' e t := fun e he H' => by
  obtain ⟨i, _, rfl⟩ := List.mem_map.mp he
  exact ⟨_, .int i⟩
/-- the kept vectors' data, and whether there are any -/
theorem kept_dp {K : PySem.W.Frag} {H : Hp} {ps : List Addr} {vecs : List (List Int)} {d : Nat} (hR : Rws H ps vecs d) : ∀ l : List Nat, (∀ i ∈ l, i < vecs.length) → DpAll K H (l.map fun i => (ps.map V.ref).getD i .non) (l.map fun i => dRow (vecs.getD i []))
  | [], _ => .nil
  | i :: l, hl => by
    have hi := hl i (List.mem_cons_self ..)
    have ip : i < ps.length := by
      rw [hR.1]
      exact hi
    have hvi : vecs[i]? = some (vecs.getD i []) := by
      rw [List.getD_eq_getElem?_getD, List.getElem?_eq_getElem hi]
      rfl
    refine .cons ?_ (kept_dp hR l fun j hj => hl j (List.mem_cons_of_mem _ hj))
    show Dp K H ((ps.map V.ref).getD i .non) (dRow (vecs.getD i []))
    rw [List.getD_eq_getElem?_getD, List.getElem?_map, List.getElem?_eq_getElem ip]
    exact dp_row (hR.2 i ps[i] _ (List.getElem?_eq_getElem ip) hvi).1.1
theorem kept_emp (p : List Int → Bool) (vecs : List (List Int)) : ((List.range vecs.length).filter fun i => p (vecs.getD i [])).isEmpty = vecs.all fun v => !p v := by
  rw [Bool.eq_iff_iff, List.all_eq_true, List.isEmpty_iff, List.filter_eq_nil_iff]
  constructor
  · intro h v hv
    obtain ⟨i, hi⟩ := List.getElem?_of_mem hv
    have il := (List.getElem?_eq_some_iff.mp hi).1
    have := h i (List.mem_range.mpr il)
    rw [List.getD_eq_getElem?_getD, hi] at this
    simpa using this
  · intro h i hi
    have hi := List.mem_range.mp hi
    have hm : vecs.getD i [] ∈ vecs := by
      rw [List.getD_eq_getElem?_getD, List.getElem?_eq_getElem hi]
      exact List.getElem_mem hi
    have := h _ hm
    simpa using this
section
variable {P : Program} {w : World} {K : PySem.W.Frag} {mg : Str → Option Value} {base : Heap}
theorem ok_right {f : Addr} {fd : FuncData} (F : Fun K "_law_right" "_law_right" s_right f fd) (C__law_draw : Cal P w K mg base 1 "_law_draw" ["m", "bound"] spDraw) (C__law_vectors : Cal P w K mg base 2 "_law_vectors" ["m", "d"] spVectors) (C__law_due : Cal P w K mg base 2 "_law_due" ["d", "vectors"] spDue) (C__law_powers : Cal P w K mg base 1 "_law_powers" ["n", "d"] spPowers)
    (C_direction : Cal P w K mg base 4 "direction" ["d", "vectors"] spDir) (C_uphill : Cal P w K mg base 2 "uphill" ["lam", "vectors"] spUp) (C_is_direction : Cal P w K mg base 3 "is_direction" ["value", "d", "vectors"] spIsdir) (C__law_times : Cal P w K mg base 1 "_law_times" ["lam", "vector"] spPsum) (C__law_of : Cal P w K mg base 2 "_law_of" ["m", "some"] spOf) (C__law_like : CalG P w K mg base 1 "_law_like" ["got", "due"] (spLike K))
    (m_tuple : mg "tuple" = none) (m_range : mg "range" = none) (m_len : mg "len" = none) (m_list : mg "list" = none) : FnG P w K mg base 5 f fd ["m"] spRight := by
  have sc := sc_right
  refine okG F sc (fun vs H Q E h => ?_) (fun cdv A outer s H vs Q E hG0 hr h => ?_)
  · obtain ⟨m, c, q, rfl, _⟩ := h
    rfl
  · obtain ⟨m, c, q, rfl, hM, hq, k⟩ := h
    have hG : Quiet (cxOf CX0 P w K mg base ["m", "d", "vectors", "n", "lam", "places", "turn", "some", "value_so", "due", "i", "v"] "_law_right" (defScope s_right) f cdv A outer s H E).nox.A := hG0.deeper _
    refine ⟨_, (pss_cons (ps_set (i := 1) sc.nd rfl (Or.inl rfl) (pe_op op_add pe_int (call_ C__law_draw (hr.mono (by decide)) (by rfl) (pa_cons (pv 0) (pa_cons pe_int pa_nil)))))
    (pss_cons (ps_set (i := 2) sc.nd rfl (Or.inr rfl) (call_ C__law_vectors (hr.mono (by decide)) (by rfl) (pa_cons (pv 0) (pa_cons (pv 1) pa_nil))))
    (pss_cons (ps_set (i := 3) sc.nd rfl (Or.inl rfl) (call_ C__law_due (hr.mono (by decide)) (by rfl) (pa_cons (pv 1) (pa_cons (pv 2) pa_nil))))
    (pss_cons (ps_set (i := 4) sc.nd rfl (Or.inr rfl) (call_ C__law_powers (hr.mono (by decide)) (by rfl) (pa_cons (pv 3) (pa_cons (pv 1) pa_nil))))
    (pss_cons (ps_if (PW.pt (pw_or (pt_not (pt_val (callG hG C__law_like (hr.mono (by decide)) (by rfl) (pa_cons (call_ C_direction (hr.mono (by decide)) (by rfl) (pa_cons (pv 1) (pa_cons (pv 2) pa_nil))) (pa_cons (pv 4) pa_nil))))) (pw_or1 (pt_cmpR op_gt (pv 3) (pe_op op_add (pe_op op_mulW (pe_op op_sub (pv 1) pe_int) (pe_callB call_len_seq (by rfl) m_len (by decide +kernel) (pa_cons (pv 2) pa_nil))) pe_int) (nomark _)))))
      (pss_one (ps_ret pe_bl))
      pss_nil)
    (pss_cons (ps_set (i := 5) sc.nd rfl (Or.inl rfl) (pe_callTy call_tuple_of (by rfl) m_tuple (by decide +kernel) (pa_cons (pe_lc (own := [("i", 10)]) (g := gName 10) (by rfl) sc.nd (pi_range1 rfl m_range (pa_cons (pe_callB call_len_seq (by rfl) m_len (by decide +kernel) (pa_cons (pv 2) pa_nil)) pa_nil)) (blkOk_by (own := [("i", 10)]) (N := ["m", "d", "vectors", "n", "lam", "places", "turn", "some", "value_so", "due", "i", "v"]) (sc := defScope s_right) (by decide +kernel)) (fun _ _ _ _ _ => pg_name (i := 10) sc.nd rfl (Or.inl rfl)) (fun _ _ _ _ _ => (pts_one (pt_cmpR op_gt (call_ C__law_times (hr.mono (by decide)) (by rfl) (pa_cons (pv 4) (pa_cons (pe_ix (ix_tupK (K := K) rfl) (pv 2) (pv 10) (fun _ _ => rfl)) pa_nil))) pe_int (nomark _)))) (fun _ _ _ _ _ => (pv 10))) pa_nil)))
    (pss_cons (ps_if (PW.pt (pw_or (pt_not (pt_val (callG hG C__law_like (hr.mono (by decide)) (by rfl) (pa_cons (call_ C_uphill (hr.mono (by decide)) (by rfl) (pa_cons (pv 4) (pa_cons (pv 2) pa_nil))) (pa_cons (pv 5) pa_nil))))) (pw_or1 (pt_cmpR op_isnot_bl (call_ C_is_direction (hr.mono (by decide)) (by rfl) (pa_cons (pv 4) (pa_cons (pv 1) (pa_cons (pv 2) pa_nil)))) pe_bl (nomark _)))))
      (pss_one (ps_ret pe_bl))
      pss_nil)
    (pss_cons (ps_for PassesOwn.never rfl (pi_range1 rfl m_range (pa_cons pe_int pa_nil)) (pg_name (i := 6) sc.nd rfl (Or.inl rfl))
      (pss_cons (ps_set (i := 8) sc.nd rfl (Or.inr rfl) (pe_callTy call_tuple_of (by rfl) m_tuple (by decide +kernel) (pa_cons (pe_lc (own := [("i", 10)]) (g := gName 10) (by rfl) sc.nd (pi_range1 rfl m_range (pa_cons (pv 1) pa_nil)) (blkOk_by (own := [("i", 10)]) (N := ["m", "d", "vectors", "n", "lam", "places", "turn", "some", "value_so", "due", "i", "v"]) (sc := defScope s_right) (by decide +kernel)) (fun _ _ _ _ _ => pg_name (i := 10) sc.nd rfl (Or.inl rfl)) (fun _ _ _ _ _ => pts_nil) (fun _ _ _ _ _ => (pe_op op_sub (call_ C__law_draw (hr.mono (by decide)) (by rfl) (pa_cons (pv 0) (pa_cons pe_int pa_nil))) pe_int))) pa_nil)))
    (pss_cons (ps_set (i := 9) sc.nd rfl (Or.inl rfl) (pe_cmpR (op_eqD hr.units) (pe_lc (own := [("v", 11)]) (g := gName 11) (by rfl) sc.nd (pi_tup (pv 2)) (blkOk_by (own := [("v", 11)]) (N := ["m", "d", "vectors", "n", "lam", "places", "turn", "some", "value_so", "due", "i", "v"]) (sc := defScope s_right) (by decide +kernel)) (fun _ _ _ _ _ => pg_name (i := 11) sc.nd rfl (Or.inl rfl)) (fun _ _ _ _ _ => (pts_one (pt_cmpR op_eq (call_ C__law_times (hr.mono (by decide)) (by rfl) (pa_cons (pv 8) (pa_cons (pv 11) pa_nil))) pe_int (nomark _)))) (fun _ _ _ _ _ => (pv 11))) (pe_lst pa_nil) (nomark _)))
    (pss_one (ps_if (pt_not (pt_val (callG hG C__law_like (hr.mono (by decide)) (by rfl) (pa_cons (call_ C_is_direction (hr.mono (by decide)) (by rfl) (pa_cons (pv 8) (pa_cons (pv 1) (pa_cons (pv 2) pa_nil)))) (pa_cons (pv 9) pa_nil)))))
      (pss_one (ps_ret pe_bl))
      pss_nil)))))
    (pss_cons (ps_set (i := 7) sc.nd rfl (Or.inl rfl) (pe_lst (pa_cons pe_non (pa_cons (pe_callTy call_list_of (by rfl) m_list (by decide +kernel) (pa_cons (pv 4) pa_nil)) (pa_cons (pe_op op_catA (pv 4) (pe_tup (pa_cons pe_int pa_nil))) (pa_cons (pe_slice sl_tupA (pv 4) (po_some pe_int) po_none) (pa_cons (pe_op op_catA (pe_tup (pa_cons pe_bl pa_nil)) (pe_slice sl_tupA (pv 4) (po_some pe_int) po_none)) (pa_cons (pe_op (op_tmsK (K := K) rfl) (pe_tup (pa_cons pe_non pa_nil)) (pv 1)) (pa_cons pe_str pa_nil)))))))))
    (pss_one (ps_ret (pe_cmpR op_is_bl (call_ C_is_direction (hr.mono (by decide)) (by rfl) (pa_cons (call_ C__law_of (hr.mono (by decide)) (by rfl) (pa_cons (pv 0) (pa_cons (pv 7) pa_nil))) (pa_cons (pv 1) (pa_cons (pv 2) pa_nil)))) pe_bl (nomark _))))))))))))), ?_⟩
    refine ⟨.ref m, rfl, m, c, q, 4, rfl, hM, by omega, by decide, by decide, fun H1 v b1 M1 v0 v1 => ⟨1, v, rfl, rfl, ?_⟩⟩
    obtain ⟨d, hd⟩ : ∃ d : Nat, (1 : Int) + v = d := ⟨(1 + v).toNat, by omega⟩
    dsimp only
    rw [hd]
    have hd1 : 1 ≤ d ∧ d ≤ 4 := by omega
    clear hd v0 v1
    refine ⟨.ref m, rfl, .int d, rfl, m, c, q + 1, d, rfl, M1, by omega, hd1.1, by omega, fun H2 vt ps vecs b2 M2 hv hR lv nz => ?_⟩
    have hrl := rws_len hR
    obtain ⟨n, hleast, hnb⟩ : ∃ n, Least vecs n ∧ n ≤ (d - 1) * vecs.length + 1 := by
      obtain ⟨i, hi, hg⟩ := good_ex (d := d) (vs := vecs) fun u hu => ⟨hrl u hu, nz u hu⟩
      obtain ⟨k', hk, hg', hb⟩ := least_ex (p := fun k => good vecs (k + 1)) i hg
      exact ⟨k' + 1, ⟨by omega, hg', fun j h1 h2 => by
        have := hb (j - 1) (by omega)
        rwa [Nat.sub_add_cancel h1] at this⟩, by omega⟩
    have hn : n ≤ 19 := by
      have h1 : (d - 1) * vecs.length ≤ 3 * 6 := Nat.mul_le_mul (by omega) lv
      omega
    have hgood := hleast.2.1
    refine ⟨.int d, rfl, .ref vt, rfl, d, vt, ps, vecs, n, rfl, by omega, hv, hR, by omega, hleast, by omega, fun H3 s3 => ?_⟩
    refine ⟨.int n, rfl, .int d, rfl, n, d, rfl, by omega, by omega, fun lam H4 s4 hlam => ?_⟩
    have s24 := s3.trans s4
    have hv4 := hv.same s24
    have hR4 := hR.same s24
    refine ⟨.int d, rfl, .ref vt, rfl, d, vt, ps, vecs, n, rfl, by omega, hv4, hR4, hleast, by omega, fun r5 H5 s5 R5 => ?_⟩
    have hlam := hlam.same s5
    have ll : (pows (n : Int) d).length = d := pows_len _ _
    have fitP : Fit (dRow (pows n d)) := (fit_ints (k := 0) 4 _ (pows_sm (by omega) (by omega)) (by omega)).mono (by decide) (by decide)
    refine ⟨.ref lam, rfl, .ref r5, .ref lam, dRow (pows n d), rfl, dp_row R5.1, dp_row hlam.1, fitP, _, rfl, iteF ?_⟩
    have hv5 := hv4.same s5
    have hR5 := hR4.same s5
    have sm : ∀ z : Nat, z ≤ 1000 → SmZ 300 (z : Int) := fun z hz => Nat.lt_of_le_of_lt (show (z : Int).natAbs ≤ 1000 by omega) (by decide)
    have lps : (ps.map V.ref).length = vecs.length := by rw [List.length_map, hR.1]
    have hbound : ¬ ((d : Int) - 1) * ((ps.map V.ref).length : Nat) + 1 < (n : Int) := by
      rw [lps]
      have e : ((d : Int) - 1) = ((d - 1 : Nat) : Int) := by omega
      rw [e, ← Int.natCast_mul]
      omega
    have zd1 : SmZ 300 ((d : Int) - 1) := by
      have e : ((d : Int) - 1) = ((d - 1 : Nat) : Int) := by omega
      rw [e]
      exact sm _ (by omega)
    refine ⟨.int n, rfl, .int d, rfl, d, 1, rfl, rfl, .ref vt, rfl, vt, _, rfl, .inr hv5.t, (d : Int) - 1, ((ps.map V.ref).length : Nat), rfl, rfl, Nat.lt_trans (wide zd1 (sm _ (by omega))) (by decide), _, 1, rfl, rfl, _, _, rfl, rfl, _, rfl, iteF' (decide_eq_false hbound) ?_⟩
    refine ⟨.ref vt, rfl, vt, _, rfl, .inr hv5.t, ((ps.map V.ref).length : Nat), rfl, by omega, by omega, fun D nD => ?_⟩
    rw [Int.toNat_natCast, lps]
    refine lc_fl (walk_range (lo := 0) (n := vecs.length)) (fun i => decide (0 < dot (pows n d) (vecs.getD i []))) (fun i => .int ((i : Nat) : Int)) (small (by omega)) nD (fun _ _ => True.intro) ?_ ?_
    · rintro i x H6 H6' Qy Nx hi s6 ⟨rfl, rfl⟩ hk hnk
      have hvi : vecs[i]? = some (vecs.getD i []) := by
        rw [List.getD_eq_getElem?_getD, List.getElem?_eq_getElem hi]
        rfl
      have ip : i < ps.length := by
        rw [hR.1]
        exact hi
      obtain ⟨Rp, lv'⟩ := hR5.2 i ps[i] _ (List.getElem?_eq_getElem ip) hvi
      have hx : (ps.map V.ref)[i]? = some (.ref ps[i]) := by
        rw [List.getElem?_map, List.getElem?_eq_getElem ip]
        rfl
      generalize ps[i] = p at Rp hx
      refine ⟨rfl, .ref lam, rfl, .ref vt, rfl, .int (0 + i), rfl, vt, _, (0 + i : Int), .ref p, rfl, rfl, (hv5.same s6).t, atI_at (i := i) (by omega) hx, lam, p, pows n d, _, rfl, hlam.same s6, Rp.same s6, by omega, fun H7 s7 => ⟨_, _, rfl, rfl, _, rfl, ite2 (fun h => ?_) (fun h => ?_)⟩⟩
      · have e0 : (0 : Int) + (i : Nat) = i := Int.zero_add _
        have k7 := hk (decide_eq_true (of_decide_eq_true h)) _ s7
        rw [← e0] at k7
        exact ⟨_, rfl, k7⟩
      · exact hnk (decide_eq_false fun z => h (decide_eq_true z)) _ s7
    intro H6 s6 g6
    refine ⟨D, _, rfl, .inl ⟨SqL.of g6, fun T nT => ?_⟩⟩
    have eT : ((List.range vecs.length).filter fun i => decide (0 < dot (pows n d) (vecs.getD i []))).map (fun i => V.int ((i : Nat) : Int)) = (upI (pows n d) vecs).map V.int := by
      unfold upI
      rw [List.map_map]
      rfl
    rw [eT]
    have s7 : Same H6 (upd H6 T (.tup ((upI (pows n d) vecs).map V.int))) := same_new nT
    have g7 : Tp (upd H6 T (.tup ((upI (pows n d) vecs).map V.int))) T ((upI (pows n d) vecs).map V.int) := upd_same
    generalize upd H6 T (.tup ((upI (pows n d) vecs).map V.int)) = H7 at s7 g7 ⊢
    have s57 := s6.trans s7
    have hlam := hlam.same s57
    have hv7 := hv5.same s57
    have hR7 := hR5.same s57
    have lup : (upI (pows n d) vecs).length ≤ 6 ∧ ∀ x ∈ upI (pows n d) vecs, SmZ 300 x := by
      unfold upI
      constructor
      · rw [List.length_map]
        refine Nat.le_trans (List.length_filter_le _ _) ?_
        rw [List.length_range]
        exact lv
      · intro x hx
        obtain ⟨i, hi, rfl⟩ := List.mem_map.mp hx
        have := List.mem_range.mp (List.mem_filter.mp hi).1
        exact sm i (by omega)
    refine ⟨.ref lam, rfl, .ref vt, rfl, lam, vt, ps, vecs, pows n d, rfl, hlam, hv7, by rw [ll]; exact hR7, by omega, fun r8 H8 s8 g8 => ?_⟩
    have g7' := g7.same s8
    refine ⟨.ref T, rfl, .ref r8, .ref T, dRow (upI (pows n d) vecs), rfl, dp_row g8, dp_row g7', (fit_ints (k := 0) 6 _ lup.2 lup.1).mono (by decide) (by decide), _, rfl, iteF ?_⟩
    have hlam := hlam.same s8
    have hv8 := hv7.same s8
    have hR8 := hR7.same s8
    refine ⟨.ref lam, rfl, .int d, rfl, .ref vt, rfl, .ref lam, d, vt, ps, vecs, rfl, hv8, hR8, by omega, .inr ⟨lam, _, rfl, hlam.1, by rw [List.length_map, ll]; omega, fun e he => plainI e he H8, .inr ⟨pows n d, rfl, ll, pows_sm (by omega) (by omega), fun H9 s9 => ?_⟩⟩⟩
    rw [isdir_good hrl, hgood]
    refine ⟨true, true, rfl, rfl, _, rfl, iteF' (by rfl) ?_⟩
    have hlam := hlam.same s9
    have hv9 := hv8.same s9
    have hR9 := hR8.same s9
    have s29 := (((s24.trans s5).trans s57).trans s8).trans s9
    have M9 := M2.same s29
    have b9 := (b1.trans b2).trans (SameBut.of s29)
    obtain ⟨kv9, hm9⟩ := M9.m_some
    refine ⟨4, rfl, by decide, by decide, for_range (lo := 0) (n := 4) (fun i σ H' => (∃ y6 y7 y8 y9 y10 y11, σ = [some (.ref m), some (.int d), some (.ref vt), some (.int n), some (.ref lam), some (.ref T), y6, y7, y8, y9, y10, y11]) ∧ SameBut m H9 H' ∧ MOk H' m c (q + 101 + 4 * i)) ⟨⟨_, _, _, _, _, _, rfl⟩, SameBut.refl _ _, M9⟩ ?_ ?_⟩
    · rintro i σ H10 hi ⟨⟨y6, y7, y8, y9, y10, y11, rfl⟩, b10, M10⟩
      refine ⟨.int d, rfl, (d : Int), rfl, by omega, by omega, fun E nE => ?_⟩
      rw [Int.toNat_natCast]
      refine lc_dr (w := 1) (q := q + 101 + 4 * i) (m := m) (c := c) (fun _ x => -3 ≤ x ∧ x ≤ 3) (small (by omega)) M10 nE ?_ ?_
      · intro j H4 Qy hj _ M' hQ
        exact ⟨rfl, .ref m, rfl, m, c, q + 101 + 4 * i + 1 * j, 7, rfl, M', by omega, by decide, by decide, fun H5 v b5 M5 v0 v1 => ⟨v, 3, rfl, rfl, hQ H5 _ b5 M5 ⟨by omega, by omega⟩⟩⟩
      intro H11 xs b11 M11 d11 l11 bd
      have bd := all_of_get bd
      refine ⟨E, _, rfl, .inl ⟨SqL.of d11, fun X nX => ?_⟩⟩
      have s12 : Same H11 (upd H11 X (.tup (xs.map V.int))) := same_new nX
      have g12 : Tp (upd H11 X (.tup (xs.map V.int))) X (xs.map V.int) := upd_same
      generalize upd H11 X (.tup (xs.map V.int)) = H12 at s12 g12 ⊢
      have b12 := (b10.trans b11).trans (SameBut.of s12)
      have M12 := M11.same s12
      have hv12 := hv9.but hm9 b12
      have hR12 := hR9.but hm9 b12
      have zx : ∀ x ∈ xs, SmZ 300 x := fun x hx => by
        have := bd x hx
        exact Nat.lt_of_le_of_lt (show x.natAbs ≤ 3 by omega) (by decide)
      refine ⟨.ref vt, rfl, vt, rfl, ⟨_, hv12.t⟩, fun G nG => ?_⟩
      refine lc_fl (walk_tup (K := K) (a := vt) (xs := ps.map V.ref)) (fun i => decide (dot xs (vecs.getD i []) = 0)) (fun i => (ps.map V.ref).getD i .non) (by rw [lps]; exact small (by omega)) nG (fun H' s => (hv12.same s).t) ?_ ?_
      · rintro j x H0 H0' Qy Nx hj s0 ⟨rfl, hx⟩ hk hnk
        have hx0 : (ps.map V.ref).getD j .non = x := by
          rw [List.getD_eq_getElem?_getD, hx]
          rfl
        obtain ⟨p, hp, rfl⟩ := map_get hx
        have hj' : j < vecs.length := by omega
        have hvi : vecs[j]? = some (vecs.getD j []) := by
          rw [List.getD_eq_getElem?_getD, List.getElem?_eq_getElem hj']
          rfl
        generalize vecs.getD j [] = u at hvi hk hnk
        obtain ⟨Rp, lu⟩ := hR12.2 j p _ hp hvi
        refine ⟨rfl, .ref X, rfl, .ref p, rfl, X, p, xs, u, rfl, ⟨g12.same s0, by omega, zx⟩, Rp.same s0, by omega, fun H3 s3 => ⟨rfl, _, rfl, ite2 (fun h => ?_) (fun h => ?_)⟩⟩
        · exact ⟨.ref p, rfl, by rw [← hx0]; exact hk (decide_eq_true (V.int.inj (of_decide_eq_true h))) _ s3⟩
        · exact hnk (decide_eq_false fun z => h (decide_eq_true (by rw [z]))) _ s3
      · intro H13 s13 g13
        rw [lps] at g13
        refine ⟨by show 0 ≤ sizeLine; decide, fun Z nZ => ?_⟩
        have s14 : Same H13 (upd H13 Z (.lst [])) := same_new nZ
        have g14 : upd H13 Z (.lst []) Z = some (.lst []) := upd_same
        have g13 := s14 _ _ g13
        generalize upd H13 Z (.lst []) = H14 at s14 g14 g13 ⊢
        have s1214 := s13.trans s14
        have dpl := kept_dp (K := K) (hR12.same s1214) ((List.range vecs.length).filter fun i => decide (dot xs (vecs.getD i []) = 0)) (fun i hi => List.mem_range.mp (List.mem_filter.mp hi).1)
        have emp : ((List.range vecs.length).filter fun i => decide (dot xs (vecs.getD i []) = 0)).isEmpty = isdirI xs vecs := by
          rw [kept_emp (fun v => decide (dot xs v = 0))]
          unfold isdirI
          congr 1
          funext v
          by_cases h : dot xs v = 0 <;> simp [h]
        generalize ((List.range vecs.length).filter fun i => decide (dot xs (vecs.getD i []) = 0)) = kept at g13 dpl emp
        have shp : SeqAt.shaped (.list (kept.map fun i => dRow (vecs.getD i []))) = true := by
          have h := (shaped_rows (kept.map fun i => vecs.getD i [])).1
          rw [List.map_map] at h
          exact h
        have eqe : PyData.eqv (.list (kept.map fun i => dRow (vecs.getD i []))) (.list []) = isdirI xs vecs := by
          rw [← emp]
          cases kept with
          | nil => rfl
          | cons a l => rfl
        refine ⟨.list (kept.map fun i => dRow (vecs.getD i [])), .list [], .lst (SqL.of g13) dpl, .lst (SqL.of g14) .nil, shp, by decide, ?_⟩
        rw [eqe]
        refine ⟨.ref X, rfl, .int d, rfl, .ref vt, rfl, .ref X, d, vt, ps, vecs, rfl, hv12.same s1214, hR12.same s1214, by omega, .inr ⟨X, _, rfl, g12.same s1214, by rw [List.length_map]; omega, fun e he => plainI e he H14, .inr ⟨xs, rfl, by omega, zx, fun H15 s15 => ?_⟩⟩⟩
        refine ⟨.bl (isdirI xs vecs), rfl, .bl (isdirI xs vecs), .bl (isdirI xs vecs), .bool (isdirI xs vecs), rfl, .bl _, .bl _, FitN.bl _, _, rfl, iteF ?_⟩
        exact ⟨⟨_, _, _, _, _, _, rfl⟩, b12.trans (SameBut.of (s1214.trans s15)), ((M12.same s1214).same s15).mono (by omega)⟩
    · rintro σ H10 ⟨⟨y6, y7, y8, y9, y10, y11, rfl⟩, b10, M10⟩
      have M10 : MOk H10 m c (q + 117) := M10
      have hlam := hlam.but hm9 b10
      have hv10 := hv9.but hm9 b10
      have hR10 := hR9.but hm9 b10
      have b10 := b9.trans b10
      obtain ⟨kv10, hm10⟩ := M10.m_some
      have mm : ∀ {H' : Hp}, Same H10 H' → ∃ kvs, H' m = some (.dK kvs) := fun s => ⟨_, s _ _ hm10⟩
      obtain ⟨e, rfl⟩ : ∃ e, d = e + 1 := ⟨d - 1, by omega⟩
      have el : (pows (n : Int) (e + 1)).map V.int = .int 1 :: ((pows (n : Int) e).map ((n : Int) * ·)).map V.int := rfl
      have lt' : (((pows (n : Int) e).map ((n : Int) * ·)).map V.int).length = e := by rw [List.length_map, List.length_map, pows_len]
      refine ⟨.ref lam, rfl, lam, _, rfl, .inr hlam.1.t, fun p1 n1 => ?_⟩
      have s1 : Same H10 (upd H10 p1 (.lst ((pows (n : Int) (e + 1)).map V.int))) := same_new n1
      have K1 : Bad (e + 1) m (upd H10 p1 (.lst ((pows (n : Int) (e + 1)).map V.int))) (.ref p1) := Bad.lst (mm s1) upd_same
      generalize upd H10 p1 (.lst ((pows (n : Int) (e + 1)).map V.int)) = G1 at s1 K1 ⊢
      refine ⟨.ref lam, rfl, by show 1 ≤ sizeLine; decide, fun p2 n2 => ?_⟩
      have s2 : Same G1 (upd G1 p2 (.tup [.int 0])) := same_new n2
      have g2 : Tp (upd G1 p2 (.tup [.int 0])) p2 [.int 0] := upd_same
      generalize upd G1 p2 (.tup [.int 0]) = G2 at s2 g2 ⊢
      have t2 := s1.trans s2
      refine cat_tp (hlam.1.same t2) g2 (by rw [List.length_map, ll]; exact Nat.le_of_lt (small (by show e + 1 + 1 ≤ 100; omega))) fun p3 G3 s3 g3 => ?_
      have t3 := t2.trans s3
      have K3 : Bad (e + 1) m G3 (.ref p3) := Bad.tp (mm t3) g3 (by rw [List.length_append, List.length_map, ll]; show e + 1 + 1 ≤ 100; omega) (fun x hx H' => by
        rcases List.mem_append.mp hx with hx | hx
        · exact plainI x hx H'
        · rw [List.mem_singleton] at hx
          subst hx
          exact ⟨_, .int 0⟩) (tupOk_len (by rw [List.length_append, List.length_map, ll]; show e + 1 + 1 ≠ e + 1; omega))
      refine ⟨.ref lam, rfl, 1, rfl, ?_⟩
      unfold tNoPart
      refine slice_tp (hlam.1.same t3) fun p4 G4 s4 g4 => ?_
      rw [el, cut1] at g4
      have t4 := t3.trans s4
      have K4 : Bad (e + 1) m G4 (.ref p4) := Bad.tp (mm t4) g4 (by rw [lt']; omega) (fun x hx H' => plainI x hx H') (tupOk_len (by rw [lt']; omega))
      refine ⟨by show 1 ≤ sizeLine; decide, fun p5 n5 => ?_⟩
      have s5 : Same G4 (upd G4 p5 (.tup [.bl true])) := same_new n5
      have g5 : Tp (upd G4 p5 (.tup [.bl true])) p5 [.bl true] := upd_same
      generalize upd G4 p5 (.tup [.bl true]) = G5 at s5 g5 ⊢
      have t5 := t4.trans s5
      refine ⟨.ref lam, rfl, 1, rfl, ?_⟩
      refine slice_tp (hlam.1.same t5) fun p6 G6 s6 g6 => ?_
      rw [el, cut1] at g6
      have t6 := t5.trans s6
      refine cat_tp (g5.same s6) g6 (by rw [lt']; exact Nat.le_of_lt (small (by show 1 + e ≤ 100; omega))) fun p7 G7 s7 g7 => ?_
      have t7 := t6.trans s7
      have K7 : Bad (e + 1) m G7 (.ref p7) := Bad.tp (mm t7) g7 (by rw [List.length_append, lt']; show 1 + e ≤ 100; omega) (fun x hx H' => by
        rcases List.mem_append.mp hx with hx | hx
        · rw [List.mem_singleton] at hx
          subst hx
          exact ⟨_, .bl true⟩
        · exact plainI x hx H') (tupOk_odd (List.mem_append_left _ (List.mem_singleton.mpr rfl)) rfl)
      refine ⟨by show 1 ≤ sizeLine; decide, fun p8 n8 => ?_⟩
      have s8 : Same G7 (upd G7 p8 (.tup [.non])) := same_new n8
      have g8 : Tp (upd G7 p8 (.tup [.non])) p8 [.non] := upd_same
      generalize upd G7 p8 (.tup [.non]) = G8 at s8 g8 ⊢
      have t8 := t7.trans s8
      refine ⟨.int ((e + 1 : Nat) : Int), rfl, ?_⟩
      refine tms_tp (k := e + 1) rfl g8 (by simp) (by omega) (by decide) fun p9 G9 s9 g9 => ?_
      rw [flat1] at g9
      have t9 := t8.trans s9
      have K9 : Bad (e + 1) m G9 (.ref p9) := Bad.tp (mm t9) g9 (by rw [List.length_replicate]; omega) (fun x hx H' => by
        have := (List.mem_replicate.mp hx).2
        subst this
        exact ⟨_, .non⟩) (tupOk_odd (e := .non) (List.mem_replicate.mpr ⟨by omega, rfl⟩) rfl)
      refine ⟨by show 7 ≤ sizeLine; decide, fun S nS => ?_⟩
      have s10 : Same G9 (upd G9 S (.lst [.non, .ref p1, .ref p3, .ref p4, .ref p7, .ref p9, .str "1"])) := same_new nS
      have g10 : upd G9 S (.lst [.non, .ref p1, .ref p3, .ref p4, .ref p7, .ref p9, .str "1"]) S = some (.lst [.non, .ref p1, .ref p3, .ref p4, .ref p7, .ref p9, .str "1"]) := upd_same
      generalize upd G9 S (.lst [.non, .ref p1, .ref p3, .ref p4, .ref p7, .ref p9, .str "1"]) = G10 at s10 g10 ⊢
      have t10 := t9.trans s10
      have u1 : Same G1 G10 := ((((((s2.trans s3).trans s4).trans s5).trans s6).trans s7).trans s8).trans (s9.trans s10)
      have u3 : Same G3 G10 := (((((s4.trans s5).trans s6).trans s7).trans s8).trans s9).trans s10
      have u4 : Same G4 G10 := ((((s5.trans s6).trans s7).trans s8).trans s9).trans s10
      have u7 : Same G7 G10 := (s8.trans s9).trans s10
      have KA : ∀ x ∈ [V.non, .ref p1, .ref p3, .ref p4, .ref p7, .ref p9, .str "1"], Bad (e + 1) m G10 x := fun x hx => by
        rcases List.mem_cons.mp hx with rfl | hx
        · exact ⟨(fun z => by cases z), .inl ⟨_, .non, by decide⟩⟩
        rcases List.mem_cons.mp hx with rfl | hx
        · exact K1.same u1
        rcases List.mem_cons.mp hx with rfl | hx
        · exact K3.same u3
        rcases List.mem_cons.mp hx with rfl | hx
        · exact K4.same u4
        rcases List.mem_cons.mp hx with rfl | hx
        · exact K7.same u7
        rcases List.mem_cons.mp hx with rfl | hx
        · exact K9.same s10
        rcases List.mem_cons.mp hx with rfl | hx
        · exact ⟨(fun z => by cases z), .inl ⟨_, .str _, by decide⟩⟩
        · cases hx
      have M20 := M10.same t10
      obtain ⟨kv20, hm20⟩ := M20.m_some
      refine ⟨.ref m, rfl, .ref S, rfl, m, c, S, q + 117, _, rfl, M20, by omega, g10, by show 0 < 7; decide, by show 7 ≤ 100; decide, fun G11 v b11 M11 hv => ?_⟩
      refine ⟨.int ((e + 1 : Nat) : Int), rfl, .ref vt, rfl, ?_⟩
      unfold tNil
      refine ((KA v hv).but b11).spIs (by omega) ((hv10.same t10).but hm20 b11) ((hR10.same t10).but hm20 b11) fun G12 s12 => ?_
      refine ⟨false, false, rfl, rfl, ?_⟩
      rw [decide_eq_true rfl]
      exact k _ ((b10.trans (SameBut.of t10)).trans (b11.trans (SameBut.of s12))) ((M11.same s12).mono (by omega))
end
end K45
namespace K45
open PySem PySem.Spec PyProof.Rows L2 Vk
abbrev s_law : Stmt := topS 19
theorem sc_law : FnScope ["script", "k", "told", "m"] ["script"] (defScope s_law) := ⟨rfl, rfl, rfl, by decide +kernel, rfl, by decide +kernel, by decide +kernel⟩
def spLaw (K : PySem.W.Frag) : Sp := fun vs H Q _ => ∃ (a : Addr) (ns : List Int), vs = [.ref a] ∧ SqL K H a (ns.map V.int) ∧ ns.length ≤ 63 ∧ ∀ H', Q (.bl true) H'
theorem rws_nil {H : Hp} {n : Nat} : Rws H [] [] n := ⟨rfl, fun i p r e => by cases e⟩
theorem least_nil : Least [] 1 := ⟨Nat.le_refl _, rfl, fun j h1 h2 => absurd h1 (by omega)⟩
theorem least_four : Least [[1, -1], [2, -1], [3, -1], [-5, 1]] 4 := ⟨by decide, by decide, fun j h1 h2 => by
  match j, h1, h2 with
  | 1, _, _ => decide
  | 2, _, _ => decide
  | 3, _, _ => decide⟩
theorem fitR (xs : List Int) (hl : xs.length ≤ 4) (h : ∀ x ∈ xs, SmZ 300 x) : FitN 1 4 (dRow xs) := fit_ints (k := 0) 4 xs h hl
section
variable {P : Program} {w : World} {K : PySem.W.Frag} {mg : Str → Option Value} {base : Heap}
theorem ok_law {f : Addr} {fd : FuncData} (F : Fun K "law" "law" s_law f fd) (C__law_begun : Cal P w K mg base 1 "_law_begun" ["script", "k"] (spBegun K)) (C__law_right : CalG P w K mg base 5 "_law_right" ["m"] spRight) (C_direction : Cal P w K mg base 4 "direction" ["d", "vectors"] spDir) (C_is_direction : Cal P w K mg base 3 "is_direction" ["value", "d", "vectors"] spIsdir)
    (C__law_like : CalG P w K mg base 1 "_law_like" ["got", "due"] (spLike K)) (m_range : mg "range" = none) (m_max : mg "max" = none) (m_min : mg "min" = none) (m_len : mg "len" = none) : FnG P w K mg base 6 f fd ["script"] (spLaw K) := by
  have sc := sc_law
  refine okG F sc (fun vs H Q E h => ?_) (fun cdv A outer s H vs Q E hG0 hr h => ?_)
  · obtain ⟨a, ns, rfl, _⟩ := h
    rfl
  · obtain ⟨a0, ns, rfl, hS, hl, k⟩ := h
    have hG := hG0.deeper (envOfC "law" (defScope s_law) s.heap.objs.size f cdv)
    refine ⟨_, (pss_cons (ps_for PassesOwn.never rfl (pi_range1 rfl m_range (pa_cons (pe_callB (call_max2 rfl) (by rfl) m_max (by decide +kernel) (pa_cons pe_int (pa_cons (pe_callB (call_min2 rfl) (by rfl) m_min (by decide +kernel) (pa_cons (pe_callB call_len_seq (by rfl) m_len (by decide +kernel) (pa_cons (pv 0) pa_nil)) (pa_cons pe_int pa_nil))) pa_nil))) pa_nil)) (pg_name (i := 1) sc.nd rfl (Or.inl rfl))
      (pss_cons (ps_set (i := 3) sc.nd rfl (Or.inl rfl) (call_ C__law_begun (hr.mono (by decide)) (by rfl) (pa_cons (pv 0) (pa_cons (pv 1) pa_nil))))
    (pss_one (ps_if (PW.pt (pw_or (pt_not (pt_val (callG hG C__law_right (hr.mono (by decide)) (by rfl) (pa_cons (pv 3) pa_nil)))) (pw_or1 (pt_not (pt_val (callG hG C__law_right (hr.mono (by decide)) (by rfl) (pa_cons (pv 3) pa_nil)))))))
      (pss_one (ps_ret pe_bl))
      pss_nil))))
    (pss_cons (ps_set (i := 2) sc.nd rfl (Or.inl rfl) (pe_lst (pa_cons (call_ C_direction (hr.mono (by decide)) (by rfl) (pa_cons pe_int (pa_cons (pe_tup pa_nil) pa_nil))) (pa_cons (call_ C_direction (hr.mono (by decide)) (by rfl) (pa_cons pe_int (pa_cons (pe_tup pa_nil) pa_nil))) (pa_cons (call_ C_direction (hr.mono (by decide)) (by rfl) (pa_cons pe_int (pa_cons (pe_tup (pa_cons (pe_tup (pa_cons pe_int (pa_cons (pe_un un_neg pe_int) pa_nil))) (pa_cons (pe_tup (pa_cons pe_int (pa_cons (pe_un un_neg pe_int) pa_nil))) (pa_cons (pe_tup (pa_cons pe_int (pa_cons (pe_un un_neg pe_int) pa_nil))) (pa_cons (pe_tup (pa_cons (pe_un un_neg pe_int) (pa_cons pe_int pa_nil))) pa_nil))))) pa_nil))) pa_nil)))))
    (pss_cons (ps_if (pt_not (pt_val (callG hG C__law_like (hr.mono (by decide)) (by rfl) (pa_cons (pv 2) (pa_cons (pe_lst (pa_cons (pe_tup (pa_cons pe_int (pa_cons pe_int (pa_cons pe_int pa_nil)))) (pa_cons (pe_tup pa_nil) (pa_cons (pe_tup (pa_cons pe_int (pa_cons pe_int pa_nil))) pa_nil)))) pa_nil)))))
      (pss_one (ps_ret pe_bl))
      pss_nil)
    (pss_one (ps_ret (pe_cmpR (op_eqD hr.units) (pe_lst (pa_cons (call_ C_is_direction (hr.mono (by decide)) (by rfl) (pa_cons (pe_tup pa_nil) (pa_cons pe_int (pa_cons (pe_tup pa_nil) pa_nil)))) (pa_cons (call_ C_is_direction (hr.mono (by decide)) (by rfl) (pa_cons (pe_tup (pa_cons pe_int pa_nil)) (pa_cons pe_int (pa_cons (pe_tup pa_nil) pa_nil)))) (pa_cons (call_ C_is_direction (hr.mono (by decide)) (by rfl) (pa_cons (pe_tup (pa_cons pe_int pa_nil)) (pa_cons pe_int (pa_cons (pe_tup (pa_cons (pe_tup (pa_cons pe_int pa_nil)) pa_nil)) pa_nil)))) pa_nil)))) (pe_lst (pa_cons pe_bl (pa_cons pe_bl (pa_cons pe_bl pa_nil)))) (nomark _))))))), ?_⟩
    obtain ⟨j, hj, j0, j1⟩ : ∃ j : Int, j = (if (if (8 : Int) < ((ns.map V.int).length : Int) then 8 else ((ns.map V.int).length : Int)) > 4 then (if (8 : Int) < ((ns.map V.int).length : Int) then 8 else ((ns.map V.int).length : Int)) else 4) ∧ 0 ≤ j ∧ j ≤ 8 := ⟨_, rfl, by split <;> split <;> omega, by split <;> split <;> omega⟩
    refine ⟨.ref a0, rfl, a0, _, rfl, .inl hS, _, 8, rfl, 4, _, rfl, j, by rw [hj], by omega, by omega, ?_⟩
    clear hj
    refine for_range (lo := 0) (n := j.toNat) (fun i σ H' => (∃ y1 y2 y3, σ = [some (.ref a0), y1, y2, y3]) ∧ SqL K H' a0 (ns.map V.int)) ⟨⟨none, none, none, rfl⟩, hS⟩ ?_ ?_
    · rintro i σ H0 hi ⟨⟨y1, y2, y3, rfl⟩, hS0⟩
      refine ⟨.ref a0, rfl, .int (0 + i), rfl, a0, 0 + i, ns, rfl, hS0, hl, by omega, by omega, fun H1 m cc s1 nm M1 => ?_⟩
      refine ⟨.ref m, rfl, m, cc, 0, rfl, M1, by decide, fun H2 b2 M2 => ⟨_, rfl, iteF ?_⟩⟩
      refine ⟨.ref m, rfl, m, cc, 0 + 200, rfl, M2, by decide, fun H3 b3 M3 => ⟨_, rfl, iteF ?_⟩⟩
      exact ⟨⟨_, _, _, rfl⟩, sql_same hS0 (sm_but nm s1 (b2.trans b3))⟩
    · rintro σ H0 ⟨⟨y1, y2, y3, rfl⟩, hS0⟩
      clear hS hS0
      refine ⟨by show 0 ≤ sizeLine; decide, fun e1 n1 => ?_⟩
      have g1 : Tp (upd H0 e1 (.tup [])) e1 (([] : List Addr).map V.ref) := upd_same
      generalize upd H0 e1 (.tup []) = H1 at g1 ⊢
      refine ⟨3, e1, [], [], 1, rfl, by decide, g1, rws_nil, least_nil, by decide, fun r1 H2 s2 R1 => ?_⟩
      have R1 : Row H2 r1 [1, 1, 1] := R1
      refine ⟨by show 0 ≤ sizeLine; decide, fun e2 n2 => ?_⟩
      have s3 : Same H2 (upd H2 e2 (.tup [])) := same_new n2
      have g3 : Tp (upd H2 e2 (.tup [])) e2 (([] : List Addr).map V.ref) := upd_same
      generalize upd H2 e2 (.tup []) = H3 at s3 g3 ⊢
      refine ⟨0, e2, [], [], 1, rfl, by decide, g3, rws_nil, least_nil, by decide, fun r2 H4 s4 R2 => ?_⟩
      have R2 : Row H4 r2 [] := R2
      have R1 := R1.same (s3.trans s4)
      refine ⟨1, rfl, by show 2 ≤ sizeLine; decide, fun p1 np1 => ?_⟩
      have s5 : Same H4 (upd H4 p1 (.tup [.int 1, .int (-1)])) := same_new np1
      have g5 : Tp (upd H4 p1 (.tup [.int 1, .int (-1)])) p1 ([(1 : Int), -1].map V.int) := upd_same
      generalize upd H4 p1 (.tup [.int 1, .int (-1)]) = H5 at s5 g5 ⊢
      refine ⟨1, rfl, by show 2 ≤ sizeLine; decide, fun p2 np2 => ?_⟩
      have s6 : Same H5 (upd H5 p2 (.tup [.int 2, .int (-1)])) := same_new np2
      have g6 : Tp (upd H5 p2 (.tup [.int 2, .int (-1)])) p2 ([(2 : Int), -1].map V.int) := upd_same
      generalize upd H5 p2 (.tup [.int 2, .int (-1)]) = H6 at s6 g6 ⊢
      refine ⟨1, rfl, by show 2 ≤ sizeLine; decide, fun p3 np3 => ?_⟩
      have s7 : Same H6 (upd H6 p3 (.tup [.int 3, .int (-1)])) := same_new np3
      have g7 : Tp (upd H6 p3 (.tup [.int 3, .int (-1)])) p3 ([(3 : Int), -1].map V.int) := upd_same
      generalize upd H6 p3 (.tup [.int 3, .int (-1)]) = H7 at s7 g7 ⊢
      refine ⟨5, rfl, by show 2 ≤ sizeLine; decide, fun p4 np4 => ?_⟩
      have s8 : Same H7 (upd H7 p4 (.tup [.int (-5), .int 1])) := same_new np4
      have g8 : Tp (upd H7 p4 (.tup [.int (-5), .int 1])) p4 ([(-5 : Int), 1].map V.int) := upd_same
      generalize upd H7 p4 (.tup [.int (-5), .int 1]) = H8 at s8 g8 ⊢
      refine ⟨by show 4 ≤ sizeLine; decide, fun vt nvt => ?_⟩
      have s9 : Same H8 (upd H8 vt (.tup [.ref p1, .ref p2, .ref p3, .ref p4])) := same_new nvt
      have g9 : Tp (upd H8 vt (.tup [.ref p1, .ref p2, .ref p3, .ref p4])) vt ([p1, p2, p3, p4].map V.ref) := upd_same
      generalize upd H8 vt (.tup [.ref p1, .ref p2, .ref p3, .ref p4]) = H9 at s9 g9 ⊢
      have s49 := ((((s5.trans s6).trans s7).trans s8).trans s9)
      have rr : ∀ {p : Addr} {xs : List Int}, Tp H9 p (xs.map V.int) → xs.length = 2 → (∀ x ∈ xs, SmZ 300 x) → Row H9 p xs := fun h l z => ⟨h, by omega, z⟩
      have RW : Rws H9 [p1, p2, p3, p4] [[1, -1], [2, -1], [3, -1], [-5, 1]] 2 := ⟨rfl, fun i p r a b => by
        match i, a, b with
        | 0, a, b =>
          obtain rfl := Option.some.inj a
          obtain rfl := Option.some.inj b
          exact ⟨rr (((g5.same s6).same s7).same (s8.trans s9)) rfl (by decide), rfl⟩
        | 1, a, b =>
          obtain rfl := Option.some.inj a
          obtain rfl := Option.some.inj b
          exact ⟨rr ((g6.same s7).same (s8.trans s9)) rfl (by decide), rfl⟩
        | 2, a, b =>
          obtain rfl := Option.some.inj a
          obtain rfl := Option.some.inj b
          exact ⟨rr (g7.same (s8.trans s9)) rfl (by decide), rfl⟩
        | 3, a, b =>
          obtain rfl := Option.some.inj a
          obtain rfl := Option.some.inj b
          exact ⟨rr (g8.same s9) rfl (by decide), rfl⟩⟩
      refine ⟨2, vt, [p1, p2, p3, p4], _, 4, rfl, by decide, g9, RW, least_four, by decide, fun r3 H10 s10 R3 => ?_⟩
      have R3 : Row H10 r3 [1, 4] := R3
      have R1 := (R1.same s49).same s10
      have R2 := (R2.same s49).same s10
      clear s2 s3 s4 s5 s6 s7 s8 s9 s49 g1 g3 g5 g6 g7 g8 g9 RW rr
      refine ⟨by show 3 ≤ sizeLine; decide, fun S nS => ?_⟩
      have s11 : Same H10 (upd H10 S (.lst [.ref r1, .ref r2, .ref r3])) := same_new nS
      have g11 : upd H10 S (.lst [.ref r1, .ref r2, .ref r3]) S = some (.lst [.ref r1, .ref r2, .ref r3]) := upd_same
      generalize upd H10 S (.lst [.ref r1, .ref r2, .ref r3]) = H11 at s11 g11 ⊢
      have R1 := R1.same s11
      have R2 := R2.same s11
      have R3 := R3.same s11
      refine ⟨.ref S, rfl, by show 3 ≤ sizeLine; decide, fun q1 nq1 => ?_⟩
      have s12 : Same H11 (upd H11 q1 (.tup [.int 1, .int 1, .int 1])) := same_new nq1
      have g12 : Tp (upd H11 q1 (.tup [.int 1, .int 1, .int 1])) q1 ([(1 : Int), 1, 1].map V.int) := upd_same
      generalize upd H11 q1 (.tup [.int 1, .int 1, .int 1]) = H12 at s12 g12 ⊢
      refine ⟨by show 0 ≤ sizeLine; decide, fun q2 nq2 => ?_⟩
      have s13 : Same H12 (upd H12 q2 (.tup [])) := same_new nq2
      have g13 : Tp (upd H12 q2 (.tup [])) q2 (([] : List Int).map V.int) := upd_same
      generalize upd H12 q2 (.tup []) = H13 at s13 g13 ⊢
      refine ⟨by show 2 ≤ sizeLine; decide, fun q3 nq3 => ?_⟩
      have s14 : Same H13 (upd H13 q3 (.tup [.int 1, .int 4])) := same_new nq3
      have g14 : Tp (upd H13 q3 (.tup [.int 1, .int 4])) q3 ([(1 : Int), 4].map V.int) := upd_same
      generalize upd H13 q3 (.tup [.int 1, .int 4]) = H14 at s14 g14 ⊢
      refine ⟨by show 3 ≤ sizeLine; decide, fun S2 nS2 => ?_⟩
      have s15 : Same H14 (upd H14 S2 (.lst [.ref q1, .ref q2, .ref q3])) := same_new nS2
      have g15 : upd H14 S2 (.lst [.ref q1, .ref q2, .ref q3]) S2 = some (.lst [.ref q1, .ref q2, .ref q3]) := upd_same
      generalize upd H14 S2 (.lst [.ref q1, .ref q2, .ref q3]) = H15 at s15 g15 ⊢
      have u3 := s14.trans s15
      have u2 := s13.trans u3
      have u1 := s12.trans u2
      refine ⟨.ref S, .ref S2, .list [dRow [1, 1, 1], dRow [], dRow [1, 4]], rfl, .lst (SqL.of (u1 _ _ g11)) (.cons (dp_row (R1.same u1).1) (.cons (dp_row (R2.same u1).1) (.cons (dp_row (R3.same u1).1) .nil))), .lst (SqL.of g15) (.cons (dp_row (g12.same u2)) (.cons (dp_row (g13.same u3)) (.cons (dp_row (g14.same s15)) .nil))), ?_, _, rfl, iteF ?_⟩
      · exact FitN.mono (FitN.list (k := 1) (n := 15) (.cons (fitR _ (by decide) (by decide)) (.cons (fitR _ (by decide) (by decide)) (.cons (fitR _ (by decide) (by decide)) (.nil (n := 0)) (Nat.le_refl _)) (Nat.le_refl _)) (Nat.le_refl _))) (by decide) (by decide)
      clear u1 u2 u3 s10 s11 s12 s13 s14 s15 g11 g12 g13 g14 g15 R1 R2 R3
      refine ⟨by show 0 ≤ sizeLine; decide, fun a1 na1 => ?_⟩
      have t1 : Tp (upd H15 a1 (.tup [])) a1 (([] : List Int).map V.int) := upd_same
      generalize upd H15 a1 (.tup []) = J1 at t1 ⊢
      refine ⟨by show 0 ≤ sizeLine; decide, fun a2 na2 => ?_⟩
      have t2 : Tp (upd J1 a2 (.tup [])) a2 (([] : List Addr).map V.ref) := upd_same
      have t1 := t1.same (same_new (o := .tup []) na2)
      generalize upd J1 a2 (.tup []) = J2 at t1 t2 ⊢
      refine ⟨.ref a1, 0, a2, [], [], rfl, t2, rws_nil, by decide, .inr ⟨a1, _, rfl, t1, by decide, fun e he => plainI e he J2, .inr ⟨[], rfl, rfl, (fun y hy => by cases hy), fun J3 _ => ?_⟩⟩⟩
      refine ⟨by show 1 ≤ sizeLine; decide, fun a3 na3 => ?_⟩
      have t3 : Tp (upd J3 a3 (.tup [.int 0])) a3 ([(0 : Int)].map V.int) := upd_same
      generalize upd J3 a3 (.tup [.int 0]) = J4 at t3 ⊢
      refine ⟨by show 0 ≤ sizeLine; decide, fun a4 na4 => ?_⟩
      have t4 : Tp (upd J4 a4 (.tup [])) a4 (([] : List Addr).map V.ref) := upd_same
      have t3 := t3.same (same_new (o := .tup []) na4)
      generalize upd J4 a4 (.tup []) = J5 at t3 t4 ⊢
      refine ⟨.ref a3, 1, a4, [], [], rfl, t4, rws_nil, by decide, .inr ⟨a3, _, rfl, t3, by decide, fun e he => plainI e he J5, .inr ⟨[0], rfl, rfl, by decide, fun J6 _ => ?_⟩⟩⟩
      refine ⟨by show 1 ≤ sizeLine; decide, fun a5 na5 => ?_⟩
      have t5 : Tp (upd J6 a5 (.tup [.int 0])) a5 ([(0 : Int)].map V.int) := upd_same
      generalize upd J6 a5 (.tup [.int 0]) = J7 at t5 ⊢
      refine ⟨by show 1 ≤ sizeLine; decide, fun a6 na6 => ?_⟩
      have t6 : Tp (upd J7 a6 (.tup [.int 2])) a6 ([(2 : Int)].map V.int) := upd_same
      have t5 := t5.same (same_new (o := .tup [.int 2]) na6)
      generalize upd J7 a6 (.tup [.int 2]) = J8 at t5 t6 ⊢
      refine ⟨by show 1 ≤ sizeLine; decide, fun a7 na7 => ?_⟩
      have t7 : Tp (upd J8 a7 (.tup [.ref a6])) a7 ([a6].map V.ref) := upd_same
      have t5 := t5.same (same_new (o := .tup [.ref a6]) na7)
      have t6 := t6.same (same_new (o := .tup [.ref a6]) na7)
      generalize upd J8 a7 (.tup [.ref a6]) = J9 at t5 t6 t7 ⊢
      have RW : Rws J9 [a6] [[2]] 1 := ⟨rfl, fun i p r a b => by
        match i, a, b with
        | 0, a, b =>
          obtain rfl := Option.some.inj a
          obtain rfl := Option.some.inj b
          exact ⟨⟨t6, by decide, by decide⟩, rfl⟩⟩
      refine ⟨.ref a5, 1, a7, [a6], [[2]], rfl, t7, RW, by decide, .inr ⟨a5, _, rfl, t5, by decide, fun e he => plainI e he J9, .inr ⟨[0], rfl, rfl, by decide, fun J10 _ => ?_⟩⟩⟩
      rw [show isdirI [] [] = true by decide, show isdirI [0] [] = true by decide, show isdirI [0] [[2]] = false by decide]
      refine ⟨by show 3 ≤ sizeLine; decide, fun X nX => ?_⟩
      have gX : upd J10 X (.lst [.bl true, .bl true, .bl false]) X = some (.lst [.bl true, .bl true, .bl false]) := upd_same
      generalize upd J10 X (.lst [.bl true, .bl true, .bl false]) = J11 at gX ⊢
      refine ⟨by show 3 ≤ sizeLine; decide, fun Y nY => ?_⟩
      have gY : upd J11 Y (.lst [.bl true, .bl true, .bl false]) Y = some (.lst [.bl true, .bl true, .bl false]) := upd_same
      have gX := same_new (o := .lst [.bl true, .bl true, .bl false]) nY _ _ gX
      generalize upd J11 Y (.lst [.bl true, .bl true, .bl false]) = J12 at gX gY ⊢
      refine ⟨.list [.bool true, .bool true, .bool false], .list [.bool true, .bool true, .bool false], .lst (SqL.of gX) (.cons (.bl _) (.cons (.bl _) (.cons (.bl _) .nil))), .lst (SqL.of gY) (.cons (.bl _) (.cons (.bl _) (.cons (.bl _) .nil))), by decide, by decide, ?_⟩
      rw [show PyData.eqv (.list [.bool true, .bool true, .bool false]) (.list [.bool true, .bool true, .bool false]) = true by decide]
      exact k _
end
end K45
namespace K45
open PySem PySem.Spec PyProof.Rows L2 Vk
section
variable {P : Program} {w : World} {K : PySem.W.Frag} {mg : Str → Option Value} {base : Heap}
/-- a def of the text by its name -/
theorem cal_of {x : Str} {st : Stmt} {f : Addr} {fd : FuncData} {k : Nat} {ps : List Str} {sp : Sp} (F : Fun K x x st f fd) (g : mg x = some (.ref f)) (G : FnOk P w K mg base CX0 k f fd ps sp) (b : Binds K fd ps []) : Cal P w K mg base k x ps sp := ⟨f, fd, G, g, F.kp, b⟩
theorem calG_of {x : Str} {st : Stmt} {f : Addr} {fd : FuncData} {k : Nat} {ps : List Str} {sp : Sp} (F : Fun K x x st f fd) (g : mg x = some (.ref f)) (G : FnG P w K mg base k f fd ps sp) (b : Binds K fd ps []) : CalG P w K mg base k x ps sp := ⟨f, fd, G, g, F.kp, b⟩
theorem all_mk {l : PySem.W.OpenLaw} {h : Heap} {fa f_isn f_aren f_psum f_isdir f_dir f_up f_begun f_draw f_of f_like f_times f_powers f_due f_vectors f_right f_law   : Addr} (X : K.In h) (G : h.Ns mainGlobals mg) (hfa : mg "law" = some (.ref fa))
     {od_isn an_isn od_aren an_aren od_psum an_psum od_isdir an_isdir od_dir an_dir od_up an_up od_begun an_begun od_draw an_draw od_of an_of od_like an_like od_times an_times od_powers an_powers od_due an_due od_vectors an_vectors od_right an_right od_law an_law : Option Addr} {sl_isn sl_aren sl_psum sl_isdir sl_dir sl_up sl_begun sl_draw sl_of sl_like sl_times sl_powers sl_due sl_vectors sl_right sl_law : Array (Option Value)}
    {oc_isn kV_isn dc_isn pm_isn cd_isn ct_isn oc_aren kV_aren dc_aren pm_aren cd_aren ct_aren oc_psum kV_psum dc_psum pm_psum cd_psum ct_psum oc_isdir kV_isdir dc_isdir pm_isdir cd_isdir ct_isdir oc_dir kV_dir dc_dir pm_dir cd_dir ct_dir oc_up kV_up dc_up pm_up cd_up ct_up oc_begun kV_begun dc_begun pm_begun cd_begun ct_begun oc_draw kV_draw dc_draw pm_draw cd_draw ct_draw oc_of kV_of dc_of pm_of cd_of ct_of oc_like kV_like dc_like pm_like cd_like ct_like oc_times kV_times dc_times pm_times cd_times ct_times oc_powers kV_powers dc_powers pm_powers cd_powers ct_powers oc_due kV_due dc_due pm_due cd_due ct_due oc_vectors kV_vectors dc_vectors pm_vectors cd_vectors ct_vectors oc_right kV_right dc_right pm_right cd_right ct_right oc_law kV_law dc_law pm_law cd_law ct_law : Value}
    (a_isn : PySem.W.nsIn K mainGlobals "is_number" = some (some (.ref f_isn)))
    (l_isn : K.lookup f_isn = some ⟨oc_isn, od_isn, .func (PySem.W.fnOf "is_number" "is_number" (defArgs s_isn) (defBody s_isn) (defScope s_isn) .none kV_isn dc_isn pm_isn an_isn (cd_isn) ct_isn), sl_isn⟩)
    (c_isn : PySem.W.codeIn K (cd_isn) "is_number" = true)
    (k_isn : PySem.W.keepIn K (.ref f_isn) = true)
    (a_aren : PySem.W.nsIn K mainGlobals "are_numbers" = some (some (.ref f_aren)))
    (l_aren : K.lookup f_aren = some ⟨oc_aren, od_aren, .func (PySem.W.fnOf "are_numbers" "are_numbers" (defArgs s_aren) (defBody s_aren) (defScope s_aren) .none kV_aren dc_aren pm_aren an_aren (cd_aren) ct_aren), sl_aren⟩)
    (c_aren : PySem.W.codeIn K (cd_aren) "are_numbers" = true)
    (k_aren : PySem.W.keepIn K (.ref f_aren) = true)
    (a_psum : PySem.W.nsIn K mainGlobals "product_sum" = some (some (.ref f_psum)))
    (l_psum : K.lookup f_psum = some ⟨oc_psum, od_psum, .func (PySem.W.fnOf "product_sum" "product_sum" (defArgs s_psum) (defBody s_psum) (defScope s_psum) .none kV_psum dc_psum pm_psum an_psum (cd_psum) ct_psum), sl_psum⟩)
    (c_psum : PySem.W.codeIn K (cd_psum) "product_sum" = true)
    (k_psum : PySem.W.keepIn K (.ref f_psum) = true)
    (a_isdir : PySem.W.nsIn K mainGlobals "is_direction" = some (some (.ref f_isdir)))
    (l_isdir : K.lookup f_isdir = some ⟨oc_isdir, od_isdir, .func (PySem.W.fnOf "is_direction" "is_direction" (defArgs s_isdir) (defBody s_isdir) (defScope s_isdir) .none kV_isdir dc_isdir pm_isdir an_isdir (cd_isdir) ct_isdir), sl_isdir⟩)
    (c_isdir : PySem.W.codeIn K (cd_isdir) "is_direction" = true)
    (k_isdir : PySem.W.keepIn K (.ref f_isdir) = true)
    (a_dir : PySem.W.nsIn K mainGlobals "direction" = some (some (.ref f_dir)))
    (l_dir : K.lookup f_dir = some ⟨oc_dir, od_dir, .func (PySem.W.fnOf "direction" "direction" (defArgs s_dir) (defBody s_dir) (defScope s_dir) .none kV_dir dc_dir pm_dir an_dir (cd_dir) ct_dir), sl_dir⟩)
    (c_dir : PySem.W.codeIn K (cd_dir) "direction" = true)
    (k_dir : PySem.W.keepIn K (.ref f_dir) = true)
    (a_up : PySem.W.nsIn K mainGlobals "uphill" = some (some (.ref f_up)))
    (l_up : K.lookup f_up = some ⟨oc_up, od_up, .func (PySem.W.fnOf "uphill" "uphill" (defArgs s_up) (defBody s_up) (defScope s_up) .none kV_up dc_up pm_up an_up (cd_up) ct_up), sl_up⟩)
    (c_up : PySem.W.codeIn K (cd_up) "uphill" = true)
    (k_up : PySem.W.keepIn K (.ref f_up) = true)
    (a_begun : PySem.W.nsIn K mainGlobals "_law_begun" = some (some (.ref f_begun)))
    (l_begun : K.lookup f_begun = some ⟨oc_begun, od_begun, .func (PySem.W.fnOf "_law_begun" "_law_begun" (defArgs s_begun) (defBody s_begun) (defScope s_begun) .none kV_begun dc_begun pm_begun an_begun (cd_begun) ct_begun), sl_begun⟩)
    (c_begun : PySem.W.codeIn K (cd_begun) "_law_begun" = true)
    (k_begun : PySem.W.keepIn K (.ref f_begun) = true)
    (a_draw : PySem.W.nsIn K mainGlobals "_law_draw" = some (some (.ref f_draw)))
    (l_draw : K.lookup f_draw = some ⟨oc_draw, od_draw, .func (PySem.W.fnOf "_law_draw" "_law_draw" (defArgs s_draw) (defBody s_draw) (defScope s_draw) .none kV_draw dc_draw pm_draw an_draw (cd_draw) ct_draw), sl_draw⟩)
    (c_draw : PySem.W.codeIn K (cd_draw) "_law_draw" = true)
    (k_draw : PySem.W.keepIn K (.ref f_draw) = true)
    (a_of : PySem.W.nsIn K mainGlobals "_law_of" = some (some (.ref f_of)))
    (l_of : K.lookup f_of = some ⟨oc_of, od_of, .func (PySem.W.fnOf "_law_of" "_law_of" (defArgs s_of) (defBody s_of) (defScope s_of) .none kV_of dc_of pm_of an_of (cd_of) ct_of), sl_of⟩)
    (c_of : PySem.W.codeIn K (cd_of) "_law_of" = true)
    (k_of : PySem.W.keepIn K (.ref f_of) = true)
    (a_like : PySem.W.nsIn K mainGlobals "_law_like" = some (some (.ref f_like)))
    (l_like : K.lookup f_like = some ⟨oc_like, od_like, .func (PySem.W.fnOf "_law_like" "_law_like" (defArgs s_like) (defBody s_like) (defScope s_like) .none kV_like dc_like pm_like an_like (cd_like) ct_like), sl_like⟩)
    (c_like : PySem.W.codeIn K (cd_like) "_law_like" = true)
    (k_like : PySem.W.keepIn K (.ref f_like) = true)
    (a_times : PySem.W.nsIn K mainGlobals "_law_times" = some (some (.ref f_times)))
    (l_times : K.lookup f_times = some ⟨oc_times, od_times, .func (PySem.W.fnOf "_law_times" "_law_times" (defArgs s_times) (defBody s_times) (defScope s_times) .none kV_times dc_times pm_times an_times (cd_times) ct_times), sl_times⟩)
    (c_times : PySem.W.codeIn K (cd_times) "_law_times" = true)
    (k_times : PySem.W.keepIn K (.ref f_times) = true)
    (a_powers : PySem.W.nsIn K mainGlobals "_law_powers" = some (some (.ref f_powers)))
    (l_powers : K.lookup f_powers = some ⟨oc_powers, od_powers, .func (PySem.W.fnOf "_law_powers" "_law_powers" (defArgs s_powers) (defBody s_powers) (defScope s_powers) .none kV_powers dc_powers pm_powers an_powers (cd_powers) ct_powers), sl_powers⟩)
    (c_powers : PySem.W.codeIn K (cd_powers) "_law_powers" = true)
    (k_powers : PySem.W.keepIn K (.ref f_powers) = true)
    (a_due : PySem.W.nsIn K mainGlobals "_law_due" = some (some (.ref f_due)))
    (l_due : K.lookup f_due = some ⟨oc_due, od_due, .func (PySem.W.fnOf "_law_due" "_law_due" (defArgs s_due) (defBody s_due) (defScope s_due) .none kV_due dc_due pm_due an_due (cd_due) ct_due), sl_due⟩)
    (c_due : PySem.W.codeIn K (cd_due) "_law_due" = true)
    (k_due : PySem.W.keepIn K (.ref f_due) = true)
    (a_vectors : PySem.W.nsIn K mainGlobals "_law_vectors" = some (some (.ref f_vectors)))
    (l_vectors : K.lookup f_vectors = some ⟨oc_vectors, od_vectors, .func (PySem.W.fnOf "_law_vectors" "_law_vectors" (defArgs s_vectors) (defBody s_vectors) (defScope s_vectors) .none kV_vectors dc_vectors pm_vectors an_vectors (cd_vectors) ct_vectors), sl_vectors⟩)
    (c_vectors : PySem.W.codeIn K (cd_vectors) "_law_vectors" = true)
    (k_vectors : PySem.W.keepIn K (.ref f_vectors) = true)
    (a_right : PySem.W.nsIn K mainGlobals "_law_right" = some (some (.ref f_right)))
    (l_right : K.lookup f_right = some ⟨oc_right, od_right, .func (PySem.W.fnOf "_law_right" "_law_right" (defArgs s_right) (defBody s_right) (defScope s_right) .none kV_right dc_right pm_right an_right (cd_right) ct_right), sl_right⟩)
    (c_right : PySem.W.codeIn K (cd_right) "_law_right" = true)
    (k_right : PySem.W.keepIn K (.ref f_right) = true)
    (a_law : PySem.W.nsIn K mainGlobals "law" = some (some (.ref f_law)))
    (l_law : K.lookup f_law = some ⟨oc_law, od_law, .func (PySem.W.fnOf "law" "law" (defArgs s_law) (defBody s_law) (defScope s_law) .none kV_law dc_law pm_law an_law (cd_law) ct_law), sl_law⟩)
    (c_law : PySem.W.codeIn K (cd_law) "law" = true)
    (k_law : PySem.W.keepIn K (.ref f_law) = true)
    (m_isinstance : PySem.W.nsIn K mainGlobals "isinstance" = some none)
    (m_int : PySem.W.nsIn K mainGlobals "int" = some none)
    (m_bool : PySem.W.nsIn K mainGlobals "bool" = some none)
    (m_tuple : PySem.W.nsIn K mainGlobals "tuple" = some none)
    (m_len : PySem.W.nsIn K mainGlobals "len" = some none)
    (m_repr : PySem.W.nsIn K mainGlobals "repr" = some none)
    (m_range : PySem.W.nsIn K mainGlobals "range" = some none)
    (m_sum : PySem.W.nsIn K mainGlobals "sum" = some none)
    (m_enumerate : PySem.W.nsIn K mainGlobals "enumerate" = some none)
    (m_all : PySem.W.nsIn K mainGlobals "all" = some none)
    (m_zip : PySem.W.nsIn K mainGlobals "zip" = some none)
    (m_list : PySem.W.nsIn K mainGlobals "list" = some none)
    (m_max : PySem.W.nsIn K mainGlobals "max" = some none)
    (m_min : PySem.W.nsIn K mainGlobals "min" = some none) :
    ∃ fd : FuncData, (∀ (s : Shared) (u : Value), BindsTo s fd ⟨[u], []⟩ [("script", u)]) ∧ ∀ base : Heap, K.In base → base.Ns mainGlobals mg → FnG l.prog w K mg base 6 fa fd ["script"] (spLaw K) := by
  obtain rfl := Value.ref.inj (Option.some.inj (hfa.symm.trans (PySem.W.mg_of X G a_law)))
  have F_isn := fun_mk (st := s_isn) l_isn c_isn k_isn
  have G_isn := PySem.W.mg_of X G a_isn
  have B_isn := F_isn.binds (ps := ["value"]) fun _ _ _ _ _ _ us hl => match us, hl with | [_], _ => rfl
  have F_aren := fun_mk (st := s_aren) l_aren c_aren k_aren
  have G_aren := PySem.W.mg_of X G a_aren
  have B_aren := F_aren.binds (ps := ["value", "count"]) fun _ _ _ _ _ _ us hl => match us, hl with | [_, _], _ => rfl
  have F_psum := fun_mk (st := s_psum) l_psum c_psum k_psum
  have G_psum := PySem.W.mg_of X G a_psum
  have B_psum := F_psum.binds (ps := ["one", "other"]) fun _ _ _ _ _ _ us hl => match us, hl with | [_, _], _ => rfl
  have F_isdir := fun_mk (st := s_isdir) l_isdir c_isdir k_isdir
  have G_isdir := PySem.W.mg_of X G a_isdir
  have B_isdir := F_isdir.binds (ps := ["value", "d", "vectors"]) fun _ _ _ _ _ _ us hl => match us, hl with | [_, _, _], _ => rfl
  have F_dir := fun_mk (st := s_dir) l_dir c_dir k_dir
  have G_dir := PySem.W.mg_of X G a_dir
  have B_dir := F_dir.binds (ps := ["d", "vectors"]) fun _ _ _ _ _ _ us hl => match us, hl with | [_, _], _ => rfl
  have F_up := fun_mk (st := s_up) l_up c_up k_up
  have G_up := PySem.W.mg_of X G a_up
  have B_up := F_up.binds (ps := ["lam", "vectors"]) fun _ _ _ _ _ _ us hl => match us, hl with | [_, _], _ => rfl
  have F_begun := fun_mk (st := s_begun) l_begun c_begun k_begun
  have G_begun := PySem.W.mg_of X G a_begun
  have B_begun := F_begun.binds (ps := ["script", "k"]) fun _ _ _ _ _ _ us hl => match us, hl with | [_, _], _ => rfl
  have F_draw := fun_mk (st := s_draw) l_draw c_draw k_draw
  have G_draw := PySem.W.mg_of X G a_draw
  have B_draw := F_draw.binds (ps := ["m", "bound"]) fun _ _ _ _ _ _ us hl => match us, hl with | [_, _], _ => rfl
  have F_of := fun_mk (st := s_of) l_of c_of k_of
  have G_of := PySem.W.mg_of X G a_of
  have B_of := F_of.binds (ps := ["m", "some"]) fun _ _ _ _ _ _ us hl => match us, hl with | [_, _], _ => rfl
  have F_like := fun_mk (st := s_like) l_like c_like k_like
  have G_like := PySem.W.mg_of X G a_like
  have B_like := F_like.binds (ps := ["got", "due"]) fun _ _ _ _ _ _ us hl => match us, hl with | [_, _], _ => rfl
  have F_times := fun_mk (st := s_times) l_times c_times k_times
  have G_times := PySem.W.mg_of X G a_times
  have B_times := F_times.binds (ps := ["lam", "vector"]) fun _ _ _ _ _ _ us hl => match us, hl with | [_, _], _ => rfl
  have F_powers := fun_mk (st := s_powers) l_powers c_powers k_powers
  have G_powers := PySem.W.mg_of X G a_powers
  have B_powers := F_powers.binds (ps := ["n", "d"]) fun _ _ _ _ _ _ us hl => match us, hl with | [_, _], _ => rfl
  have F_due := fun_mk (st := s_due) l_due c_due k_due
  have G_due := PySem.W.mg_of X G a_due
  have B_due := F_due.binds (ps := ["d", "vectors"]) fun _ _ _ _ _ _ us hl => match us, hl with | [_, _], _ => rfl
  have F_vectors := fun_mk (st := s_vectors) l_vectors c_vectors k_vectors
  have G_vectors := PySem.W.mg_of X G a_vectors
  have B_vectors := F_vectors.binds (ps := ["m", "d"]) fun _ _ _ _ _ _ us hl => match us, hl with | [_, _], _ => rfl
  have F_right := fun_mk (st := s_right) l_right c_right k_right
  have G_right := PySem.W.mg_of X G a_right
  have B_right := F_right.binds (ps := ["m"]) fun _ _ _ _ _ _ us hl => match us, hl with | [_], _ => rfl
  have F_law := fun_mk (st := s_law) l_law c_law k_law
  have G_law := PySem.W.mg_of X G a_law
  have B_law := F_law.binds (ps := ["script"]) fun _ _ _ _ _ _ us hl => match us, hl with | [_], _ => rfl
  have M_isinstance := PySem.W.mg_none_of X G m_isinstance
  have M_int := PySem.W.mg_none_of X G m_int
  have M_bool := PySem.W.mg_none_of X G m_bool
  have M_tuple := PySem.W.mg_none_of X G m_tuple
  have M_len := PySem.W.mg_none_of X G m_len
  have M_repr := PySem.W.mg_none_of X G m_repr
  have M_range := PySem.W.mg_none_of X G m_range
  have M_sum := PySem.W.mg_none_of X G m_sum
  have M_enumerate := PySem.W.mg_none_of X G m_enumerate
  have M_all := PySem.W.mg_none_of X G m_all
  have M_zip := PySem.W.mg_none_of X G m_zip
  have M_list := PySem.W.mg_none_of X G m_list
  have M_max := PySem.W.mg_none_of X G m_max
  have M_min := PySem.W.mg_none_of X G m_min
  refine ⟨PySem.W.fnOf "law" "law" (defArgs s_law) (defBody s_law) (defScope s_law) .none kV_law dc_law pm_law an_law cd_law ct_law, fun s v => .of_eq rfl, fun base KB NB => ?_⟩
  have C_isn := cal_of (P := l.prog) (w := w) (base := base) F_isn G_isn (ok_isn F_isn M_isinstance M_int M_bool) B_isn
  have C_aren := cal_of (P := l.prog) (w := w) (base := base) F_aren G_aren (ok_aren F_aren C_isn M_isinstance M_tuple M_len M_all) B_aren
  have C_psum := cal_of (P := l.prog) (w := w) (base := base) F_psum G_psum (ok_psum F_psum M_sum M_zip) B_psum
  have C_isdir := cal_of (P := l.prog) (w := w) (base := base) F_isdir G_isdir (ok_isdir F_isdir C_aren C_psum) B_isdir
  have C_dir := cal_of (P := l.prog) (w := w) (base := base) F_dir G_dir (ok_dir F_dir C_isdir M_tuple M_range) B_dir
  have C_up := cal_of (P := l.prog) (w := w) (base := base) F_up G_up (ok_up F_up C_psum M_tuple M_enumerate) B_up
  have C_begun := cal_of (P := l.prog) (w := w) (base := base) F_begun G_begun (ok_begun F_begun M_int) B_begun
  have C_draw := cal_of (P := l.prog) (w := w) (base := base) F_draw G_draw (ok_draw F_draw M_int M_len) B_draw
  have C_of := cal_of (P := l.prog) (w := w) (base := base) F_of G_of (ok_of F_of C_draw M_len) B_of
  have C_like := calG_of (P := l.prog) (w := w) (base := base) F_like G_like (ok_like F_like M_repr) B_like
  have C_times := cal_of (P := l.prog) (w := w) (base := base) F_times G_times (ok_times F_times M_sum M_zip) B_times
  have C_powers := cal_of (P := l.prog) (w := w) (base := base) F_powers G_powers (ok_powers F_powers M_tuple M_range) B_powers
  have C_due := cal_of (P := l.prog) (w := w) (base := base) F_due G_due (ok_due F_due C_times C_powers) B_due
  have C_vectors := cal_of (P := l.prog) (w := w) (base := base) F_vectors G_vectors (ok_vectors F_vectors C_draw M_tuple M_range) B_vectors
  have C_right := calG_of (P := l.prog) (w := w) (base := base) F_right G_right (ok_right F_right C_draw C_vectors C_due C_powers C_dir C_up C_isdir C_times C_of C_like M_tuple M_range M_len M_list) B_right
  exact ok_law F_law C_begun C_right C_dir C_isdir C_like M_range M_max M_min M_len
end
end K45
open PySem PySem.W PyProof.Rows
set_option maxHeartbeats 0 in
theorem PySem.Challenge.cw_pointtally_k45_whole_directions_holds : PySem.Challenge.rw_pointtally_k45_whole_directions.Holds := by
  w_on; o_law; k_head; (case hw => w_witness2)
  k_fill
  refine Vk.walk_ofG (l := PySem.Challenge.rw_pointtally_k45_whole_directions) (n := 63) (k := 6) (x := "script") (sp := fun K => K45.spLaw K) rfl (by decide) rfl ⟨rfl, by decide, by decide⟩ (fun w h Y => PySem.W.kIn_of Y) ?F (fun K H a ns hl _ hS => ⟨a, ns, rfl, hS, hl, fun _ => rfl⟩)
  case F =>
    intro w mg fa h KX G hmg
    refine' K45.all_mk KX G hmg ?a_isn ?l_isn ?c_isn ?k_isn ?a_aren ?l_aren ?c_aren ?k_aren ?a_psum ?l_psum ?c_psum ?k_psum ?a_isdir ?l_isdir ?c_isdir ?k_isdir ?a_dir ?l_dir ?c_dir ?k_dir ?a_up ?l_up ?c_up ?k_up ?a_begun ?l_begun ?c_begun ?k_begun ?a_draw ?l_draw ?c_draw ?k_draw ?a_of ?l_of ?c_of ?k_of ?a_like ?l_like ?c_like ?k_like ?a_times ?l_times ?c_times ?k_times ?a_powers ?l_powers ?c_powers ?k_powers ?a_due ?l_due ?c_due ?k_due ?a_vectors ?l_vectors ?c_vectors ?k_vectors ?a_right ?l_right ?c_right ?k_right ?a_law ?l_law ?c_law ?k_law ?m_isinstance ?m_int ?m_bool ?m_tuple ?m_len ?m_repr ?m_range ?m_sum ?m_enumerate ?m_all ?m_zip ?m_list ?m_max ?m_min
    (case a_isn => k_is)
    (case l_isn => k_is)
    (case c_isn => k_is)
    (case k_isn => k_is)
    (case a_aren => k_is)
    (case l_aren => k_is)
    (case c_aren => k_is)
    (case k_aren => k_is)
    (case a_psum => k_is)
    (case l_psum => k_is)
    (case c_psum => k_is)
    (case k_psum => k_is)
    (case a_isdir => k_is)
    (case l_isdir => k_is)
    (case c_isdir => k_is)
    (case k_isdir => k_is)
    (case a_dir => k_is)
    (case l_dir => k_is)
    (case c_dir => k_is)
    (case k_dir => k_is)
    (case a_up => k_is)
    (case l_up => k_is)
    (case c_up => k_is)
    (case k_up => k_is)
    (case a_begun => k_is)
    (case l_begun => k_is)
    (case c_begun => k_is)
    (case k_begun => k_is)
    (case a_draw => k_is)
    (case l_draw => k_is)
    (case c_draw => k_is)
    (case k_draw => k_is)
    (case a_of => k_is)
    (case l_of => k_is)
    (case c_of => k_is)
    (case k_of => k_is)
    (case a_like => k_is)
    (case l_like => k_is)
    (case c_like => k_is)
    (case k_like => k_is)
    (case a_times => k_is)
    (case l_times => k_is)
    (case c_times => k_is)
    (case k_times => k_is)
    (case a_powers => k_is)
    (case l_powers => k_is)
    (case c_powers => k_is)
    (case k_powers => k_is)
    (case a_due => k_is)
    (case l_due => k_is)
    (case c_due => k_is)
    (case k_due => k_is)
    (case a_vectors => k_is)
    (case l_vectors => k_is)
    (case c_vectors => k_is)
    (case k_vectors => k_is)
    (case a_right => k_is)
    (case l_right => k_is)
    (case c_right => k_is)
    (case k_right => k_is)
    (case a_law => k_is)
    (case l_law => k_is)
    (case c_law => k_is)
    (case k_law => k_is)
    (case m_isinstance => k_is)
    (case m_int => k_is)
    (case m_bool => k_is)
    (case m_tuple => k_is)
    (case m_len => k_is)
    (case m_repr => k_is)
    (case m_range => k_is)
    (case m_sum => k_is)
    (case m_enumerate => k_is)
    (case m_all => k_is)
    (case m_zip => k_is)
    (case m_list => k_is)
    (case m_max => k_is)
    (case m_min => k_is)
