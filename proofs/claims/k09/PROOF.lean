import PyProof.Rows.All
import Wide.All
import OpenK.AllK
import Wide.FinOn
import HandS.Base
import HandS.Call
import HandS.List
import HandS.Comp
import HandS.Ends
import HandS.Dict
import HandS.Iter
import HandS.Words
import HandS.WordsList
import HandS.WordsDict
import HandS.Exc
import HandS.TryOnly
import HandS.ExcOwn
import HandS.Lambda
import HandS.IsInst
import HandS.Wide
import PyProof.ReprRoads
import PyProof.ReprBulk
import PyProof.FitsInt
import HandS.Walk
import KE.GoesZip
import KE.GoesMore
import KE.GoesEnum
import HandS.Star
import HandS.TupAny
import HandS.TupMul
import KE.KEqDeep
import HandS.ExcIs
import HandS.ExcField
import HandS.ExcInit
import KE.KExcIs
import PySem.Challenge.RW_pointtally_k09_whole_determinants
set_option Elab.async false
set_option linter.all false
set_option maxRecDepth 100000
set_option maxHeartbeats 4000000
set_option exponentiation.threshold 20000
/-! Promises that know that nothing is being shown around them (so that repr tells its whole text). -/
namespace Vk
open PySem PySem.Spec PyProof.Rows L2

/-- nothing is being shown -/
def Quiet (A : Around) : Prop := A.guards = some []
theorem Quiet.deeper {A : Around} (q : Quiet A) (env : Env) : Quiet (A.deeper env) := by
  unfold Quiet at q ⊢
  first
    | exact q
    | (show pushGuards _ A.guards = some []; rw [q]; rfl)
    | simpa [Around.deeper, Around.under, q] using q

/-- a def's promise where nothing is being shown -/
structure FnG (P : Program) (w : World) (K : PySem.W.Frag) (mg : Str → Option Value) (base : Heap) (k : Nat) (f : Addr) (fd : FuncData) (ps : List Str) (sp : Sp) : Prop where
  len : ∀ vs H Q E, sp vs H Q E → vs.length = ps.length
  run : ∀ (A : Around) (outer : List Env) (s : Shared) (H : Hp) (args : Args) (us : List Value) (vs : List V) (Q : VK) (E : XK),
    Quiet A → Room k A → Env0 P w K mg base A outer s H → BindsTo s fd args (ps.zip us) → Vals vs us → sp vs H Q E →
      codeAny (model P w) A (.call (.ref f) args) (CR CX0 outer P w H s Q E) s

section
variable {P : Program} {w : World} {K : PySem.W.Frag} {mg : Str → Option Value} {base : Heap}
/-- a body's end is the call's end -/
theorem endsG {N : List Str} {qual : Str} {scope : Scope} {f : Addr} {cdv : Value} {A : Around} {outer : List Env} {s s' : Shared} {H : Hp} {Q : VK} {E : XK} {fl : Flow}
    (h : SP (cxOf CX0 P w K mg base N qual scope f cdv A outer s H E) [] { nx := fun _ H' => Q .non H', rt := Q } fl s') :
    ∃ u, (match fl with | .ret v => v | _ => Value.none) = u ∧ CE outer P w H s Q u s' ∧ (fl = .next ∨ ∃ v, fl = .ret v) := by
  cases fl with
  | next =>
    obtain ⟨σ', H', J, q⟩ := h
    exact ⟨_, rfl, ⟨.non, H', J.os, J.bare, J.base, J.hok, rfl, q⟩, .inl rfl⟩
  | ret v =>
    obtain ⟨x, σ', H', J, rv, q⟩ := h
    exact ⟨_, rfl, ⟨x, H', J.os, J.bare, J.base, J.hok, rv, q⟩, .inr ⟨v, rfl⟩⟩
  | brk =>
    obtain ⟨_, _, _, q⟩ := h
    exact q.elim
  | cont =>
    obtain ⟨_, _, _, q⟩ := h
    exact q.elim
/-- a def, by its body: its code object is told -/
theorem fnG_of {x qual : Str} {st : Stmt} {f : Addr} {N ps : List Str} {k : Nat} {sp : Sp} {oc kV doc pm cdv ct : Value} {od an : Option Addr} {osl : Array (Option Value)}
    (lk : K.lookup f = some ⟨oc, od, .func (PySem.W.fnOf x qual (defArgs st) (defBody st) (defScope st) .none kV doc pm an cdv ct), osl⟩) (hcd : PySem.W.codeIn K cdv qual = true) (S : FnScope N ps (defScope st))
    (len : ∀ vs H Q E, sp vs H Q E → vs.length = ps.length)
    (hbody : ∀ (A : Around) (outer : List Env) (s : Shared) (H : Hp) (vs : List V) (Q : VK) (E : XK),
      Quiet A → Room k (A.deeper (envOfC qual (defScope st) s.heap.objs.size f cdv)) → sp vs H Q E →
        ∃ t, PSs (cxOf CX0 P w K mg base N qual (defScope st) f cdv A outer s H E).nox (defBody st) t ∧ t { nx := fun _ H' => Q .non H', rt := Q } (start N vs) H) :
    FnG P w K mg base (k + 1) f (PySem.W.fnOf x qual (defArgs st) (defBody st) (defScope st) .none kV doc pm an cdv ct) ps sp := by
  refine ⟨len, fun A outer s H args us vs Q E hG hr e0 hb r hsp => ?_⟩
  have inK : K.In s.heap := e0.mod.kin.keeps fun b o e => (e0.bs b o e).left
  have noL : s.heap.NoLimit := e0.mod.nolimit.keeps fun b o e => (e0.bs b o e).left
  have hpar : ∀ y ∈ ps.zip us, (defScope st).names.lookup y.1 = some .local ∨
      ((defScope st).names.lookup y.1 = some .cell ∧ ((cellsFrom (s.heap.objs.size + 1) (defScope st).names []).lookup y.1).isSome = true) := by
    rintro ⟨n, v⟩ hy
    cases S.par n (List.of_mem_zip hy).left with
    | inl q => exact .inl q
    | inr q => exact .inr ⟨q, PySem.W.cellsFrom_some _ _ _ (.inl q)⟩
  have bnd := hb
  refine codeAny_call_function hr.depth (inK _ _ lk) rfl S.co S.gen rfl
    (PySem.W.codeRec_of inK hcd) (bnd _ _ _ _ ?_)
  refine wpAny_newFunctionEnv_cells S.kind hpar
    fun env he s1 x => ?_
  subst he
  refine ⟨noL.keeps x.toInCall.keep,
    codeAny_func ?_⟩
  obtain ⟨t, ht, hq⟩ := hbody A outer s H vs Q E hG (hr.deeper _) hsp
  have J := inv_start (CX := CX0) (P := P) (w := w) (K := K) (mg := mg) (base := base) (qual := qual) (f := f) (cd := cdv) (E := E) S hr.hd e0 (len _ _ _ _ hsp) r x
  refine wpAny_mono (ht.nox.run [] s1 _ H _ J hq) (fun fl s' hs => ?_)
    (fun e s' hs => hs)
  obtain ⟨u, hu, hce, hfl⟩ := endsG hs
  rcases hfl with rfl | ⟨v, rfl⟩
  · obtain rfl := hu
    exact hce
  · obtain rfl := hu
    exact hce
/-- a def of the text, by its body -/
theorem okG {x qual : Str} {st : Stmt} {f : Addr} {fd : FuncData} {N ps : List Str} {k : Nat} {sp : Sp} (F : Fun K x qual st f fd) (S : FnScope N ps (defScope st))
    (len : ∀ vs H Q E, sp vs H Q E → vs.length = ps.length)
    (hbody : ∀ (cdv : Value) (A : Around) (outer : List Env) (s : Shared) (H : Hp) (vs : List V) (Q : VK) (E : XK),
      Quiet A → Room k (A.deeper (envOfC qual (defScope st) s.heap.objs.size f cdv)) → sp vs H Q E →
        ∃ t, PSs (cxOf CX0 P w K mg base N qual (defScope st) f cdv A outer s H E).nox (defBody st) t ∧ t { nx := fun _ H' => Q .non H', rt := Q } (start N vs) H) :
    FnG P w K mg base (k + 1) f fd ps sp := by
  obtain ⟨oc, od, kV, doc, pm, an, cdv, ct, osl, rfl, lk, hcd⟩ := F.ex
  exact fnG_of lk hcd S len fun A outer s H vs Q E => hbody cdv A outer s H vs Q E
end

section
variable {X : Cx} {k : Nat} {f : Addr} {fd : FuncData} {ps : List Str} {sp : Sp} {E : XK} {x : Str} {p pos : Pos} {e : Expr} {es : List Expr} {t : TA}
/-- a call of such a def -/
theorem pe_callG (hG : Quiet X.A) (F : FnG X.prog X.w X.K X.mg X.base k f fd ps sp) (hr : Room k X.A) (hg : Gl X x) (hm : X.mg x = some (.ref f)) (hk : PySem.W.keepIn X.K (.ref f) = true) (hb : Binds X.K fd ps [])
    (ha : PA X (e :: es) t) (hdb : (x == ("__debug__" : Str)) = false := by decide) (he : starEach (e :: es) X.env = (false, eval e X.env) :: starEach es X.env := by rfl)
    (hpl : (backTo pos (starEach es X.env)).any (·.1) = false := by rfl) :
    PE X (.Call (.Name x p) (e :: es) [] pos) (fun σ H Q => t σ H fun vs H1 => sp vs H1 Q E) := by
  refine ⟨fun pins s σ H Q I h => wpAny_Call_Name_kw (ld_glob I hg hm ?_ hdb)⟩
  refine PySem.W.callWith_K (h₀ := X.base) I.ok.mod.kin hk (thn (ha.run pos pins s σ H _ I h) ?_) he hpl
  rintro us s1 ⟨vs, H1, I1, r, q⟩
  refine ⟨I1.kIn, ?_⟩
  have hl : us.length = ps.length := r.length.symm.trans (F.len _ _ _ _ q)
  have hbt := hb s1 us I1.kIn (by rw [List.append_nil]; exact hl)
  rw [List.append_nil] at hbt
  refine wpAny_call (codeAny_mono (F.run X.A X.stack s1 H1 ⟨us, []⟩ us vs Q E hG hr I1.env0 hbt r q) ?_)
  intro r2 s2 hq
  match r2, hq with
  | .error e, hq => exact False.elim hq
  | .ok (.ret u), hq => exact I1.after hq
end

/-! ### repr -/
/-- the text of a value's data -/
def rRep (K : PySem.W.Frag) : List V → Hp → VK → Prop := fun xs H Q => ∃ x d, xs = [x] ∧ Dp K H x d ∧ d.showable = true ∧ d.hasDict = false ∧ d.depth ≤ 60 ∧ d.shown.length ≤ sizeLine ∧ Q (.str d.shown) H
theorem call_rep {X : Cx} (hG : Quiet X.A) (hu : X.A.units + 64 < cLine) : CallR X (.builtin "repr") (rRep X.K) := by
  intro pins s σ H xs us Q I r h
  obtain ⟨x, d, rfl, hD, hs, hd, hdep, hz, q⟩ := h
  obtain ⟨u, rfl, ru⟩ := vals1 r
  obtain ⟨as, hr⟩ := Dp.reads I d x u hD ru
  cases hD with
  | non =>
    cases ru
    exact PySem.P.repr_of_none ⟨.str _, H, I.tok _, ⟨_, rfl⟩, by simpa only [PyData.shown] using q⟩
  | bl b =>
    cases ru
    exact PySem.P.repr_of_bool ⟨.str _, H, I.tok _, ⟨_, rfl⟩, by simpa only [PyData.shown] using q⟩
  | int i =>
    obtain ⟨t, rfl⟩ := ru
    exact PySem.P.repr_of_int (by simpa [PyData.showable] using hs) ⟨.str _, H, I.tok _, ⟨_, rfl⟩, by simpa only [PyData.shown] using q⟩
  | str z =>
    obtain ⟨t, rfl⟩ := ru
    exact PySem.P.repr_of_str ⟨.str _, H, I.tok _, ⟨_, rfl⟩, by simpa only [PyData.shown] using q⟩ (by simpa only [PyData.shown] using hz)
  | lst h1 h2 =>
    cases ru
    exact repr_of_reads' hr hs (PyData.noDict_hsm hd) hG (by omega) (fun _ _ e => e) (fun h' u tk hk => ⟨.str _, H, I.kept hk, ⟨_, rfl⟩, q⟩) hz
  | tup h1 h2 =>
    cases ru
    exact repr_of_reads' hr hs (PyData.noDict_hsm hd) hG (by omega) (fun _ _ e => e) (fun h' u tk hk => ⟨.str _, H, I.kept hk, ⟨_, rfl⟩, q⟩) hz
end Vk

namespace Vk
open PySem PySem.Spec PyProof.Rows L2
/-! ### defs by their names -/
/-- the def of this name keeps the promise -/
def Cal (P : Program) (w : World) (K : PySem.W.Frag) (mg : Str → Option Value) (base : Heap) (k : Nat) (x : Str) (ps : List Str) (sp : Sp) : Prop :=
  ∃ f fd, FnOk P w K mg base CX0 k f fd ps sp ∧ mg x = some (.ref f) ∧ PySem.W.keepIn K (.ref f) = true ∧ Binds K fd ps []
def CalG (P : Program) (w : World) (K : PySem.W.Frag) (mg : Str → Option Value) (base : Heap) (k : Nat) (x : Str) (ps : List Str) (sp : Sp) : Prop :=
  ∃ f fd, FnG P w K mg base k f fd ps sp ∧ mg x = some (.ref f) ∧ PySem.W.keepIn K (.ref f) = true ∧ Binds K fd ps []
/-- the reading of a call -/
def tCal (sp : Sp) (t : TA) : TE := fun σ H Q => t σ H fun vs H1 => sp vs H1 Q E0
section
variable {X : Cx} {k : Nat} {ps : List Str} {sp : Sp} {x : Str} {p pos : Pos} {e : Expr} {es : List Expr} {t : TA}
theorem call_ (C : Cal X.prog X.w X.K X.mg X.base k x ps sp) (hr : Room k X.A) (hg : Gl X x) (ha : PA X (e :: es) t) (hdb : (x == ("__debug__" : Str)) = false := by decide)
    (he : starEach (e :: es) X.env = (false, eval e X.env) :: starEach es X.env := by rfl) (hpl : (backTo pos (starEach es X.env)).any (·.1) = false := by rfl) :
    PE X (.Call (.Name x p) (e :: es) [] pos) (tCal sp t) := by
  obtain ⟨f, fd, F, hm, hk, hb⟩ := C
  refine ⟨fun pins s σ H Q I h => ?_⟩
  refine (pe_call F hr hg hm hk hb .nil pass0 ha hdb he hpl).run pins s σ H Q I ?_
  show t σ H fun vs H1 => sp (vs ++ []) H1 Q E0
  have e0 : (fun vs H1 => sp (vs ++ []) H1 Q E0) = fun vs H1 => sp vs H1 Q E0 := by
    funext vs H1
    rw [List.append_nil]
  rw [e0]
  exact h
theorem callG (hG : Quiet X.A) (C : CalG X.prog X.w X.K X.mg X.base k x ps sp) (hr : Room k X.A) (hg : Gl X x) (ha : PA X (e :: es) t) (hdb : (x == ("__debug__" : Str)) = false := by decide)
    (he : starEach (e :: es) X.env = (false, eval e X.env) :: starEach es X.env := by rfl) (hpl : (backTo pos (starEach es X.env)).any (·.1) = false := by rfl) :
    PE X (.Call (.Name x p) (e :: es) [] pos) (tCal sp t) := by
  obtain ⟨f, fd, F, hm, hk, hb⟩ := C
  exact ⟨fun pins s σ H Q I h => (pe_callG hG F hr hg hm hk hb ha hdb he hpl).run pins s σ H Q I h⟩
end
/-! ### ints of any size -/
def CDivX (_ j : Int) : Prop := j ≠ 0 ∧ j.natAbs.log2 < 9000
theorem op_fdivX {X : Cx} : OpR X (binaryOp .FloorDiv) (rI CDivX fun i j => .int (i.fdiv j)) :=
  opI fun _ _ _ _ _ _ _ hc q => floordiv_int hc.1 q (.inl (PyProof.noPylong_of_log2 hc.2))
/-! ### heaps -/
/-- all but what stands at m stays -/
def SameBut (m : Addr) (H H' : Hp) : Prop := ∀ b o, b ≠ m → H b = some o → H' b = some o
theorem SameBut.refl (m : Addr) (H : Hp) : SameBut m H H := fun _ _ _ h => h
theorem SameBut.trans {m : Addr} {H H1 H2 : Hp} (a : SameBut m H H1) (b : SameBut m H1 H2) : SameBut m H H2 := fun c o n h => b c o n (a c o n h)
theorem SameBut.of {m : Addr} {H H1 : Hp} (a : Same H H1) : SameBut m H H1 := fun c o _ h => a c o h
theorem same_new {H : Hp} {p : Addr} {o : HO} (h : H p = none) : Same H (upd H p o) := fun b x e => by
  rw [upd_ne (ne_of_none e h)]
  exact e
theorem but_put {H : Hp} {m : Addr} {o : HO} : SameBut m H (upd H m o) := fun b x n e => by
  rw [upd_ne n]
  exact e
end Vk

namespace Vk
open PySem PySem.Spec PyProof.Rows L2
theorem same_put {H H1 : Hp} {q : Addr} {o : HO} (s : Same H H1) (hq : H q = none) : Same H (upd H1 q o) := fun b x e => by
  rw [upd_ne (ne_of_none e hq)]
  exact s b x e
theorem cut_ints (ns : List Int) (a b : Option Int) : ∃ l : List Int, cutV (ns.map V.int) a b = l.map V.int ∧ l.length ≤ ns.length := by
  refine ⟨(ns.drop (HT.sIx (ns.map V.int).length 0 a)).take (HT.sIx (ns.map V.int).length (ns.map V.int).length b - HT.sIx (ns.map V.int).length 0 a), ?_, ?_⟩
  · unfold cutV
    rw [← List.map_drop, ← List.map_take]
  · rw [List.length_take, List.length_drop]
    omega
/-- a list of ints as data -/
theorem dp_ints {K : PySem.W.Frag} {H : Hp} : ∀ ns : List Int, DpAll K H (ns.map V.int) (ns.map PyData.int)
  | [] => .nil
  | n :: r => .cons (.int n) (dp_ints r)
theorem lay_ints : ∀ ns : List Int, PyData.canLayAll0 (ns.map PyData.int) = true ∧ PyData.depthAll (ns.map PyData.int) = 0
  | [] => ⟨by simp [PyData.canLayAll0], by simp [PyData.depthAll]⟩
  | n :: r => by
    obtain ⟨h1, h2⟩ := lay_ints r
    exact ⟨by simp [PyData.canLayAll0, PyData.canLay0, h1], by simp [PyData.depthAll, PyData.depth, h2]⟩
theorem shaped_ints (ns : List Int) : SeqAt.shaped (.list (ns.map PyData.int)) = true := by
  obtain ⟨h1, h2⟩ := lay_ints ns
  simp [SeqAt.shaped, PyData.canLay0, PyData.depth, h1, h2]
end Vk

namespace Vk
open PySem PySem.Spec PyProof.Rows L2
/-- both ways of a conditional expression lead to what follows -/
theorem tif_both {c : Bool} {ta tb : TE} {σ : L2.St} {H : Hp} {Q : VK} (Good : V → Prop) (hQ : ∀ v, Good v → Q v H) (ha : c = true → (∀ v, Good v → Q v H) → ta σ H Q) (hb : c = false → (∀ v, Good v → Q v H) → tb σ H Q) :
    if c = true then ta σ H Q else tb σ H Q := by
  cases c with
  | true => exact iteT (ha rfl hQ)
  | false => exact iteF (hb rfl hQ)
end Vk
/-! The end of a law row for a promise of the quiet kind. -/
namespace Vk
open PySem PySem.Spec PyProof.Rows L2

section
variable {P : Program} {w : World} {K : PySem.W.Frag} {mg mb : Str → Option Value} {k : Nat} {fa a : Addr} {fd : FuncData} {x : Str} {sp : Sp} {s₁ : Shared} {vs : List Value} {ns : List Int}
/-- from one abstract heap that holds -/
theorem law_coreG (H : Hp) (KX : K.In s₁.heap) (hns : s₁.heap.Ns mainGlobals mg) (hb : s₁.heap.Ns builtinsNs mb) (hbb : ∀ x : Str, x ≠ "__name__" → mb x = bootBuiltins x) (hlim : s₁.heap.NoLimit) (hg : s₁.gens = #[])
    (ha : s₁.heap.get? a = some { cls := .type "list", data := .seq vs.toArray }) (hr : Room k callerA)
    (F : ∀ base : Heap, K.In base → base.Ns mainGlobals mg → FnG P w K mg base k fa fd [x] sp) (hbind : ∀ (s : Shared) (u : Value), BindsTo s fd ⟨[u], []⟩ [(x, u)])
    (hO : Only H) (hsp : sp [.ref a] H (fun v _ => v = .bl true) fun _ _ _ => False) (hok : HOk P w H s₁.heap) (hA : ∀ b u, H b = some u → b = a) (hK : ∀ u, H a = some u → K.lookup a = none) :
    codeAny (model P w) callerA (.call (.ref fa) ⟨[.ref a], []⟩) (fun r s' => r = .ok (.ret (.bool true)) ∧ OldK s₁.heap s'.heap ∧ s'.os = s₁.os ∧ AllBare s'.gens) s₁ := by
  have free : ∀ {b : Addr} {o : Obj}, s₁.heap.get? b = some o → (∀ n, o.data ≠ .seq vs.toArray n) → H b = none := fun {b o} e d => by
    cases q : H b with
    | none => rfl
    | some u =>
      obtain rfl := hA b u q
      rw [ha] at e
      exact absurd rfl (by have := Option.some.inj e; subst this; exact d _)
  have nsK : ∀ {b : Addr} {m : Str → Option Value}, s₁.heap.Ns b m → (hidT s₁.heap H).Ns b m := by
    rintro b m ⟨o, es, ep, e, d, r⟩
    exact ⟨o, es, ep, hidT_get e (free e fun n z => by rw [d] at z; cases z), d, r⟩
  have inB : K.In (hidT s₁.heap H) := fun b o e => by
    refine hidT_get (KX b o e) ?_
    cases q : H b with
    | none => rfl
    | some u =>
      obtain rfl := hA b u q
      rw [hK u q] at e
      cases e
  have lim : (hidT s₁.heap H).NoLimit := by
    obtain ⟨mc, h1, h2⟩ := hlim
    exact ⟨mc, nsK h1, h2⟩
  have M : Mod K mg (hidT s₁.heap H) := { kin := inB, glob := nsK hns, blt := ⟨mb, nsK hb, hbb⟩, nolimit := lim }
  have E : Env0 P w K mg (hidT s₁.heap H) callerA [] s₁ H := by
    refine { frames := rfl, mod := M, bs := fun b o e => of_hidT e, bsz := Nat.le_of_eq (hidT_size _ _), funs := trivial, frf := ?_, hok := hok, bare := .of_eq hg }
    intro b z
    cases (show b ∈ ([] : List Addr) from z)
  have R := (F _ inB (nsK hns)).run callerA [] s₁ H ⟨[.ref a], []⟩ [.ref a] [.ref a] _ _ rfl hr E (hbind s₁ (.ref a)) (.cons rfl .nil) hsp
  refine codeAny_mono R ?_
  intro r s' h
  match r, h with
  | .error e, h => exact False.elim h
  | .ok (.ret u), ⟨v, H', os, bare, un, hok', rv, q⟩ =>
    obtain rfl : v = .bl true := q
    obtain rfl : u = Value.bool true := rv
    refine ⟨rfl, OldK.of_keep fun b o e => ?_, os, bare⟩
    rcases hO b with z | ⟨ob, xs, z⟩
    · refine un.keep b o e z (fun m => ?_) (fun m => ?_)
      · cases (show b ∈ ([] : List Addr) from m)
      · cases m
    · have p1 := (hok b _ z).1
      have p2 := (hok' b _ (un.frzs b ob _ z)).1
      exact p2.trans (p1.symm.trans e)
/-- the law's promise, at the heap behind the top -/
theorem law_callG (KX : K.In s₁.heap) (hns : s₁.heap.Ns mainGlobals mg) (hb : s₁.heap.Ns builtinsNs mb) (hbb : ∀ x : Str, x ≠ "__name__" → mb x = bootBuiltins x) (hlim : s₁.heap.NoLimit) (hg : s₁.gens = #[])
    (ha : s₁.heap.get? a = some { cls := .type "list", data := .seq vs.toArray }) (hi : IntsAre vs ns) (hl : ns.length ≤ sizeLine) (hr : Room k callerA)
    (F : ∀ base : Heap, K.In base → base.Ns mainGlobals mg → FnG P w K mg base k fa fd [x] sp) (hbind : ∀ (s : Shared) (u : Value), BindsTo s fd ⟨[u], []⟩ [(x, u)])
    (hsp : ∀ H : Hp, Only H → SqL K H a (ns.map V.int) → sp [.ref a] H (fun v _ => v = .bl true) fun _ _ _ => False) :
    codeAny (model P w) callerA (.call (.ref fa) ⟨[.ref a], []⟩) (fun r s' => r = .ok (.ret (.bool true)) ∧ OldK s₁.heap s'.heap ∧ s'.os = s₁.os ∧ AllBare s'.gens) s₁ := by
  have rv := vals_ints hi
  cases hk : K.lookup a with
  | some o =>
    have e := (KX a o hk).symm.trans ha
    obtain rfl := Option.some.inj e
    have hO : Only (fun _ => none) := fun _ => .inl rfl
    refine law_coreG (fun _ => none) KX hns hb hbb hlim hg ha hr F hbind hO (hsp _ hO (.inr ⟨_, vs.toArray, _, hk, rfl, rfl, rfl, ?_, ?_⟩)) ?_ ?_ ?_
    · rw [List.size_toArray, hi.length]
      exact hl
    · simpa using rv
    · intro b u z
      cases (show (none : Option HO) = some u from z)
    · intro b u z
      cases (show (none : Option HO) = some u from z)
    · intro u z
      cases (show (none : Option HO) = some u from z)
  | none =>
    let fz : HO := .frz { cls := .type "list", data := .seq vs.toArray } (.lst (ns.map V.int))
    have only : ∀ b u, upd (fun _ => none) a fz b = some u → b = a ∧ u = fz := fun b u z => by
      by_cases e : b = a
      · subst e
        rw [upd_same] at z
        exact ⟨rfl, (Option.some.inj z).symm⟩
      · rw [upd_ne e] at z
        cases z
    have hO : Only (upd (fun _ => none) a fz) := fun b => by
      cases q : upd (fun _ => none) a fz b with
      | none => exact .inl rfl
      | some u =>
        obtain ⟨_, rfl⟩ := only b u q
        exact .inr ⟨_, _, rfl⟩
    refine law_coreG _ KX hns hb hbb hlim hg ha hr F hbind hO (hsp _ hO (.inl (.inr ⟨_, upd_same⟩))) ?_ (fun b u z => (only b u z).1) (fun _ _ => hk)
    intro b u z
    obtain ⟨rfl, rfl⟩ := only b u z
    refine ⟨ha, ?_, vs, _, rv, ha⟩
    rw [List.length_map]
    exact hl
end

/-- the end of the row -/
theorem walk_ofG {l : PySem.W.OpenLaw} {n k : Nat} {q : Program} {loose : List Str} {XP : (Str → Option Value) → Heap → Prop} {YP : World → Heap → Prop} {d : DefRec} {K : Params → PySem.W.Frag} {sp : PySem.W.Frag → Sp} {x : Str}
    (hn : l.most = some n) (hn2 : n ≤ sizeLine) (hdf : d.params.defaults = []) (hr : Room k callerA)
    (hY : ∀ (w : World) (h : Heap), YP w h → (K w.params).In h)
    (F : ∀ (w : World) (mg : Str → Option Value) (fa : Addr) (h : Heap), (K w.params).In h → h.Ns mainGlobals mg → mg d.name = some (.ref fa) →
      ∃ fd : FuncData, (∀ (s : Shared) (u : Value), BindsTo s fd ⟨[u], []⟩ [(x, u)]) ∧
        ∀ base : Heap, (K w.params).In base → base.Ns mainGlobals mg → FnG l.prog w (K w.params) mg base k fa fd [x] (sp (K w.params)))
    (hsp : ∀ (K : PySem.W.Frag) (H : Hp) (a : Addr) (ns : List Int), ns.length ≤ n → Only H → SqL K H a (ns.map V.int) → sp K [.ref a] H (fun v _ => v = .bl true) fun _ _ _ => False) :
    PySem.W.WalkO q loose XP YP l.row.toRowW d [] (fun f vs => PySem.call f vs) := by
  refine Att.attach_call hn hdf ?_
  intro w s₀ s₁ mg mb fa o pm cd doc a vs ns G Y ho hd hcd hmg hobj hints hlen hg
  obtain ⟨fd, hb, hF⟩ := F w mg fa _ (hY w _ Y) G.T.g hmg
  exact law_callG (hY w _ Y) G.T.g G.T.b G.T.builtins G.T.nolimit hg hobj hints (Nat.le_trans hlen hn2) hr hF hb fun H hO hS => hsp _ H a ns hlen hO hS
end Vk
/-! Data that is shown by a short text. -/
namespace Vk
open PySem PySem.Spec PyProof.Rows L2
/-- levels at most k, items at most n, each int of few bits -/
structure FitN (k n : Nat) (d : PyData) : Prop where
  s : d.showable = true
  h : d.hasDict = false
  dp : d.depth ≤ k
  l : d.leavesShort 2000 = true
  b : d.bulk ≤ n
structure FitLN (k n : Nat) (ds : List PyData) : Prop where
  s : PyData.showableAll ds = true
  h : PyData.hasDictAll ds = false
  dp : PyData.depthAll ds ≤ k
  l : PyData.leavesShortAll 2000 ds = true
  b : PyData.bulkAll ds ≤ n
theorem FitLN.nil {k n : Nat} : FitLN k n [] := ⟨by simp [PyData.showableAll], by simp [PyData.hasDictAll], by simp [PyData.depthAll], by simp [PyData.leavesShortAll], by simp [PyData.bulkAll]⟩
theorem FitLN.cons {k a b n : Nat} {d : PyData} {ds : List PyData} (x : FitN k a d) (y : FitLN k b ds) (hn : a + 1 + b ≤ n) : FitLN k n (d :: ds) :=
  ⟨by simp [PyData.showableAll, x.s, y.s], by simp [PyData.hasDictAll, x.h, y.h], by have := x.dp; have := y.dp; simp only [PyData.depthAll]; omega, by simp [PyData.leavesShortAll, x.l, y.l], by have := x.b; have := y.b; simp only [PyData.bulkAll]; omega⟩
theorem FitN.list {k n : Nat} {ds : List PyData} (y : FitLN k n ds) : FitN (k + 1) n (.list ds) :=
  ⟨by simp [PyData.showable, y.s], by simp [PyData.hasDict, y.h], by have := y.dp; simp only [PyData.depth]; omega, by simp [PyData.leavesShort, y.l], by have := y.b; simp only [PyData.bulk]; omega⟩
theorem FitN.tup {k n : Nat} {ds : List PyData} (y : FitLN k n ds) : FitN (k + 1) n (.tuple ds) :=
  ⟨by simp [PyData.showable, y.s], by simp [PyData.hasDict, y.h], by have := y.dp; simp only [PyData.depth]; omega, by simp [PyData.leavesShort, y.l], by have := y.b; simp only [PyData.bulk]; omega⟩
theorem FitN.non {k n : Nat} : FitN k n .none := ⟨by simp [PyData.showable], by simp [PyData.hasDict], by simp [PyData.depth], by simp [PyData.leavesShort], by simp [PyData.bulk]⟩
theorem FitN.bl {k n : Nat} (b : Bool) : FitN k n (.bool b) := ⟨by simp [PyData.showable], by simp [PyData.hasDict], by simp [PyData.depth], by simp [PyData.leavesShort], by simp [PyData.bulk]⟩
theorem FitN.int {k n : Nat} {i : Int} (hi : i.natAbs < 2 ^ 1900) : FitN k n (.int i) := by
  have lg : i.natAbs.log2 < 1900 := PySem.Flt.log2_lt_of (by decide) hi
  refine ⟨by simp only [PyData.showable, decide_eq_true_eq]; omega, by simp [PyData.hasDict], by simp [PyData.depth], ?_, by simp [PyData.bulk]⟩
  have h1 := int_text_length_le (by decide) lg
  have h2 : (PyData.shown (.int i)).length = (Str.ofString (toString i)).length := by simp only [PyData.shown]
  rw [PySem.ofString_length] at h2
  have h3 : (PyData.shown (.int i)).length ≤ 2000 := by omega
  simpa only [PyData.leavesShort, decide_eq_true_eq] using h3
theorem FitN.str {k n : Nat} (x : Str) (h : (x.cps.toList.all fun c => decide (c < 16 ^ 8)) = true) (hn : x.cps.size ≤ n) : FitN k n (.str x) :=
  ⟨by simp [PyData.showable], by simp [PyData.hasDict], by simp [PyData.depth], by simpa only [PyData.leavesShort] using h, by simp only [PyData.bulk]; omega⟩
theorem FitN.mono {k n k' n' : Nat} {d : PyData} (x : FitN k n d) (h1 : k ≤ k') (h2 : n ≤ n') : FitN k' n' d := ⟨x.s, x.h, Nat.le_trans x.dp h1, x.l, Nat.le_trans x.b h2⟩
/-- the text is not too long -/
theorem FitN.len {k n : Nat} {d : PyData} (x : FitN k n d) (hn : n ≤ 8000) : d.shown.length ≤ sizeLine := by
  have h := PyData.shown_le_bulk 2000 (by decide) d x.l
  have h2 : (2000 + 2) * d.bulk ≤ 2002 * 8000 := Nat.mul_le_mul_left _ (Nat.le_trans x.b hn)
  rw [sizeLine_eq]
  omega
/-- the text of a short value -/
def Fit (d : PyData) : Prop := FitN 60 8000 d
theorem rep_ {K : PySem.W.Frag} {H : Hp} {x : V} {d : PyData} {Q : VK} (hD : Dp K H x d) (f : Fit d) (q : Q (.str d.shown) H) : rRep K [x] H Q := ⟨x, d, rfl, hD, f.s, f.h, f.dp, f.len (Nat.le_refl _), q⟩
end Vk
namespace Vk
open PySem PySem.Spec PyProof.Rows L2
/-- both ways of an if lead to what follows -/
theorem tifs_both {c : Bool} {t u : TS} {D : Ends} {σ : L2.St} {H : Hp} (Good : L2.St → Hp → Prop) (hQ : ∀ σ' H', Good σ' H' → D.nx σ' H') (ht : c = true → (∀ σ' H', Good σ' H' → D.nx σ' H') → t D σ H)
    (hu : c = false → (∀ σ' H', Good σ' H' → D.nx σ' H') → u D σ H) : if c = true then t D σ H else u D σ H := by
  cases c with
  | true => exact iteT (ht rfl hQ)
  | false => exact iteF (hu rfl hQ)
theorem SameBut.free {m p : Addr} {H H' : Hp} (s : SameBut m H H') (hm : ∃ o, H' m = some o) (h : H' p = none) : H p = none := by
  cases q : H p with
  | none => rfl
  | some o =>
    by_cases e : p = m
    · subst e
      obtain ⟨o', z⟩ := hm
      rw [h] at z
      cases z
    · have z := s p o e q
      rw [h] at z
      cases z
end Vk
namespace Vk
open PySem PySem.Spec PyProof.Rows L2
/-- both ways of a conditional expression lead to what follows, where they make things -/
theorem tif_bothH {c : Bool} {ta tb : TE} {σ : L2.St} {H : Hp} {Q : VK} (Good : V → Hp → Prop) (hQ : ∀ v H', Good v H' → Q v H') (ha : c = true → (∀ v H', Good v H' → Q v H') → ta σ H Q) (hb : c = false → (∀ v H', Good v H' → Q v H') → tb σ H Q) :
    if c = true then ta σ H Q else tb σ H Q := by
  cases c with
  | true => exact iteT (ha rfl hQ)
  | false => exact iteF (hb rfl hQ)
end Vk
namespace Vk
open PySem PySem.Spec PyProof.Rows L2
/-- a value of one of seven kinds -/
inductive Oky (H : Hp) : V → String → Prop where
  | non : Oky H .non "NoneType"
  | bl (b : Bool) : Oky H (.bl b) "bool"
  | int (i : Int) : Oky H (.int i) "int"
  | str (x : Str) : Oky H (.str x) "str"
  | lst {a : Addr} {xs : List V} (e : H a = some (.lst xs)) : Oky H (.ref a) "list"
  | tup {a : Addr} {xs : List V} (e : H a = some (.tup xs)) : Oky H (.ref a) "tuple"
  | dK {a : Addr} {kvs : List (Key × V)} (e : H a = some (.dK kvs)) : Oky H (.ref a) "dict"
theorem Oky.ty {K : PySem.W.Frag} {H : Hp} {x : V} {t : String} (h : Oky H x t) : TyX K H x (.type t) := by
  cases h with
  | non => exact .base .non
  | bl b => exact .base (.bl b)
  | int i => exact .base (.int i)
  | str x => exact .base (.str x)
  | lst e => exact .base (.lst e)
  | tup e => exact .base (.tup e)
  | dK e => exact .base (.dK e)
theorem Oky.same {H H' : Hp} {x : V} {t : String} (h : Oky H x t) (s : Same H H') : Oky H' x t := by
  cases h with
  | non => exact .non
  | bl b => exact .bl b
  | int i => exact .int i
  | str x => exact .str x
  | lst e => exact .lst (s _ _ e)
  | tup e => exact .tup (s _ _ e)
  | dK e => exact .dK (s _ _ e)
theorem Oky.kTup {H : Hp} {x : V} {t : String} (h : Oky H x t) : kitB t "tuple" = some (decide (t = "tuple")) := by
  cases h <;> decide +kernel
theorem Oky.kInt {H : Hp} {x : V} {t : String} (h : Oky H x t) : kitB t "int" = some (decide (t = "int" ∨ t = "bool")) := by
  cases h <;> decide +kernel
theorem Oky.kBool {H : Hp} {x : V} {t : String} (h : Oky H x t) : kitB t "bool" = some (decide (t = "bool")) := by
  cases h <;> decide +kernel
def isInt : V → Bool
  | .int _ => true
  | _ => false
theorem Oky.isInt {H : Hp} {x : V} {t : String} (h : Oky H x t) : isInt x = decide (t = "int") := by
  cases h <;> simp [Vk.isInt]
/-- the reading of isinstance(x, T) -/
theorem isi_ {K : PySem.W.Frag} {H : Hp} {x : V} {t T : String} {b : Bool} {Q : VK} (h : Oky H x t) (k : kitB t T = some b) (q : Q (.bl b) H) : rIsi K [x, .ty T] H Q :=
  ⟨x, .ty T, _, _, b, rfl, .ty T, h.ty, kit_ty k, q⟩
end Vk
/-! zip of a list and a tuple in any mix, enumerate of a tuple. -/
namespace Vk
open PySem PySem.Spec PyProof.Rows L2
/-- a list (true) or a tuple (false) -/
def SqK : Bool → PySem.W.Frag → Hp → Addr → List V → Prop
  | true => SqL
  | false => SqT
def ItA : Bool → Heap → Addr → Addr → Nat → Prop
  | true => Heap.IsListIter
  | false => Heap.IsTupleIter
def AtA : Bool → Heap → Addr → Array Value → Prop
  | true => Heap.IsList
  | false => Heap.IsTuple
/-- a new iterator's object -/
def itO : Bool → Addr → Obj
  | true, l => { cls := .type "list_iterator", data := .fields #[.ref l, .int 0 0] }
  | false, l => { cls := .type "tuple_iterator", data := .fields #[.ref l, .int 0 0] }
section
variable {X : Cx} {pins : List (Addr × Obj)} {σ : L2.St} {H : Hp} {s : Shared} {b : Bool} {a : Addr} {xs ys : List V} {h h' : Heap} {it l : Addr} {i : Nat}
theorem seqK (I : Inv X pins σ H s) (q : SqK b X.K H a xs) : ∃ its : List Value, Vals xs its ∧ AtA b s.heap a its.toArray := by
  cases b with
  | true =>
    obtain ⟨its, r, p, _⟩ := I.list q
    exact ⟨its, r, p.isList⟩
  | false =>
    obtain ⟨its, r, p, _⟩ := I.tuple q
    exact ⟨its, r, p⟩
theorem injK (I : Inv X pins σ H s) (q : SqK b X.K H a xs) (q' : SqK b X.K H a ys) : xs = ys := by
  cases b with
  | true => exact I.list_inj q q'
  | false => exact I.tuple_inj q q'
theorem ItA.at (q : ItA b h it l i) (k : ∀ o, h.get? it = some o → h'.get? it = some o) : ItA b h' it l i := by
  cases b with
  | true => exact Heap.IsListIter.at q k
  | false => exact Heap.IsTupleIter.at q k
theorem ItA.obj (q : ItA b h it l i) : ∃ o, h.get? it = some o ∧ ∀ v, o.data ≠ .cell v := by
  cases b with
  | true =>
    obtain ⟨o, e, _, d⟩ := q
    exact ⟨o, e, fun v z => by rw [d] at z; cases z⟩
  | false =>
    obtain ⟨o, e, _, d⟩ := q
    exact ⟨o, e, fun v z => by rw [d] at z; cases z⟩
theorem ItA.new (q : h.get? it = some (itO b l)) : ItA b h it l 0 := by
  cases b with
  | true => exact ⟨_, q, rfl, rfl⟩
  | false => exact ⟨_, q, rfl, rfl⟩
theorem drawsK {prog : Program} {w : World} {A : Around} (hh : A.handled = none) (hne : l ≠ it) (items : Array Value) :
    Draws prog w A it [it, l] items.size (fun i v => items[i]? = some v) (fun i h => ItA b h it l i ∧ AtA b h l items) := by
  cases b with
  | true => exact Draws.list hh it l hne items
  | false => exact Draws.tuple hh it l hne items
theorem beginsK (l : Addr) (items : Array Value) : Begins (.ref l) (itO b l) fun h => AtA b h l items := by
  cases b with
  | true => exact begins_list l items
  | false => exact begins_tuple l items
theorem AtA.lt {items : Array Value} (q : AtA b h l items) : l < h.objs.size := by
  cases b with
  | true =>
    obtain ⟨o, e, _⟩ := q
    exact Heap.lt_size e
  | false =>
    obtain ⟨o, e, _⟩ := q
    exact Heap.lt_size e
end
/-- two of either kind, the items in new pairs -/
def ItzK (b1 b2 : Bool) (K : PySem.W.Frag) (a b : Addr) : It :=
  ⟨fun i H => ∃ (xs ys : List V) (x y : V), SqK b1 K H a xs ∧ SqK b2 K H b ys ∧ xs[i]? = some x ∧ ys[i]? = some y,
    fun i H v H' => ∃ T x y, v = .ref T ∧ H T = none ∧ H' = upd H T (.tup [x, y]) ∧ (∀ xs, SqK b1 K H a xs → xs[i]? = some x) ∧ ∀ ys, SqK b2 K H b ys → ys[i]? = some y,
    fun i H => ∃ xs ys : List V, SqK b1 K H a xs ∧ SqK b2 K H b ys ∧ i ≤ xs.length ∧ i ≤ ys.length ∧ (i = xs.length ∨ i = ys.length)⟩
theorem walk_zipK {b1 b2 : Bool} {K : PySem.W.Frag} {a b : Addr} {xs ys : List V} {n : Nat} (hn : n = min xs.length ys.length) : Walk (ItzK b1 b2 K a b) n (fun H => SqK b1 K H a xs ∧ SqK b2 K H b ys) (YPair (fun i => xs[i]?) (fun i => ys[i]?)) where
  goes := fun i H hi ⟨q1, q2⟩ => by
    have l1 : i < xs.length := by omega
    have l2 : i < ys.length := by omega
    exact ⟨xs, ys, xs[i], ys[i], q1, q2, List.getElem?_eq_getElem l1, List.getElem?_eq_getElem l2⟩
  stops := fun H ⟨q1, q2⟩ => ⟨xs, ys, q1, q2, by omega, by omega, by omega⟩
  yields := fun i H v H' hi ⟨q1, q2⟩ ⟨T, x, y, e1, e2, e3, f1, f2⟩ => ⟨T, x, y, e1, e2, e3, f1 _ q1, f2 _ q2⟩
section
variable {P : Program} {w : World} {K : PySem.W.Frag} {elts : List Expr} {kk : Nat} {tpos : Pos}
theorem five {c z TI TO i1 i2 : Addr} (h : c ∈ [z, TI, TO, i1, i2]) : c = z ∨ c = TI ∨ c = TO ∨ c = i1 ∨ c = i2 := by simpa using h
theorem turn_zipK {b1 b2 : Bool} {a b z TI TO i1 i2 : Addr} (S : ZipSep2 z TI TO i1 i2 [i1, a] [i2, b]) (ha : a ≠ i1) (hb : b ≠ i2) :
    Turn P w K (.Tuple elts kk tpos) (ItzK b1 b2 K a b) [z, TI, TO, i1, i2] z (fun i h => IsZip h z TI TO .none ∧ IsPair h TI (.ref i1) (.ref i2) ∧ (∃ x y, IsPair h TO x y) ∧ ItA b1 h i1 a i ∧ ItA b2 h i2 b i) where
  mem := List.mem_cons_self
  obj := fun i h st c hc => by
    obtain ⟨hz, hTI, ⟨x, y, hTO⟩, q1, q2⟩ := st
    rcases five hc with rfl | rfl | rfl | rfl | rfl
    · exact ⟨_, hz, fun v q => nomatch q⟩
    · exact ⟨_, hTI, fun v q => nomatch q⟩
    · exact ⟨_, hTO, fun v q => nomatch q⟩
    · exact q1.obj
    · exact q2.obj
  keep := fun i h h' st k => by
    obtain ⟨hz, hTI, ⟨x, y, hTO⟩, q1, q2⟩ := st
    exact ⟨k z (by simp) _ hz, k TI (by simp) _ hTI, ⟨x, y, k TO (by simp) _ hTO⟩, q1.at (k i1 (by simp)), q2.at (k i2 (by simp))⟩
  item := by
    intro X hP hw hK hc i pins s σ H E I hf st hg
    subst hP hw hK
    obtain ⟨hz, hTI, ⟨x0, y0, hTO⟩, q1, q2⟩ := st
    obtain ⟨xs, ys, x, y, sx, sy, hx, hy⟩ := hg
    obtain ⟨its1, r1, p1⟩ := seqK I sx
    obtain ⟨its2, r2, p2⟩ := seqK I sy
    obtain ⟨u, hu, ru⟩ := r1.get hx
    obtain ⟨u2, hu2, ru2⟩ := r2.get hy
    have hd : X.A.in1.handled = none := I.ok.hd hc
    have l1 : i < its1.toArray.size := by
      have := (List.getElem?_eq_some_iff.mp hu).1
      simpa using this
    have l2 : i < its2.toArray.size := by
      have := (List.getElem?_eq_some_iff.mp hu2).1
      simpa using this
    have zl : z < s.heap.objs.size := Heap.lt_size hz
    refine wpAny_pyNext_zipD2_item S (drawsK (prog := X.prog) (w := X.w) (b := b1) hd ha its1.toArray) (drawsK (prog := X.prog) (w := X.w) (b := b2) hd hb its2.toArray) hz hTI hTO ⟨q1, p1⟩ ⟨q2, p2⟩ l1 l2 fun v1 v2 h' tk e1 e2 z' TO' s1' s2' hT hsz hk => ?_
    have ev1 : v1 = u := by
      have : its1[i]? = some v1 := by simpa using e1
      rw [hu] at this
      exact (Option.some.inj this).symm
    have ev2 : v2 = u2 := by
      have : its2[i]? = some v2 := by simpa using e2
      rw [hu2] at this
      exact (Option.some.inj this).symm
    subst ev1 ev2
    refine ⟨_, rfl, wpAny_letOwnedTupleGo_zip (s := { s with heap := h', toks := tk }) z' fun h'' z'' sb => ?_⟩
    have hT2 : h''.get? s.heap.objs.size = some { cls := .type "tuple", data := .seq #[v1, v2] } := (sb.2 _ (Nat.ne_of_gt zl)).trans hT
    have new : ObjOk X.prog X.w (upd H s.heap.objs.size (.tup [x, y])) h'' s.heap.objs.size (.tup [x, y]) :=
      ⟨by show 2 ≤ sizeLine; decide, [v1, v2], .cons ru (.cons ru2 .nil), ⟨_, hT2, rfl, _, rfl⟩⟩
    have I1 : Inv X pins σ (upd H s.heap.objs.size (.tup [x, y])) { s with heap := h'', toks := tk } :=
      I.turnedNew (t' := tk) (ch := [z, TI, TO, i1, i2]) (fun c o hc q => (sb.2 c fun q' => hc (by simp [q'])).trans (hk c o (fun q' => hc (by simp [q'])) (fun q' => hc (by simp [q'])) (fun q' => hc (by simp [q'])) (fun q' => hc (by simp [q'])) q)) hf (Nat.le_refl _) new
    have nz1 : i1 ≠ z := fun e => S.zf1 (by rw [e]; exact List.mem_cons_self)
    have nz2 : i2 ≠ z := fun e => S.zf2 (by rw [e]; exact List.mem_cons_self)
    refine ⟨.ref s.heap.objs.size, _, I1, rfl, ⟨_, x, y, rfl, I.hok.fresh (Nat.le_refl _), rfl, fun l hl => by rw [injK I hl sx]; exact hx, fun l hl => by rw [injK I hl sy]; exact hy⟩, ⟨z'', ?_, ⟨v1, v2, ?_⟩, ?_, ?_⟩, fun c hcm => ?_⟩
    · exact (sb.2 _ S.TIz).trans (hk _ _ S.TIz S.TITO S.TIi1 S.TIi2 hTI)
    · exact (sb.2 _ S.TOz).trans TO'
    · exact s1'.1.at fun o q => (sb.2 _ nz1).trans q
    · exact s2'.1.at fun o q => (sb.2 _ nz2).trans q
    · have lt : c < s.heap.objs.size := by
        rcases five hcm with rfl | rfl | rfl | rfl | rfl
        · exact zl
        · exact Heap.lt_size hTI
        · exact Heap.lt_size hTO
        · obtain ⟨o, e, _⟩ := q1.obj
          exact Heap.lt_size e
        · obtain ⟨o, e, _⟩ := q2.obj
          exact Heap.lt_size e
      rw [upd_ne (Nat.ne_of_lt lt)]
      exact (hf c hcm).1
  done := by
    intro X hP hw hK hc i pins s σ H E I hf st hg
    subst hP hw hK
    obtain ⟨hz, hTI, ⟨x0, y0, hTO⟩, q1, q2⟩ := st
    obtain ⟨xs, ys, sx, sy, l1, l2, le⟩ := hg
    obtain ⟨its1, r1, p1⟩ := seqK I sx
    obtain ⟨its2, r2, p2⟩ := seqK I sy
    have hd : X.A.in1.handled = none := I.ok.hd hc
    have m1 := r1.length
    have m2 := r2.length
    refine wpAny_pyNext_zipD2_end S (drawsK (prog := X.prog) (w := X.w) (b := b1) hd ha its1.toArray) (drawsK (prog := X.prog) (w := X.w) (b := b2) hd hb its2.toArray) hz hTI hTO ⟨q1, p1⟩ ⟨q2, p2⟩ (by simp; omega) (by simp; omega) (by simp; omega) fun h' tk hk => ⟨rfl, ?_⟩
    exact I.turnedL (t' := tk) (ch := [z, TI, TO, i1, i2]) (fun c o hc q => hk c o (fun q' => hc (by simp [q'])) (fun q' => hc (by simp [q'])) (fun q' => hc (by simp [q'])) (fun q' => hc (by simp [q'])) q) hf
  self := fun A i s Q E st h => wpAny_pyIter_zip st.1 h
def iZipK (K : PySem.W.Frag) (ta : TA) : TI := fun σ H R => ta σ H fun vs H1 => ∃ b1 b2 a b xs ys, vs = [.ref a, .ref b] ∧ SqK b1 K H1 a xs ∧ SqK b2 K H1 b ys ∧ R (ItzK b1 b2 K a b) H1
theorem pi_zipK {X : Cx} {e e2 : Expr} {ta : TA} {p pos : Pos} (hg : Gl X "zip") (hm : X.mg "zip" = none) (ha : PA X [e, e2] ta)
    (hs : starEach [e, e2] X.env = (false, eval e X.env) :: starEach [e2] X.env := by rfl) (hpl : (backTo pos (starEach [e2] X.env)).any (·.1) = false := by rfl) :
    PI X (.Tuple elts kk tpos) (.Call (.Name "zip" p) [e, e2] [] pos) (iZipK X.K ta) := by
  refine ⟨fun pins s σ H R I h => ?_⟩
  refine Call_ (ld_blt I hg hm PyProof.Rows.boot_zip (PyProof.Rows.callWith_type1 (thn (ha.run pos pins s σ H _ I h) fun us s1 q => ?_) hs hpl))
  obtain ⟨vs, H1, I1, r1, b1, b2, a, b, xs, ys, rfl, sx, sy, q⟩ := q
  obtain ⟨u1, u2, rfl, e1, e2⟩ := vals2 r1
  cases e1
  cases e2
  obtain ⟨its1, _, p1⟩ := seqK I1 sx
  obtain ⟨its2, _, p2⟩ := seqK I1 sy
  refine zip_begins2 (beginsK (b := b1) a its1.toArray) (beginsK (b := b2) b its2.toArray) p1 p2 fun h' hz hTI hTO g1 g2 hsz hk => wpAny_pyIter_zip hz ?_
  have I2 : Inv X pins σ H1 { s1 with heap := h' } := I1.kept (t' := s1.toks) hk
  have na : a < s1.heap.objs.size := p1.lt
  have nb : b < s1.heap.objs.size := p2.lt
  have S : ZipSep2 (s1.heap.objs.size + 4) (s1.heap.objs.size + 2) (s1.heap.objs.size + 3) s1.heap.objs.size (s1.heap.objs.size + 1) [s1.heap.objs.size, a] [s1.heap.objs.size + 1, b] :=
    zip_sep2 (fun c hc => by rw [List.mem_singleton.mp hc]; exact na) (fun c hc => by rw [List.mem_singleton.mp hc]; exact nb)
  refine ⟨s1.heap.objs.size + 4, [s1.heap.objs.size + 4, s1.heap.objs.size + 2, s1.heap.objs.size + 3, s1.heap.objs.size, s1.heap.objs.size + 1], _, _, H1, rfl, I2, turn_zipK S (Nat.ne_of_lt na) (Nat.ne_of_lt (Nat.lt_succ_of_lt nb)), ⟨hz, hTI, ⟨_, _, hTO⟩, .new g1, .new g2⟩, fun c hc => ?_, q⟩
  have le : s1.heap.objs.size ≤ c := by
    rcases five hc with rfl | rfl | rfl | rfl | rfl <;> omega
  exact I1.fpOk le (I1.hok.fresh le)
theorem meets_enum1 {v : Value} {o : Obj} {H : Heap → Prop} (B : Begins v o H) :
    Meets (Builtin.«enumerate.__new__» ⟨[.type "enumerate", v], []⟩) (fun _ R s => H s.heap ∧
      R (.ok (.ret (.ref (s.heap.push o).objs.size))) { s with heap := (s.heap.push o).push { cls := .type "enumerate", data := .fields #[.none, .bool false, .ref s.heap.objs.size, rawInt 0, .none, .none] } }) :=
  .of_wp fun prog w A R s h => by
    obtain ⟨hp, g, d, tk, os⟩ := s
    obtain ⟨h1, h⟩ := h
    have sub := sub_enumerate
    have it : ∀ {A' : Around} {E : Value → Shared → Prop} {Q : Value → Shared → Prop}, Q (.ref hp.objs.size) ⟨hp.push o, g, d, tk, os⟩ → wpAny (model prog w) A' (pyIter v) Q E ⟨hp, g, d, tk, os⟩ :=
      fun q => B.iter prog w _ _ ⟨hp, g, d, tk, os⟩ _ h1 q
    wp_walk using it
    refine wpAny_stack_any fun st => wpAny_pure ?_
    split
    · rename_i c _ _ _ _ _
      cases (c == Value.type "enumerate") <;> (wp_walk using it; exact ⟨_, rfl, h⟩)
    · wp_walk using it
      exact ⟨_, rfl, h⟩
theorem call_enum1 {prog : Program} {A : Around} {E : Value → Shared → Prop} {s : Shared} {v : Value} {o : Obj} {H : Heap → Prop} {Q : Value → Shared → Prop} (B : Begins v o H) (h1 : H s.heap)
    (h : ∀ h', IsEnum h' (s.heap.objs.size + 1) s.heap.objs.size 0 .none → h'.get? s.heap.objs.size = some o → (∀ b u, s.heap.get? b = some u → h'.get? b = some u) → Q (.ref (s.heap.objs.size + 1)) { s with heap := h' }) :
    wpAny (model prog w) A (call (.type "enumerate") [v]) Q E s := by
  refine callType_new F.called_enumerate (by decide) (F.typeCall_enumerate_1 _) (F.newCall_enumerate_1 _) (fun obj => F.args_object_init_2 obj _) F.entry_enumerate_new (meets_enum1 B) ⟨h1, ?_⟩
  have z : (s.heap.push o).objs.size = s.heap.objs.size + 1 := Heap.size_push ..
  show _ ∧ _
  rw [z]
  have e : IsEnum ((s.heap.push o).push { cls := .type "enumerate", data := .fields #[.none, .bool false, .ref s.heap.objs.size, rawInt 0, .none, .none] }) (s.heap.objs.size + 1) s.heap.objs.size 0 .none := by
    have y := Heap.get?_push_size (s.heap.push o) (o := { cls := .type "enumerate", data := .fields #[.none, .bool false, .ref s.heap.objs.size, rawInt 0, .none, .none] }) rfl
    rw [z] at y
    exact y
  exact ⟨⟨_, e, rfl⟩, h _ e (Heap.get?_push_of_some _ (Heap.get?_push_size _ B.free)) fun b u x => Heap.get?_push_of_some _ (Heap.get?_push_of_some _ x)⟩
/-- one of either kind, each item in a new pair behind its number -/
def IteK (b : Bool) (K : PySem.W.Frag) (a : Addr) : It :=
  ⟨fun i H => ∃ (xs : List V) (x : V), SqK b K H a xs ∧ xs[i]? = some x, fun i H v H' => ∃ T x, v = .ref T ∧ H T = none ∧ H' = upd H T (.tup [.int (i : Nat), x]) ∧ ∀ xs, SqK b K H a xs → xs[i]? = some x,
    fun i H => ∃ xs : List V, SqK b K H a xs ∧ xs.length = i⟩
theorem walk_enumK {b : Bool} {a : Addr} {xs : List V} : Walk (IteK b K a) xs.length (fun H => SqK b K H a xs) (YPair (fun i => some (.int (i : Nat))) (fun i => xs[i]?)) where
  goes := fun i H hi q => ⟨xs, xs[i], q, List.getElem?_eq_getElem hi⟩
  stops := fun H q => ⟨xs, q, rfl⟩
  yields := fun i H v H' hi q ⟨T, x, e1, e2, e3, f⟩ => ⟨T, _, x, e1, e2, e3, rfl, f _ q⟩
theorem turn_enumK {b : Bool} {a e it : Addr} (ha : a ≠ it) (hea : e ≠ a) (hei : e ≠ it) :
    Turn P w K (.Tuple elts kk tpos) (IteK b K a) [e, it] e (fun i h => (∃ old, IsEnum h e it ((i : Nat) : Int) old) ∧ ItA b h it a i) where
  mem := List.mem_cons_self
  obj := fun i h st c hc => by
    obtain ⟨⟨old, he⟩, q⟩ := st
    rcases List.mem_cons.mp hc with rfl | hc
    · exact ⟨_, he, fun v z => nomatch z⟩
    · rw [List.mem_singleton.mp hc]
      exact q.obj
  keep := fun i h h' st k => by
    obtain ⟨⟨old, he⟩, q⟩ := st
    exact ⟨⟨old, k e (by simp) _ he⟩, q.at (k it (by simp))⟩
  item := by
    intro X hP hw hK hc i pins s σ H E I hf st hg
    subst hP hw hK
    obtain ⟨⟨old, he⟩, q⟩ := st
    obtain ⟨xs, x, sx, hx⟩ := hg
    obtain ⟨its, r, p⟩ := seqK I sx
    obtain ⟨u, hu, ru⟩ := r.get hx
    have hd : X.A.in1.handled = none := I.ok.hd hc
    have l1 : i < its.toArray.size := by
      have := (List.getElem?_eq_some_iff.mp hu).1
      simpa using this
    have el : e < s.heap.objs.size := Heap.lt_size he
    have il : it < s.heap.objs.size := by
      obtain ⟨o, z, _⟩ := q.obj
      exact Heap.lt_size z
    refine wpAny_pyNext_enum_itemD (drawsK (prog := X.prog) (w := X.w) (b := b) hd ha its.toArray) he ⟨q, p⟩ l1 hei (by simp [hei, hea]) fun v h' tk e1 ho st' hT hsz hk => ?_
    have ev : v = u := by
      have : its[i]? = some v := by simpa using e1
      rw [hu] at this
      exact (Option.some.inj this).symm
    subst ev
    refine ⟨_, rfl, wpAny_letOwnedTupleGo_enum (s := { s with heap := h', toks := tk + 1 }) ho fun h'' he' sb => ?_⟩
    have hT2 : h''.get? s.heap.objs.size = some { cls := .type "tuple", data := .seq #[.int i tk, v] } := (sb.2 _ (Nat.ne_of_gt el)).trans hT
    have new : ObjOk X.prog X.w (upd H s.heap.objs.size (.tup [.int (i : Nat), x])) h'' s.heap.objs.size (.tup [.int (i : Nat), x]) :=
      ⟨by show 2 ≤ sizeLine; decide, [.int i tk, v], .cons ⟨_, rfl⟩ (.cons ru .nil), ⟨_, hT2, rfl, _, rfl⟩⟩
    have I1 : Inv X pins σ (upd H s.heap.objs.size (.tup [.int (i : Nat), x])) { s with heap := h'', toks := tk + 1 } :=
      I.turnedNew (ch := [e, it]) (fun c o hc z => (sb.2 c fun y => hc (by simp [y])).trans (hk c o (fun y => hc (by simp [y])) (fun y => hc (by simp [y])) z)) hf (Nat.le_refl _) new
    refine ⟨.ref s.heap.objs.size, _, I1, rfl, ⟨_, x, rfl, I.hok.fresh (Nat.le_refl _), rfl, fun ys hy => by rw [injK I hy sx]; exact hx⟩, ⟨⟨v, ?_⟩, st'.1.at fun o z => (sb.2 it (Ne.symm hei)).trans z⟩, fun c hc => ?_⟩
    · have e2 : ((i + 1 : Nat) : Int) = (i : Int) + 1 := by omega
      rw [e2]
      exact he'
    · have lt : c < s.heap.objs.size := by
        rcases List.mem_cons.mp hc with rfl | z
        · exact el
        · rw [List.mem_singleton.mp z]
          exact il
      rw [upd_ne (Nat.ne_of_lt lt)]
      exact (hf c hc).1
  done := by
    intro X hP hw hK hc i pins s σ H E I hf st hg
    subst hP hw hK
    obtain ⟨⟨old, he⟩, q⟩ := st
    obtain ⟨xs, sx, rfl⟩ := hg
    obtain ⟨its, r, p⟩ := seqK I sx
    have hd : X.A.in1.handled = none := I.ok.hd hc
    obtain ⟨f0, f1, f2, f3, f4, f5⟩ := hf it (by simp)
    have hl : xs.length = its.toArray.size := by
      rw [List.size_toArray]
      exact r.length
    refine wpAny_pyNext_enum_endD (drawsK (prog := X.prog) (w := X.w) (b := b) hd ha its.toArray) he (by rw [hl] at q; exact ⟨q, p⟩) fun h' eb => ⟨rfl, I.turned (t' := s.toks) (fun b o hb z => eb b o hb z) f0 f1 f3 f4 f5⟩
  self := fun A i s Q E st h => by
    obtain ⟨⟨old, he⟩, _⟩ := st
    exact wpAny_pyIter_enum he h
def iEnumK (K : PySem.W.Frag) (ta : TA) : TI := fun σ H R => ta σ H fun vs H1 => ∃ b a xs, vs = [.ref a] ∧ SqK b K H1 a xs ∧ R (IteK b K a) H1
theorem pi_enumK {X : Cx} {e : Expr} {ta : TA} {p pos : Pos} (hg : Gl X "enumerate") (hm : X.mg "enumerate" = none) (ha : PA X [e] ta) (hs : starEach [e] X.env = [(false, eval e X.env)] := by rfl) :
    PI X (.Tuple elts kk tpos) (.Call (.Name "enumerate" p) [e] [] pos) (iEnumK X.K ta) := by
  refine ⟨fun pins s σ H R I h => ?_⟩
  refine Call_ (ld_blt I hg hm boot_enumerate (PyProof.Rows.callWith_type1 (thn (ha.run pos pins s σ H _ I h) fun us s1 q => ?_) hs rfl))
  obtain ⟨vs, H1, I1, r1, b, a, xs, rfl, sx, q⟩ := q
  obtain ⟨u, rfl, e1⟩ := vals1 r1
  cases e1
  obtain ⟨its, _, p1⟩ := seqK I1 sx
  refine call_enum1 (beginsK (b := b) a its.toArray) p1 fun h' he g hk => wpAny_pyIter_enum he ?_
  have I2 : Inv X pins σ H1 { s1 with heap := h' } := I1.kept (t' := s1.toks) hk
  have na : a < s1.heap.objs.size := p1.lt
  refine ⟨s1.heap.objs.size + 1, [s1.heap.objs.size + 1, s1.heap.objs.size], _, _, H1, rfl, I2, turn_enumK (Nat.ne_of_lt na) (Nat.ne_of_gt (Nat.lt_succ_of_lt na)) (Nat.succ_ne_self _), ⟨⟨.none, he⟩, .new g⟩, fun c hc => ?_, q⟩
  have le : s1.heap.objs.size ≤ c := by
    rcases List.mem_cons.mp hc with rfl | z
    · exact Nat.le_succ _
    · rw [List.mem_singleton.mp z]
      exact Nat.le_refl _
  exact I1.fpOk le (I1.hok.fresh le)
end
end Vk
/-! Readings by what stands afterwards. -/
namespace Vk
open PySem PySem.Spec PyProof.Rows L2
theorem Same.seqT {K : PySem.W.Frag} {H H' : Hp} {a : Addr} {xs : List V} (s : Same H H') (h : SqT K H a xs) : SqT K H' a xs := by
  rcases h with (h | ⟨o, h⟩) | h
  · exact .inl (.inl (s _ _ h))
  · exact .inl (.inr ⟨o, s _ _ h⟩)
  · exact .inr h
theorem Same.seqK {b : Bool} {K : PySem.W.Frag} {H H' : Hp} {a : Addr} {xs : List V} (s : Same H H') (h : SqK b K H a xs) : SqK b K H' a xs := by
  cases b with
  | true => exact s.seq h
  | false => exact Same.seqT s h
/-- t + u -/
theorem cat_any {K : PySem.W.Frag} {H : Hp} {a b : Addr} {xs ys : List V} {Q : VK} (ha : SqT K H a xs) (hb : SqT K H b ys) (hl : xs.length + ys.length ≤ sizeLine) (q : ∀ r H', Same H H' → SqT K H' r (xs ++ ys) → Q (.ref r) H') : rCatA K (.ref a) (.ref b) H Q := by
  refine ⟨a, b, xs, ys, rfl, rfl, ha, hb, hl, fun e => ?_, fun _ e => ?_, fun _ _ p np => q p _ (same_new np) (SqT.of upd_same)⟩
  · subst e
    exact q b H (Same.refl _) hb
  · subst e
    exact q a H (Same.refl _) (by rw [List.append_nil]; exact ha)
theorem cutV_whole (xs : List V) (lo hi : Option Int) (h : HT.sIx xs.length 0 lo = 0 ∧ HT.sIx xs.length xs.length hi = xs.length) : cutV xs lo hi = xs := by
  unfold cutV
  rw [h.1, h.2, List.drop_zero, Nat.sub_zero, List.take_length]
/-- t[lo:hi] -/
theorem slice_any {K : PySem.W.Frag} {H : Hp} {a : Addr} {xs : List V} {lo hi : Option Int} {Q : VK} (ha : SqT K H a xs) (q : ∀ r H', Same H H' → SqT K H' r (cutV xs lo hi) → Q (.ref r) H') : rSlA K (.ref a) lo hi H Q :=
  ⟨a, xs, rfl, ha, fun h => q a H (Same.refl _) (by rw [cutV_whole xs lo hi h]; exact ha), fun _ p np => q p _ (same_new np) (SqT.of upd_same)⟩
/-- from one on -/
theorem cut1 {xs : List V} {x : V} : cutV (x :: xs) (some 1) none = xs := by
  unfold cutV
  have e1 : HT.sIx (x :: xs).length 0 (some 1) = 1 := by
    have h := HT.sIx_nat (x :: xs).length 0 1
    rw [List.length_cons] at h ⊢
    exact h.trans (by omega)
  have e2 : HT.sIx (x :: xs).length (x :: xs).length none = xs.length + 1 := by
    rw [HT.sIx_none, List.length_cons]
  rw [e1, e2, List.drop_succ_cons, List.drop_zero, Nat.add_sub_cancel, List.take_length]
/-- a comprehension without a test, over any walk, whose items are those of R -/
theorem lc_to {J : It} {n : Nat} {G : Hp → Prop} {Y : Nat → Hp → V → Hp → Prop} (w : Walk J n G Y) {g : TG} {te : TE} {vs : List Nat} {σ : L2.St} {H1 : Hp} {D : Addr} {Qd : Hp → Prop} (R : List V) (hn : R.length = n) (hz : n < sizeLine) (nD : H1 D = none)
    (hG : ∀ H, Same H1 H → G H)
    (hs : ∀ (i : Nat) (x y : V) (H H' : Hp) (Qy : VK), R[i]? = some y → i < n → Same H1 H → Y i H x H' → (∀ H4, Same H H4 → Qy y H4) → g x (wipe σ vs) H' fun σ2 H2 => wipe σ2 vs = wipe σ vs ∧ te σ2 H2 Qy)
    (hd : ∀ H, Same H1 H → H D = some (.lst R) → Qd H) :
    ∃ W : Nat → Nat → Hp → Prop, (∃ m, W 0 m (upd H1 D (.lst []))) ∧ ∀ i m H, W i m H →
      (J.stop i H ∧ Qd H) ∨ (J.go i H ∧ ∃ Nx : Hp → Prop, (∀ H', Nx H' → ∃ m', m' < m ∧ W (i + 1) m' H') ∧ ∀ x H', J.yld i H x H' → g x (wipe σ vs) H' fun σ2 H2 => wipe σ2 vs = wipe σ vs ∧ tYes σ2 H2 fun b H3 =>
        if b = true then te σ2 H3 fun y H4 => ∃ acc, H4 D = some (.lst acc) ∧ acc.length < sizeLine ∧ Nx (upd H4 D (.lst (acc ++ [y]))) else Nx H3) := by
  refine lc_it w (tt := tYes) (fun i H => Same H1 H ∧ H D = some (.lst (R.take i))) ⟨same_new nD, by rw [upd_same]; rfl⟩ (fun i H _ p => hG H p.1) ?_ ?_
  · rintro i x H H' hi ⟨s, d⟩ y
    have hiR : i < R.length := by omega
    obtain ⟨v, hv⟩ : ∃ v, R[i]? = some v := ⟨_, List.getElem?_eq_getElem hiR⟩
    exact hs i x v H H' (fun y H4 => ∃ acc, H4 D = some (.lst acc) ∧ acc.length < sizeLine ∧ Same H1 (upd H4 D (.lst (acc ++ [y]))) ∧ upd H4 D (.lst (acc ++ [y])) D = some (.lst (R.take (i + 1)))) hv hi s y fun H4 s4 => by
      refine ⟨R.take i, s4 _ _ d, ?_, same_put (s.trans s4) nD, ?_⟩
      · rw [List.length_take]
        omega
      · rw [upd_same, List.take_add_one, hv]
        rfl
  · rintro H ⟨s, d⟩
    refine hd H s ?_
    rw [d, ← hn, List.take_length]
/-- a tuple that stands in the heap -/
def Tp (H : Hp) (a : Addr) (xs : List V) : Prop := H a = some (.tup xs)
theorem Tp.same {H H' : Hp} {a : Addr} {xs : List V} (h : Tp H a xs) (s : Same H H') : Tp H' a xs := s _ _ h
theorem Tp.t {K : PySem.W.Frag} {H : Hp} {a : Addr} {xs : List V} (h : Tp H a xs) : SqT K H a xs := SqT.of h
theorem Tp.but {m : Addr} {H H' : Hp} {a : Addr} {xs : List V} {kvs : List (Key × V)} (h : Tp H a xs) (hm : H m = some (.dK kvs)) (s : SameBut m H H') : Tp H' a xs := s _ _ (ne_of h hm (by intro z; cases z)) h
theorem cat_tp {K : PySem.W.Frag} {H : Hp} {a b : Addr} {xs ys : List V} {Q : VK} (ha : Tp H a xs) (hb : Tp H b ys) (hl : xs.length + ys.length ≤ sizeLine) (q : ∀ r H', Same H H' → Tp H' r (xs ++ ys) → Q (.ref r) H') : rCatA K (.ref a) (.ref b) H Q := by
  refine ⟨a, b, xs, ys, rfl, rfl, ha.t, hb.t, hl, fun e => ?_, fun _ e => ?_, fun _ _ p np => q p _ (same_new np) upd_same⟩
  · subst e
    exact q b H (Same.refl _) hb
  · subst e
    exact q a H (Same.refl _) (by rw [List.append_nil]; exact ha)
theorem slice_tp {K : PySem.W.Frag} {H : Hp} {a : Addr} {xs : List V} {lo hi : Option Int} {Q : VK} (ha : Tp H a xs) (q : ∀ r H', Same H H' → Tp H' r (cutV xs lo hi) → Q (.ref r) H') : rSlA K (.ref a) lo hi H Q :=
  ⟨a, xs, rfl, ha.t, fun h => q a H (Same.refl _) (by rw [cutV_whole xs lo hi h]; exact ha), fun _ p np => q p _ (same_new np) upd_same⟩
end Vk
namespace Vk
open PySem PySem.Spec PyProof.Rows L2
/-- a tuple once is the tuple -/
theorem once_ (l : Addr) (its : Array Value) (n : Nat) (dd : Option Addr) (sl : Array (Option Value)) (u : Tok) :
    Meets (Builtin.«tuple.__mul__» ⟨[.ref l, .int 1 u], []⟩) (fun _ R s => s.heap.get? l = some { cls := .type "tuple", dict := dd, data := .seq its n, slots := sl } ∧ R (.ok (.ret (Value.ref l))) s) :=
  .of_wp fun prog w A R s h => by
    obtain ⟨hp, gs, dr, tk, os⟩ := s
    obtain ⟨at_l, last⟩ := h
    have f1 := AutoSeq1.idx_int
    have one : (its.isEmpty || (1 : Int) == 1) = true := by
      rw [Bool.or_eq_true]
      exact Or.inr rfl
    wp_walk using wpAny_loadPart' at_l
    exact ⟨_, rfl, last⟩
/-- a tuple no times is the empty tuple -/
theorem never_ (l : Addr) (its : Array Value) (n : Nat) (dd : Option Addr) (sl : Array (Option Value)) (u : Tok) (ne : its.isEmpty = false) :
    Meets (Builtin.«tuple.__mul__» ⟨[.ref l, .int 0 u], []⟩) (fun _ R s => s.heap.get? l = some { cls := .type "tuple", dict := dd, data := .seq its n, slots := sl } ∧
      R (.ok (.ret (Value.ref s.heap.objs.size))) { s with heap := s.heap.push { cls := Value.type "tuple", data := Data.seq #[] }, toks := s.toks }) :=
  .of_wp fun prog w A R s h => by
    obtain ⟨hp, gs, dr, tk, os⟩ := s
    obtain ⟨at_l, last⟩ := h
    have f1 := AutoSeq1.idx_int
    have no : (its.isEmpty || (0 : Int) == 1) = false := by
      rw [ne]
      rfl
    wp_walk using wpAny_loadPart' at_l
    exact ⟨_, rfl, last⟩
/-- a tuple some times, be it once or never -/
def rTms (K : PySem.W.Frag) : R2 := fun x y H Q => ∃ (l : Addr) (k : Nat) (xs : List V), x = .ref l ∧ y = .int (k : Int) ∧ SqT K H l xs ∧ xs ≠ [] ∧ k ≤ 1000 ∧ xs.length ≤ 1000 ∧ (k = 1 → Q (.ref l) H) ∧ (k ≠ 1 → ∀ p, H p = none → Q (.ref p) (upd H p (.tup (List.replicate k xs).flatten)))
theorem op_tms {X : Cx} {K : PySem.W.Frag} (h : X.K = K) : OpR X (binaryOp .Mult) (rTms K) := by
  subst h
  intro pins s σ H x y v u Q I rx ry h
  obtain ⟨l, k, xs, rfl, rfl, hT, hne, hk, hx, q1, q2⟩ := h
  by_cases big : 2 ≤ k
  · refine op_repT _ _ _ _ _ _ _ _ _ I rx ry ⟨l, k, xs, rfl, rfl, hT, hne, by omega, by omega, hx, ?_⟩
    rw [Int.toNat_natCast]
    exact q2 (by omega)
  · cases rx
    obtain ⟨tk, rfl⟩ := ry
    obtain ⟨its, r, ⟨⟨cls, dd, data, sl⟩, ho, hc, n, hd⟩, hs⟩ := I.tuple hT
    simp only at hc hd
    subst hc hd
    have full : its.toArray.isEmpty = false := by
      cases its with
      | cons a b => rfl
      | nil => exact absurd (List.eq_nil_of_length_eq_zero r.length) hne
    obtain rfl | rfl : k = 0 ∨ k = 1 := by omega
    · refine wpAny_binaryOp_repeat_ref (T := "tuple") (U := "int") (by decide) ⟨_, ho, rfl⟩ (fun s' => typeIs_int s' _ tk) noFill_tuple_mul F.fills_int_mul F.slot_int_rmul repeat_tuple F.slot_int_index.lookup (call_meets F.slot_int_rmul (typeIs_int s _ tk) F.entry_int_rmul (F.args_int_rmul_2 _ _) (int_rmul_tuple _ tk l its.toArray n dd sl) ⟨ho, rfl, ⟨_, ho, rfl⟩, call_meets F.slot_tuple_mul ⟨_, ho, rfl⟩ F.entry_tuple_mul (F.args_tuple_mul_2 _ _) (never_ l its.toArray n dd sl tk full) ⟨ho, ?_⟩⟩)
      refine ⟨.ref s.heap.objs.size, _, I.laid (t' := s.toks) (o := .tup []) (fun b ob q => Heap.get?_push_of_some _ q) (Nat.le_refl _) ?_, rfl, q2 (by decide) _ (I.hok.fresh (Nat.le_refl _))⟩
      exact ⟨by decide, _, .nil, IsTup.new _ _⟩
    · exact wpAny_binaryOp_repeat_ref (T := "tuple") (U := "int") (by decide) ⟨_, ho, rfl⟩ (fun s' => typeIs_int s' _ tk) noFill_tuple_mul F.fills_int_mul F.slot_int_rmul repeat_tuple F.slot_int_index.lookup (call_meets F.slot_int_rmul (typeIs_int s _ tk) F.entry_int_rmul (F.args_int_rmul_2 _ _) (int_rmul_tuple _ tk l its.toArray n dd sl) ⟨ho, rfl, ⟨_, ho, rfl⟩, call_meets F.slot_tuple_mul ⟨_, ho, rfl⟩ F.entry_tuple_mul (F.args_tuple_mul_2 _ _) (once_ l its.toArray n dd sl tk) ⟨ho, ⟨.ref l, _, I, rfl, q1 rfl⟩⟩⟩)
end Vk
/-! What nearly every law of the table wants: the state of the draws, rows of numbers, short data. -/
namespace Vk
open PySem PySem.Spec PyProof.Rows L2
def mkv (L sd : Int) (c : Addr) (sp : Int) : List (Key × V) := [(.inr "left", .int L), (.inr "seed", .int sd), (.inr "cells", .ref c), (.inr "spot", .int sp)]
theorem val_left {L sd sp : Int} {c : Addr} : valV (mkv L sd c sp) (.inr "left") = some (.int L) := by rfl
theorem val_seed {L sd sp : Int} {c : Addr} : valV (mkv L sd c sp) (.inr "seed") = some (.int sd) := by rfl
theorem val_cells {L sd sp : Int} {c : Addr} : valV (mkv L sd c sp) (.inr "cells") = some (.ref c) := by rfl
theorem val_spot {L sd sp : Int} {c : Addr} : valV (mkv L sd c sp) (.inr "spot") = some (.int sp) := by rfl
theorem put_left {L sd sp i : Int} {c : Addr} : putK (mkv L sd c sp) (.inr "left") (.int i) = mkv i sd c sp := by rfl
theorem put_spot {L sd sp i : Int} {c : Addr} : putK (mkv L sd c sp) (.inr "spot") (.int i) = mkv L sd c i := by rfl
theorem get_m {H : Hp} {m : Addr} {kvs : List (Key × V)} {x : Str} {v : V} (hm : H m = some (.dK kvs)) (h : valV kvs (.inr x) = some v) : DGet H m (.str x) (some v) := by
  have q := DGet.k (k := Sum.inr x) hm
  rw [h] at q
  exact q
theorem put_m {H : Hp} {m : Addr} {L sd sp : Int} {c : Addr} {kvs : List (Key × V)} {x : Str} {v : V} (hm : H m = some (.dK (mkv L sd c sp))) (h : putK (mkv L sd c sp) (.inr x) v = kvs) : DPut H m (.str x) v (upd H m (.dK kvs)) := by
  have q := DPut.k (k := Sum.inr x) (v := v) hm (small1000 (show 4 ≤ 1000 by decide))
  rw [h] at q
  exact q
/-- the state of the draws stands at m; at most n draws were made -/
def MOk (H : Hp) (m c : Addr) (n : Nat) : Prop := ∃ (L sd sp : Int) (cells : List Int), H m = some (.dK (mkv L sd c sp)) ∧ H c = some (.lst (cells.map V.int)) ∧ 0 < cells.length ∧ 0 ≤ sp ∧ sp ≤ n
theorem MOk.but {H H' : Hp} {m c q : Addr} {n : Nat} (h : MOk H m c n) (hq : q ≠ m) (hl : ∀ xs, H q ≠ some (.lst xs)) (s : SameBut q H H') : MOk H' m c n := by
  obtain ⟨L, sd, sp, cells, h1, h2, h3⟩ := h
  refine ⟨L, sd, sp, cells, s _ _ (Ne.symm hq) h1, s _ _ (fun z => hl _ (by rw [← z]; exact h2)) h2, h3⟩
theorem MOk.same {H H' : Hp} {m c : Addr} {n : Nat} (h : MOk H m c n) (s : Same H H') : MOk H' m c n := by
  obtain ⟨L, sd, sp, cells, h1, h2, h3⟩ := h
  exact ⟨L, sd, sp, cells, s _ _ h1, s _ _ h2, h3⟩
def spDraw : Sp := fun vs H Q _ => ∃ (m c : Addr) (n : Nat) (b : Int), vs = [.ref m, .int b] ∧ MOk H m c n ∧ n ≤ 100000 ∧ 0 < b ∧ b.natAbs < 2 ^ 200 ∧
  ∀ H' v, SameBut m H H' → MOk H' m c (n + 1) → 0 ≤ v → v < b → Q (.int v) H'
def spBegun (K : PySem.W.Frag) : Sp := fun vs H Q _ => ∃ (a : Addr) (k : Int) (ns : List Int), vs = [.ref a, .int k] ∧ SqL K H a (ns.map V.int) ∧ ns.length ≤ 63 ∧ 0 ≤ k ∧ k ≤ 100 ∧
  ∀ H' p r, Same H H' → H p = none → MOk H' p r 0 → Q (.ref p) H'
/-- |a| < 2 ^ n -/
def SmZ (n : Nat) (a : Int) : Prop := a.natAbs < 2 ^ n
def dot (xs ys : List Int) : Int := (List.zipWith (· * ·) xs ys).sum
/-- rows of few and small numbers -/
def Row (H : Hp) (a : Addr) (xs : List Int) : Prop := Tp H a (xs.map V.int) ∧ xs.length ≤ 100 ∧ ∀ x ∈ xs, SmZ 300 x
theorem Row.same {H H' : Hp} {a : Addr} {xs : List Int} (h : Row H a xs) (s : Same H H') : Row H' a xs := ⟨h.1.same s, h.2⟩
theorem small {n : Nat} (h : n ≤ 100) : n < sizeLine := Nat.lt_of_le_of_lt h (by decide)
theorem zipW_get {α : Type} {f : Int → Int → α} {xs ys : List Int} {i : Nat} {y : α} (h : (List.zipWith f xs ys)[i]? = some y) : ∃ a b, xs[i]? = some a ∧ ys[i]? = some b ∧ y = f a b := by
  rw [List.getElem?_zipWith] at h
  cases h1 : xs[i]? with
  | none => rw [h1] at h; cases h
  | some a =>
    cases h2 : ys[i]? with
    | none => rw [h1, h2] at h; cases h
    | some b => rw [h1, h2] at h; exact ⟨a, b, rfl, rfl, (Option.some.inj h).symm⟩
theorem map_get {α β : Type} {f : α → β} {xs : List α} {i : Nat} {y : β} (h : (xs.map f)[i]? = some y) : ∃ a, xs[i]? = some a ∧ y = f a := by
  rw [List.getElem?_map] at h
  cases h1 : xs[i]? with
  | none => rw [h1] at h; cases h
  | some a => rw [h1] at h; exact ⟨a, rfl, (Option.some.inj h).symm⟩
theorem wide {a b : Int} (h1 : SmZ 300 a) (h2 : SmZ 300 b) : a.natAbs.log2 + b.natAbs.log2 < 700 := by
  have := PySem.Flt.log2_lt_of (by decide) h1
  have := PySem.Flt.log2_lt_of (by decide) h2
  omega
/-- several rows of n numbers -/
def Rws (H : Hp) (ps : List Addr) (rows : List (List Int)) (n : Nat) : Prop := ps.length = rows.length ∧ ∀ (i : Nat) (p : Addr) (r : List Int), ps[i]? = some p → rows[i]? = some r → Row H p r ∧ r.length = n
theorem Rws.same {H H' : Hp} {ps : List Addr} {rows : List (List Int)} {n : Nat} (h : Rws H ps rows n) (s : Same H H') : Rws H' ps rows n := ⟨h.1, fun i p r h1 h2 => ⟨(h.2 i p r h1 h2).1.same s, (h.2 i p r h1 h2).2⟩⟩
theorem ix_tupK {X : Cx} {K : PySem.W.Frag} (h : X.K = K) : IxR X (rIxT K) := by
  subst h
  exact ix_tup
theorem atI_at {xs : List V} {j : Int} {i : Nat} {v : V} (e : j = ((i : Nat) : Int)) (h : xs[i]? = some v) : atI xs j = some v := by
  rw [e]
  exact atI_nat h
theorem get_map {α β : Type} {f : α → β} {xs : List α} {i : Nat} {x : α} (h : xs[i]? = some x) : (xs.map f)[i]? = some (f x) := by
  rw [List.getElem?_map, h]
  rfl
theorem Row.but {m a : Addr} {H H' : Hp} {xs : List Int} {kvs : List (Key × V)} (h : Row H a xs) (hm : H m = some (.dK kvs)) (s : SameBut m H H') : Row H' a xs := ⟨h.1.but hm s, h.2⟩
theorem Rws.but {m : Addr} {H H' : Hp} {ps : List Addr} {rows : List (List Int)} {n : Nat} {kvs : List (Key × V)} (h : Rws H ps rows n) (hm : H m = some (.dK kvs)) (s : SameBut m H H') : Rws H' ps rows n :=
  ⟨h.1, fun i p r h1 h2 => ⟨(h.2 i p r h1 h2).1.but hm s, (h.2 i p r h1 h2).2⟩⟩
theorem sb_put {m D : Addr} {H1 H4 : Hp} {o : HO} (nD : H1 D = none) (s : SameBut m H1 H4) : SameBut m H1 (upd H4 D o) := fun b u hb e => by
  rw [upd_ne (ne_of_none e nD)]
  exact s _ _ hb e
theorem MOk.m_some {H : Hp} {m c : Addr} {n : Nat} (h : MOk H m c n) : ∃ kvs, H m = some (.dK kvs) := by
  obtain ⟨L, sd, sp, cells, h1, _⟩ := h
  exact ⟨_, h1⟩
theorem MOk.c_some {H : Hp} {m c : Addr} {n : Nat} (h : MOk H m c n) : ∃ xs, H c = some (.lst xs) := by
  obtain ⟨L, sd, sp, cells, _, h2, _⟩ := h
  exact ⟨_, h2⟩
theorem MOk.mono {H : Hp} {m c : Addr} {n n' : Nat} (h : MOk H m c n) (l : n ≤ n') : MOk H m c n' := by
  obtain ⟨L, sd, sp, cells, h1, h2, h3, h4, h5⟩ := h
  exact ⟨L, sd, sp, cells, h1, h2, h3, h4, by omega⟩
theorem MOk.put {H : Hp} {m c D : Addr} {n : Nat} {o : HO} (h : MOk H m c n) (dm : D ≠ m) (dc : D ≠ c) : MOk (upd H D o) m c n := by
  obtain ⟨L, sd, sp, cells, h1, h2, h3, h4, h5⟩ := h
  exact ⟨L, sd, sp, cells, by rw [upd_ne (Ne.symm dm)]; exact h1, by rw [upd_ne (Ne.symm dc)]; exact h2, h3, h4, h5⟩
theorem smz_of {a b : Int} {n : Nat} (h0 : -b ≤ a) (h1 : a ≤ b) (hb : b.natAbs < 2 ^ n) : SmZ n a := by
  unfold SmZ
  have : a.natAbs ≤ b.natAbs := by omega
  omega
theorem smz_mono {a : Int} {n m : Nat} (h : SmZ n a) (l : n ≤ m) : SmZ m a := Nat.lt_of_lt_of_le h (Nat.pow_le_pow_right (by decide) l)
theorem smz_mul {a b : Int} {n m : Nat} (h1 : SmZ n a) (h2 : SmZ m b) : SmZ (n + m) (a * b) := by
  unfold SmZ at *
  rw [Int.natAbs_mul, Nat.pow_add]
  exact Nat.mul_lt_mul'' h1 h2
theorem ix_listK {X : Cx} {K : PySem.W.Frag} (h : X.K = K) : IxR X (rIxL K) := by
  subst h
  exact ix_list
theorem getD_at {xs : List Int} {i : Nat} (hi : i < xs.length) : xs[i]? = some (xs.getD i 0) := by
  rw [List.getD_eq_getElem?_getD, List.getElem?_eq_getElem hi]
  rfl
/-- a run over any walk, whatever a turn's form -/
theorem walk_run {J : It} {n : Nat} {G : Hp → Prop} {Y : Nat → Hp → V → Hp → Prop} (w : Walk J n G Y) (B : (Hp → Prop) → V → Hp → Prop) (Pv : Nat → Hp → Prop) {H0 : Hp} {Z : Hp → Prop} (h0 : Pv 0 H0) (hG : ∀ i H, i ≤ n → Pv i H → G H)
    (hs : ∀ i x H H', i < n → Pv i H → Y i H x H' → B (Pv (i + 1)) x H') (hd : ∀ H, Pv n H → Z H) :
    ∃ W : Nat → Nat → Hp → Prop, (∃ m, W 0 m H0) ∧ ∀ i m H, W i m H → (J.stop i H ∧ Z H) ∨ (J.go i H ∧ ∃ Nx : Hp → Prop, (∀ H', Nx H' → ∃ m', m' < m ∧ W (i + 1) m' H') ∧ ∀ x H', J.yld i H x H' → B Nx x H') := by
  refine ⟨fun i m H => m = n - i ∧ i ≤ n ∧ Pv i H, ⟨n - 0, rfl, Nat.zero_le _, h0⟩, ?_⟩
  rintro i m H ⟨rfl, hi, p⟩
  by_cases lt : i < n
  · exact .inr ⟨w.goes i H lt (hG i H hi p), Pv (i + 1), fun H' p' => ⟨n - (i + 1), by omega, rfl, lt, p'⟩, fun x H' y => hs i x H H' lt p (w.yields i H x H' lt (hG i H hi p) y)⟩
  · obtain rfl : i = n := by omega
    exact .inl ⟨w.stops H (hG _ H hi p), hd H p⟩
/-- several tuples of numbers -/
def Rw (H : Hp) (ps : List Addr) (ss : List (List Int)) : Prop := ps.length = ss.length ∧ ∀ (i : Nat) (p : Addr) (r : List Int), ps[i]? = some p → ss[i]? = some r → Tp H p (r.map V.int)
theorem Rw.same {H H' : Hp} {ps : List Addr} {ss : List (List Int)} (h : Rw H ps ss) (s : Same H H') : Rw H' ps ss := ⟨h.1, fun i p r h1 h2 => (h.2 i p r h1 h2).same s⟩
theorem Rw.snoc {H : Hp} {ps : List Addr} {ss : List (List Int)} {p : Addr} {r : List Int} (h : Rw H ps ss) (hp : Tp H p (r.map V.int)) : Rw H (ps ++ [p]) (ss ++ [r]) := by
  refine ⟨by rw [List.length_append, List.length_append, h.1]; rfl, fun j a z h1 h2 => ?_⟩
  by_cases hj : j < ps.length
  · rw [List.getElem?_append_left hj] at h1
    rw [List.getElem?_append_left (by rw [← h.1]; exact hj)] at h2
    exact h.2 j a z h1 h2
  · rw [List.getElem?_append_right (by omega)] at h1
    rw [List.getElem?_append_right (by rw [← h.1]; omega)] at h2
    have j0 : j - ps.length = 0 := by
      have := (List.getElem?_eq_some_iff.mp h1).1
      simp only [List.length_cons, List.length_nil] at this
      omega
    rw [j0] at h1
    rw [← h.1, j0] at h2
    obtain rfl : p = a := Option.some.inj h1
    obtain rfl : r = z := Option.some.inj h2
    exact hp
theorem eqv_rows (xs ys : List Int) : PyData.eqv (.tuple (xs.map PyData.int)) (.tuple (ys.map PyData.int)) = decide (xs = ys) := by
  rw [show PyData.eqv (.tuple (xs.map PyData.int)) (.tuple (ys.map PyData.int)) = PyData.eqvAll (xs.map PyData.int) (ys.map PyData.int) by simp only [PyData.eqv]]
  exact PySem.W.ked_eqvAll xs ys
theorem shaped_row (ns : List Int) : SeqAt.shaped (.tuple (ns.map PyData.int)) = true := by
  obtain ⟨h1, h2⟩ := lay_ints ns
  simp [SeqAt.shaped, PyData.canLay0, PyData.depth, h1, h2]
theorem pa_starK {X : Cx} {K : PySem.W.Frag} {e : Expr} {es : List Expr} {te : TE} {t : TA} {p : Pos} (h : X.K = K) (he : PE X e te) (hr : PA X es t) (hs : starEach (.Starred e p :: es) X.env = (true, eval e X.env) :: starEach es X.env := by rfl) : PA X (.Starred e p :: es) (StX.tStar K te t) := by
  subst h
  exact StX.pa_star he hr hs
theorem op_neDK {X : Cx} {K : PySem.W.Frag} (h : X.K = K) (hu : X.A.units + 64 < cLine) : OpR X (compareOp .NotEq) (rNeD K) := by
  subst h
  exact op_neD hu
theorem big {n : Nat} (h : n ≤ 40000) : n < sizeLine := Nat.lt_of_le_of_lt h (by decide)
theorem tp_put {H : Hp} {p D : Addr} {xs l : List V} {o : HO} (h : Tp H p xs) (d : H D = some (.lst l)) : Tp (upd H D o) p xs := by
  have ne : p ≠ D := by
    rintro rfl
    have h : H p = some (.tup xs) := h
    rw [h] at d
    cases d
  show upd H D o p = some (.tup xs)
  rw [upd_ne ne]
  exact h
theorem Rw.put {H : Hp} {D : Addr} {l : List V} {o : HO} {ps : List Addr} {ss : List (List Int)} (h : Rw H ps ss) (d : H D = some (.lst l)) : Rw (upd H D o) ps ss := ⟨h.1, fun i p r h1 h2 => tp_put (h.2 i p r h1 h2) d⟩
theorem op_tmsK {X : Cx} {K : PySem.W.Frag} (h : X.K = K) : OpR X (binaryOp .Mult) (rTms K) := op_tms h
theorem tms_tp {K : PySem.W.Frag} {H : Hp} {a : Addr} {xs : List V} {k : Nat} {z : Int} {Q : VK} (ez : z = ((k : Nat) : Int)) (ha : Tp H a xs) (ne : xs ≠ []) (hk : k ≤ 1000) (hx : xs.length ≤ 1000) (q : ∀ r H', Same H H' → Tp H' r (List.replicate k xs).flatten → Q (.ref r) H') : rTms K (.ref a) (.int z) H Q := by
  subst ez
  refine ⟨a, k, xs, rfl, rfl, ha.t, ne, hk, hx, fun e => ?_, fun _ p np => q p _ (same_new np) upd_same⟩
  subst e
  refine q a H (Same.refl _) ?_
  rw [List.replicate_one, List.flatten_singleton]
  exact ha
def spSigned : Sp := fun vs H Q _ => ∃ (m c : Addr) (q : Nat) (b : Int), vs = [.ref m, .int b] ∧ MOk H m c q ∧ q ≤ 50000 ∧ 0 ≤ b ∧ b ≤ 1000 ∧ ∀ H' v, SameBut m H H' → MOk H' m c (q + 2) → -b ≤ v → v ≤ b → Q (.int v) H'
/-- two values of the same data -/
def spLike (K : PySem.W.Frag) : Sp := fun vs H Q _ => ∃ x y d, vs = [x, y] ∧ Dp K H x d ∧ Dp K H y d ∧ Fit d ∧ Q (.bl true) H
theorem iteF' {c : Bool} {A B : Prop} (hc : c = false) (h : B) : if c = true then A else B := by
  subst hc
  exact iteF h
theorem dot_abs (A M : Nat) : ∀ (xs ys : List Int), (∀ x ∈ xs, x.natAbs ≤ A) → (∀ y ∈ ys, y.natAbs ≤ M) → (dot xs ys).natAbs ≤ ys.length * (A * M)
  | [], _, _, _ => by
    show (0 : Int).natAbs ≤ _
    exact Nat.zero_le _
  | x :: xs, [], _, _ => by
    show (0 : Int).natAbs ≤ _
    exact Nat.zero_le _
  | x :: xs, y :: ys, hx, hy => by
    have ih := dot_abs A M xs ys (fun a h => hx a (List.mem_cons_of_mem _ h)) (fun a h => hy a (List.mem_cons_of_mem _ h))
    have e : dot (x :: xs) (y :: ys) = x * y + dot xs ys := by
      unfold dot
      rw [List.zipWith_cons_cons, List.sum_cons]
    rw [e, List.length_cons, Nat.succ_mul]
    have h1 : (x * y).natAbs ≤ A * M := by
      rw [Int.natAbs_mul]
      exact Nat.mul_le_mul (hx x (List.mem_cons_self ..)) (hy y (List.mem_cons_self ..))
    have h2 := Int.natAbs_add_le (x * y) (dot xs ys)
    omega
theorem fdiv_abs {a d : Int} (hd : 0 < d) : (a.fdiv d).natAbs ≤ a.natAbs := by
  rw [Int.fdiv_eq_ediv_of_nonneg _ (Int.le_of_lt hd)]
  exact Int.natAbs_ediv_le_natAbs a d
theorem fit_all {k a : Nat} : ∀ (L : Nat) (ds : List PyData), (∀ d ∈ ds, FitN k a d) → ds.length ≤ L → FitLN k ((a + 1) * L) ds
  | _, [], _, _ => .nil
  | 0, d :: ds, _, h => by cases h
  | L + 1, d :: ds, hd, h => by
    refine .cons (hd d (List.mem_cons_self ..)) (fit_all L ds (fun x hx => hd x (List.mem_cons_of_mem _ hx)) (by rw [List.length_cons] at h; omega)) ?_
    rw [Nat.mul_succ]
    omega
theorem fit_ints {k : Nat} (L : Nat) (xs : List Int) (h : ∀ x ∈ xs, SmZ 300 x) (hl : xs.length ≤ L) : FitN (k + 1) L (.tuple (xs.map PyData.int)) := by
  have q := fit_all (k := k) (a := 0) L (xs.map PyData.int) (fun d hd => by
    obtain ⟨x, hx, rfl⟩ := List.mem_map.mp hd
    exact FitN.int (Nat.lt_of_lt_of_le (h x hx) (Nat.pow_le_pow_right (by decide) (by decide)))) (by rw [List.length_map]; exact hl)
  rw [Nat.zero_add, Nat.one_mul] at q
  exact .tup q
/-- the data of a row, of a table, of a grid -/
def dRow (r : List Int) : PyData := .tuple (r.map PyData.int)
theorem dp_row {K : PySem.W.Frag} {H : Hp} {p : Addr} {r : List Int} (h : Tp H p (r.map V.int)) : Dp K H (.ref p) (dRow r) := .tup h.t (dp_ints r)
theorem dp_all {K : PySem.W.Frag} {H : Hp} : ∀ (qs : List Addr) (ds : List PyData), qs.length = ds.length → (∀ (i : Nat) (q : Addr) (d : PyData), qs[i]? = some q → ds[i]? = some d → Dp K H (.ref q) d) → DpAll K H (qs.map V.ref) ds
  | [], [], _, _ => .nil
  | [], _ :: _, h, _ => by cases h
  | _ :: _, [], h, _ => by cases h
  | q :: qs, d :: ds, h, k => .cons (k 0 q d rfl rfl) (dp_all qs ds (Nat.succ.inj h) fun i a b h1 h2 => k (i + 1) a b h1 h2)
instance (n : Nat) (a : Int) : Decidable (SmZ n a) := Nat.decLt _ _
theorem MOk.ext {H H' : Hp} {m r : Addr} {n : Nat} (h : MOk H m r n) (e : LamX.ExtN H H') : MOk H' m r n := by
  obtain ⟨L, sd, sp, cells, h1, h2, h3⟩ := h
  exact ⟨L, sd, sp, cells, e _ _ h1 (fun ps z => by cases z), e _ _ h2 (fun ps z => by cases z), h3⟩
theorem sql_ext {K : PySem.W.Frag} {H H' : Hp} {a : Addr} {xs : List V} (h : SqL K H a xs) (e : LamX.ExtN H H') : SqL K H' a xs := by
  rcases h with (h | ⟨o, h⟩) | h
  · exact .inl (.inl (e _ _ h fun ps z => by cases z))
  · exact .inl (.inr ⟨o, e _ _ h fun ps z => by cases z⟩)
  · exact .inr h
theorem ext_but {H H1 H2 : Hp} {m : Addr} (hm : H m = none) (a : LamX.ExtN H H1) (b : SameBut m H1 H2) : LamX.ExtN H H2 := fun c o h n => b c o (ne_of_none h hm) (a c o h n)
theorem tabs_but {T : List (Addr × Str)} {H H' : Hp} {m : Addr} {kvs : List (Key × V)} (hT : LamX.Tabs T H) (hm : H m = some (.dK kvs)) (s : SameBut m H H') : LamX.Tabs T H' := fun p hp => by
  obtain ⟨ps, h1, h2, h3⟩ := hT p hp
  refine ⟨ps, s _ _ (ne_of h1 hm (by intro z; cases z)) h1, h2, fun pos cv hc => ?_⟩
  obtain ⟨c, e1, e2⟩ := h3 pos cv hc
  exact ⟨c, e1, s _ _ (ne_of e2 hm (by intro z; unfold LamX.CodeO at z; cases z)) e2⟩
theorem ext_same {H H1 H2 : Hp} (a : LamX.ExtN H H1) (b : Same H1 H2) : LamX.ExtN H H2 := a.trans (LamX.ExtN.of b)
theorem Tp.ext {H H' : Hp} {a : Addr} {xs : List V} (h : Tp H a xs) (e : LamX.ExtN H H') : Tp H' a xs := e _ _ h fun ps z => by cases z
theorem cons_ {te : TE} {t : TA} {σ : L2.St} {H : Hp} {R : List V → Hp → Prop} (h : te σ H fun x H1 => t σ H1 fun xs H2 => R (x :: xs) H2) : tCons te t σ H R := h
def tInts : List Int → TA
  | [] => tNil
  | x :: r => tCons (tC (.int x)) (tInts r)
def tRows : List (List Int) → TA
  | [] => tNil
  | x :: r => tCons (tTup (tInts x)) (tRows r)
theorem ints_ {σ : L2.St} {H : Hp} : ∀ (xs : List Int) {R : List V → Hp → Prop}, R (xs.map V.int) H → tInts xs σ H R
  | [], _, h => h
  | x :: r, R, h => ints_ r (R := fun vs H' => R (.int x :: vs) H') h
theorem row_ {σ : L2.St} {H : Hp} (xs : List Int) (hl : xs.length ≤ 100) {Q : VK} (h : ∀ p H', Same H H' → Tp H' p (xs.map V.int) → Q (.ref p) H') : tTup (tInts xs) σ H Q :=
  ints_ xs ⟨by rw [List.length_map]; exact Nat.le_of_lt (small hl), fun p np => h p _ (same_new np) upd_same⟩
theorem rows_ {n : Nat} {σ : L2.St} : ∀ (rs : List (List Int)) {H : Hp} {R : List V → Hp → Prop}, (∀ r ∈ rs, r.length = n ∧ n ≤ 100 ∧ ∀ x ∈ r, SmZ 300 x) → (∀ ps H', Same H H' → Rws H' ps rs n → R (ps.map V.ref) H') → tRows rs σ H R
  | [], H, R, _, h => h [] H (Same.refl _) ⟨rfl, fun i p r e _ => by cases e⟩
  | x :: rs, H, R, hx, h => by
    obtain ⟨l, ln, z⟩ := hx x (List.mem_cons_self ..)
    show tTup (tInts x) σ H fun v H1 => tRows rs σ H1 fun xs H2 => R (v :: xs) H2
    refine row_ x (by omega) fun p H1 s1 g1 => ?_
    refine rows_ rs (fun r hr => hx r (List.mem_cons_of_mem _ hr)) fun ps H2 s2 w2 => ?_
    refine h (p :: ps) H2 (s1.trans s2) ⟨by rw [List.length_cons, List.length_cons, w2.1], fun i q r e1 e2 => ?_⟩
    cases i with
    | zero =>
      obtain rfl : p = q := Option.some.inj e1
      obtain rfl : x = r := Option.some.inj e2
      exact ⟨⟨g1.same s2, by omega, z⟩, l⟩
    | succ i => exact w2.2 i q r e1 e2
theorem smz_le {x b : Int} (h0 : 0 ≤ x) (h1 : x ≤ b) (hb : b.natAbs < 2 ^ 300) : SmZ 300 x := smz_of (b := b) (by omega) h1 hb
def spOf : Sp := fun vs H Q _ => ∃ (m c L : Addr) (n : Nat) (xs : List V), vs = [.ref m, .ref L] ∧ MOk H m c n ∧ n ≤ 100000 ∧ H L = some (.lst xs) ∧ 0 < xs.length ∧ xs.length ≤ 100 ∧ ∀ H' v, SameBut m H H' → MOk H' m c (n + 1) → v ∈ xs → Q v H'
theorem Row.tail {H : Hp} {a : Addr} {x : Int} {xs : List Int} (h : Row H a (x :: xs)) : xs.length ≤ 100 ∧ ∀ y ∈ xs, SmZ 300 y := ⟨Nat.le_trans (Nat.le_succ _) h.2.1, fun y hy => h.2.2 y (List.mem_cons_of_mem _ hy)⟩
theorem smz_log {a : Int} {n : Nat} (hn : 0 < n) (h : SmZ n a) : a.natAbs.log2 < n := PySem.Flt.log2_lt_of hn h
def spIsn : Sp := fun vs H Q _ => ∃ x t, vs = [x] ∧ Oky H x t ∧ Q (.bl (isInt x)) H
def tupOk (n : Nat) (xs : List V) : Bool := decide (xs.length = n) && xs.all isInt
/-- a value of any kind is judged: an entry of a tuple, too -/
def spAren : Sp := fun vs H Q _ => ∃ (x : V) (n : Nat), vs = [x, .int n] ∧ ((∃ t, Oky H x t ∧ t ≠ "tuple" ∧ Q (.bl false) H) ∨ ∃ a xs, x = .ref a ∧ Tp H a xs ∧ xs.length ≤ 100 ∧ (∀ e ∈ xs, ∃ t, Oky H e t) ∧ ∀ H', Same H H' → Q (.bl (tupOk n xs)) H')
def spPsum : Sp := fun vs H Q _ => ∃ (a b : Addr) (xs ys : List Int), vs = [.ref a, .ref b] ∧ Row H a xs ∧ Row H b ys ∧ xs.length = ys.length ∧ ∀ H', Same H H' → Q (.int (dot xs ys)) H'
def spFval : Sp := fun vs H Q _ => ∃ (a b : Addr) (c : Int) (xs ys : List Int), vs = [.ref a, .ref b] ∧ Row H a (c :: xs) ∧ Row H b ys ∧ xs.length = ys.length ∧ ∀ H', Same H H' → Q (.int (c + dot xs ys)) H'
def spFsum : Sp := fun vs H Q _ => ∃ (a b : Addr) (xs ys : List Int), vs = [.ref a, .ref b] ∧ Row H a xs ∧ Row H b ys ∧ xs.length = ys.length ∧ ∀ r H', Same H H' → Tp H' r ((List.zipWith (· + ·) xs ys).map V.int) → Q (.ref r) H'
def spFtimes : Sp := fun vs H Q _ => ∃ (a : Addr) (n : Int) (xs : List Int), vs = [.ref a, .int n] ∧ Row H a xs ∧ SmZ 300 n ∧ ∀ r H', Same H H' → Tp H' r ((xs.map (n * ·)).map V.int) → Q (.ref r) H'
def spGcd : Sp := fun vs H Q _ => ∃ a c : Int, vs = [.int a, .int c] ∧ Q (.int (Int.gcd a c)) H
def sg (n : Int) : Int := (if 0 < n then 1 else 0) - (if n < 0 then 1 else 0)
def spSign : Sp := fun vs H Q _ => ∃ n : Int, vs = [.int n] ∧ Q (.int (sg n)) H
/-- a value of some kind, not the drawn dict -/
def Ky (m : Addr) (H : Hp) (x : V) : Prop := x ≠ .ref m ∧ ∃ t, Oky H x t
/-- a value that is judged -/
def Kn (m : Addr) (H : Hp) (x : V) : Prop := x ≠ .ref m ∧ ((∃ t, Oky H x t ∧ t ≠ "tuple") ∨ ∃ a xs, x = .ref a ∧ Tp H a xs ∧ xs.length ≤ 100 ∧ ∀ e ∈ xs, Ky m H e)
theorem Ky.but {m : Addr} {H H' : Hp} {x : V} (h : Ky m H x) (s : SameBut m H H') : Ky m H' x := by
  obtain ⟨n, t, h⟩ := h
  refine ⟨n, t, ?_⟩
  cases h with
  | non => exact .non
  | bl b => exact .bl b
  | int i => exact .int i
  | str x => exact .str x
  | lst e => exact .lst (s _ _ (fun z => n (by rw [z])) e)
  | tup e => exact .tup (s _ _ (fun z => n (by rw [z])) e)
  | dK e => exact .dK (s _ _ (fun z => n (by rw [z])) e)
theorem Kn.but {m : Addr} {H H' : Hp} {x : V} (h : Kn m H x) (s : SameBut m H H') : Kn m H' x := by
  obtain ⟨n, ⟨t, h, ht⟩ | ⟨a, xs, rfl, ha, hl, hes⟩⟩ := h
  · refine ⟨n, .inl ⟨t, ?_, ht⟩⟩
    cases h with
    | non => exact .non
    | bl b => exact .bl b
    | int i => exact .int i
    | str x => exact .str x
    | lst e => exact .lst (s _ _ (fun z => n (by rw [z])) e)
    | tup e => exact absurd rfl ht
    | dK e => exact .dK (s _ _ (fun z => n (by rw [z])) e)
  · exact ⟨n, .inr ⟨a, xs, rfl, s _ _ (fun z => n (by rw [z])) ha, hl, fun e he => (hes e he).but s⟩⟩
theorem Ky.int {m : Addr} {H : Hp} (i : Int) : Ky m H (.int i) := ⟨(fun z => by cases z), _, .int i⟩
theorem ky_row {m : Addr} {H : Hp} {xs : List Int} : ∀ e ∈ xs.map V.int, Ky m H e := fun e he => by
  obtain ⟨i, _, rfl⟩ := List.mem_map.mp he
  exact Ky.int i
theorem Kn.tp {m a : Addr} {H : Hp} {xs : List V} (hm : ∃ kvs, H m = some (.dK kvs)) (ha : Tp H a xs) (hl : xs.length ≤ 100) (h : ∀ e ∈ xs, Ky m H e) : Kn m H (.ref a) := by
  obtain ⟨kvs, hm⟩ := hm
  exact ⟨fun z => ne_of ha hm (by intro w; cases w) (V.ref.inj z), .inr ⟨a, xs, rfl, ha, hl, h⟩⟩
theorem Kn.lst {m a : Addr} {H : Hp} {xs : List V} (hm : ∃ kvs, H m = some (.dK kvs)) (ha : H a = some (.lst xs)) : Kn m H (.ref a) := by
  obtain ⟨kvs, hm⟩ := hm
  exact ⟨fun z => ne_of ha hm (by intro w; cases w) (V.ref.inj z), .inl ⟨_, .lst ha, by decide⟩⟩
theorem Ky.tp {m a : Addr} {H : Hp} {xs : List V} (hm : ∃ kvs, H m = some (.dK kvs)) (ha : Tp H a xs) : Ky m H (.ref a) := by
  obtain ⟨kvs, hm⟩ := hm
  exact ⟨fun z => ne_of ha hm (by intro w; cases w) (V.ref.inj z), _, .tup ha⟩
theorem Ky.lst {m a : Addr} {H : Hp} {xs : List V} (hm : ∃ kvs, H m = some (.dK kvs)) (ha : H a = some (.lst xs)) : Ky m H (.ref a) := by
  obtain ⟨kvs, hm⟩ := hm
  exact ⟨fun z => ne_of ha hm (by intro w; cases w) (V.ref.inj z), _, .lst ha⟩
theorem cut_mem {xs : List V} {lo hi : Option Int} {e : V} (h : e ∈ cutV xs lo hi) : e ∈ xs := by
  unfold cutV at h
  exact List.mem_of_mem_drop (List.mem_of_mem_take h)
theorem cut_len {xs : List V} {lo hi : Option Int} : (cutV xs lo hi).length ≤ xs.length := by
  unfold cutV
  rw [List.length_take, List.length_drop]
  omega
theorem sm_but {m : Addr} {H0 H H' : Hp} (nm : H0 m = none) (s : Same H0 H) (b : SameBut m H H') : Same H0 H' := fun a o e => b a o (ne_of_none e nm) (s a o e)
theorem sql_same {K : PySem.W.Frag} {H H' : Hp} {a : Addr} {xs : List V} (h : SqL K H a xs) (s : Same H H') : SqL K H' a xs := s.seq h
theorem nat_of {v : Int} (h : 0 ≤ v) : ∃ n : Nat, v = n := ⟨v.toNat, by omega⟩
/-- a comprehension of drawn numbers, w draws for each -/
theorem lc_dr {n w : Nat} {g : TG} {te : TE} {vs : List Nat} {σ : L2.St} {H1 : Hp} {D : Addr} {Qd : Hp → Prop} {m c : Addr} {q : Nat} (R : Nat → Int → Prop) (hz : n < sizeLine) (hM : MOk H1 m c q) (nD : H1 D = none)
    (hs : ∀ (i : Nat) (H : Hp) (Qy : VK), i < n → SameBut m H1 H → MOk H m c (q + w * i) → (∀ H4 v, SameBut m H H4 → MOk H4 m c (q + w * i + w) → R i v → Qy (.int v) H4) → g (.int (0 + i)) (wipe σ vs) H fun σ2 H2 => wipe σ2 vs = wipe σ vs ∧ te σ2 H2 Qy)
    (hd : ∀ H (xs : List Int), SameBut m H1 H → MOk H m c (q + w * n) → H D = some (.lst (xs.map V.int)) → xs.length = n → (∀ (i : Nat) (x : Int), xs[i]? = some x → R i x) → Qd H) :
    ∃ W : Nat → Nat → Hp → Prop, (∃ m, W 0 m (upd H1 D (.lst []))) ∧ ∀ i m H, W i m H →
      ((Itr 0 n).stop i H ∧ Qd H) ∨ ((Itr 0 n).go i H ∧ ∃ Nx : Hp → Prop, (∀ H', Nx H' → ∃ m', m' < m ∧ W (i + 1) m' H') ∧ ∀ x H', (Itr 0 n).yld i H x H' → g x (wipe σ vs) H' fun σ2 H2 => wipe σ2 vs = wipe σ vs ∧ tYes σ2 H2 fun b H3 =>
        if b = true then te σ2 H3 fun y H4 => ∃ acc, H4 D = some (.lst acc) ∧ acc.length < sizeLine ∧ Nx (upd H4 D (.lst (acc ++ [y]))) else Nx H3) := by
  obtain ⟨kvs, hm⟩ := hM.m_some
  obtain ⟨ys, hc⟩ := hM.c_some
  have dm : D ≠ m := Ne.symm (ne_of_none hm nD)
  have dc : D ≠ c := Ne.symm (ne_of_none hc nD)
  refine lc_it (walk_range (lo := 0) (n := n)) (tt := tYes) (fun i H => ∃ xs : List Int, SameBut m H1 H ∧ MOk H m c (q + w * i) ∧ H D = some (.lst (xs.map V.int)) ∧ xs.length = i ∧ ∀ (j : Nat) (x : Int), xs[j]? = some x → R j x) ⟨[], SameBut.of (same_new nD), hM.put dm dc, upd_same, rfl, fun j x hx => by cases hx⟩ (fun _ _ _ _ => True.intro) ?_ ?_
  · rintro i x H H' hi ⟨xs, sb, M, d, l, bd⟩ ⟨rfl, rfl⟩
    refine hs i H' (fun y H4 => ∃ acc, H4 D = some (.lst acc) ∧ acc.length < sizeLine ∧ ∃ xs : List Int, SameBut m H1 (upd H4 D (.lst (acc ++ [y]))) ∧ MOk (upd H4 D (.lst (acc ++ [y]))) m c (q + w * (i + 1)) ∧ upd H4 D (.lst (acc ++ [y])) D = some (.lst (xs.map V.int)) ∧ xs.length = i + 1 ∧ ∀ (j : Nat) (x : Int), xs[j]? = some x → R j x) hi sb M fun H4 v b4 M4 v0 => ?_
    refine ⟨xs.map V.int, b4 _ _ dm d, by rw [List.length_map]; omega, xs ++ [v], sb_put nD (sb.trans b4), (M4.put dm dc).mono (by rw [Nat.mul_succ]; omega), ?_, by rw [List.length_append, l]; rfl, fun j x hx => ?_⟩
    · rw [upd_same, List.map_append]
      rfl
    · by_cases hj : j < xs.length
      · rw [List.getElem?_append_left hj] at hx
        exact bd j x hx
      · have hj2 := (List.getElem?_eq_some_iff.mp hx).1
        rw [List.length_append] at hj2
        have hj3 : j = xs.length := by
          simp only [List.length_cons, List.length_nil] at hj2
          omega
        subst hj3
        rw [List.getElem?_append_right (Nat.le_refl _), Nat.sub_self] at hx
        obtain rfl := Option.some.inj hx
        rw [l]
        exact v0
  · rintro H ⟨xs, sb, M, d, l, bd⟩
    exact hd H xs sb M d l bd
/-- a comprehension with a test, over any walk: the values of the kept places -/
theorem lc_fl {J : It} {n : Nat} {G : Hp → Prop} {Y : Nat → Hp → V → Hp → Prop} (w : Walk J n G Y) {g : TG} {tt : TT} {te : TE} {vs : List Nat} {σ : L2.St} {H1 : Hp} {D : Addr} {Qd : Hp → Prop} (keep : Nat → Bool) (val : Nat → V) (hz : n < sizeLine) (nD : H1 D = none)
    (hG : ∀ H, Same H1 H → G H)
    (hs : ∀ (i : Nat) (x : V) (H H' : Hp) (Qy : VK) (Nx : Hp → Prop), i < n → Same H1 H → Y i H x H' → (keep i = true → ∀ H4, Same H H4 → Qy (val i) H4) → (keep i = false → ∀ H4, Same H H4 → Nx H4) → g x (wipe σ vs) H' fun σ2 H2 => wipe σ2 vs = wipe σ vs ∧ tt σ2 H2 fun b H3 => if b = true then te σ2 H3 Qy else Nx H3)
    (hd : ∀ H, Same H1 H → H D = some (.lst (((List.range n).filter keep).map val)) → Qd H) :
    ∃ W : Nat → Nat → Hp → Prop, (∃ m, W 0 m (upd H1 D (.lst []))) ∧ ∀ i m H, W i m H →
      (J.stop i H ∧ Qd H) ∨ (J.go i H ∧ ∃ Nx : Hp → Prop, (∀ H', Nx H' → ∃ m', m' < m ∧ W (i + 1) m' H') ∧ ∀ x H', J.yld i H x H' → g x (wipe σ vs) H' fun σ2 H2 => wipe σ2 vs = wipe σ vs ∧ tt σ2 H2 fun b H3 =>
        if b = true then te σ2 H3 fun y H4 => ∃ acc, H4 D = some (.lst acc) ∧ acc.length < sizeLine ∧ Nx (upd H4 D (.lst (acc ++ [y]))) else Nx H3) := by
  refine lc_it w (tt := tt) (fun i H => Same H1 H ∧ H D = some (.lst (((List.range i).filter keep).map val))) ⟨same_new nD, by rw [upd_same]; rfl⟩ (fun i H _ p => hG H p.1) ?_ ?_
  · rintro i x H H' hi ⟨s, d⟩ y
    refine hs i x H H' _ _ hi s y (fun hk H4 s4 => ?_) (fun hk H4 s4 => ?_)
    · refine ⟨_, s4 _ _ d, ?_, same_put (s.trans s4) nD, ?_⟩
      · rw [List.length_map]
        have := List.length_filter_le keep (List.range i)
        rw [List.length_range] at this
        omega
      · rw [upd_same, List.range_succ, List.filter_append, List.filter_cons_of_pos hk, List.filter_nil, List.map_append]
        rfl
    · refine ⟨s.trans s4, ?_⟩
      rw [s4 _ _ d, List.range_succ, List.filter_append, List.filter_cons_of_neg (by rw [hk]; decide), List.filter_nil, List.append_nil]
  · rintro H ⟨s, d⟩
    exact hd H s d
theorem lay_rows : ∀ rows : List (List Int), PyData.canLayAll0 (rows.map dRow) = true ∧ PyData.depthAll (rows.map dRow) ≤ 1
  | [] => ⟨by simp [PyData.canLayAll0], by simp [PyData.depthAll]⟩
  | r :: rs => by
    obtain ⟨h1, h2⟩ := lay_rows rs
    obtain ⟨h3, h4⟩ := lay_ints r
    refine ⟨by simp [PyData.canLayAll0, dRow, PyData.canLay0, h1, h3], ?_⟩
    simp only [List.map_cons, PyData.depthAll, dRow, PyData.depth, h4]
    omega
theorem shaped_rows (rows : List (List Int)) : SeqAt.shaped (.list (rows.map dRow)) = true ∧ SeqAt.shaped (.tuple (rows.map dRow)) = true := by
  obtain ⟨h1, h2⟩ := lay_rows rows
  constructor <;> simp [SeqAt.shaped, PyData.canLay0, PyData.depth, h1] <;> omega
theorem iteT' {c : Bool} {A B : Prop} (hc : c = true) (h : A) : if c = true then A else B := by
  subst hc
  exact iteT h
theorem all_of_get {xs : List Int} {R : Int → Prop} (h : ∀ (i : Nat) (x : Int), xs[i]? = some x → R x) : ∀ x ∈ xs, R x := fun x hx => by
  obtain ⟨i, hi⟩ := List.getElem?_of_mem hx
  exact h i x hi
end Vk
/-! An exception that is caught and kept in a local. -/
namespace Vk
open PySem PySem.Spec PyProof.Rows L2
/-- an exception of the class cls, own dict d, that was caught -/
def ExK (cls : Value) (d : Option Addr) (a : Addr) : HO := .ext fun h => ∃ oe : Obj, h.get? a = some oe ∧ Zc cls d oe ∧ ∃ vs, oe.data = .fields vs
section
variable {X : Cx} {pins : List (Addr × Obj)} {σ : L2.St} {H : Hp} {s : Shared}
/-- what is pinned is tracked from now on -/
theorem keep_pinned {a : Addr} {oe : Obj} {cls : Value} {d : Option Addr} (I : Inv X ((a, oe) :: pins) σ H s) (hz : Zc cls d oe) (hf : ∃ vs, oe.data = .fields vs) (n0 : X.s_0.heap.get? a = none) (np : ∀ p ∈ X.pn ++ pins, p.1 ≠ a) :
    Inv X pins σ (upd H a (ExK cls d a)) s := by
  obtain ⟨ga, na, nL, nF, nc⟩ := I.pin (a, oe) (List.mem_append_right _ List.mem_cons_self)
  have ga : s.heap.get? a = some oe := ga
  have na : H a = none := na
  have nC : ∀ x c, X.env.cells.lookup x = some c → c ≠ a := by
    rintro x c e rfl
    obtain ⟨v, o, ho, hd⟩ := I.cell x c e
    obtain rfl := Option.some.inj (ho.symm.trans ga)
    exact nc v hd
  have off : ∀ b, b ≠ a → upd H a (ExK cls d a) b = H b := fun b hb => upd_ne hb
  have some_ne : ∀ b u, H b = some u → b ≠ a := fun b u e z => by
    rw [z, na] at e
    cases e
  refine { ok := I.ok, os := I.os, bare := I.bare, base := ?_, loc := I.loc, cell := I.cell, free := ?_, freeC := ?_, pin := ?_, hok := ?_, len := I.len }
  · have old : ∀ b o, X.s_0.heap.get? b = some o → b ≠ a := fun b o e z => by
      rw [z, n0] at e
      cases e
    refine { keep := I.base.keep, slot := I.base.slot, free := ?_, there := I.base.there, tups := ?_, frzs := ?_, tbls := ?_ }
    · intro b o e n hx
      rw [off b (old b o e)]
      exact I.base.free b o e n hx
    · intro b xs e
      have q := I.base.tups b xs e
      rw [off b (some_ne b _ q)]
      exact q
    · intro b o u e
      have q := I.base.frzs b o u e
      rw [off b (some_ne b _ q)]
      exact q
    · intro b ps e
      obtain ⟨more, q⟩ := I.base.tbls b ps e
      refine ⟨more, ?_⟩
      rw [off b (some_ne b _ q)]
      exact q
  · rw [off _ (Ne.symm nL)]
    exact I.free
  · intro x c e
    rw [off c (nC x c e)]
    exact I.freeC x c e
  · intro p hp
    have hp' : p ∈ X.pn ++ (a, oe) :: pins := by
      rcases List.mem_append.mp hp with z | z
      · exact List.mem_append_left _ z
      · exact List.mem_append_right _ (List.mem_cons_of_mem _ z)
    obtain ⟨e1, e2, e3, e4, e5⟩ := I.pin p hp'
    refine ⟨e1, ?_, e3, e4, e5⟩
    rw [off p.1 (np p hp)]
    exact e2
  · intro b u e
    by_cases hb : b = a
    · subst hb
      rw [upd_same] at e
      obtain rfl := Option.some.inj e
      exact ⟨⟨oe, ga, hz, hf⟩, ⟨oe, ga⟩, fun h1 h2 ⟨o, q1, q2, q3⟩ st => ⟨o, st o q1, q2, q3⟩⟩
    · rw [off b hb] at e
      refine (I.hok b u e).stay (fun c v _ q => q) (fun c q => ?_) (fun c xs q => ?_)
      · rw [off c (some_ne c _ q)]
        exact q
      · rw [off c (some_ne c _ q)]
        exact q
end
/-- the wish of an except clause that keeps what it caught: the exception is known behind it -/
def wKp (K : PySem.W.Frag) (len : Nat) (c : Value) (i : Nat) (ts : Addr → Value → Option Addr → TS) (D : Ends) : WX := fun cls d σ H =>
  PySem.W.exmOne K cls c = some true ∧ (σ.length = len → ∀ a, H a = none →
    ts a cls d { nx := fun σ' H' => D.nx (σ'.set i none) (upd H' a (ExK cls d a)), rt := fun _ _ => False, bk := fun _ _ => False, ct := fun _ _ => False } (σ.set i (some (.ref a))) H)
section
variable {X : Cx} {x n : Str} {c : Value} {i : Nat} {body suite : List Stmt} {b₀ : Stmt} {np pos pos' : Pos} {tb : WX → TS} {ts : Addr → Value → Option Addr → TS}
/-- what is wanted of an exception of the body: the clauses look at it -/
def landing (X : Cx) (hs : List ExceptHandler) (R : Flow → Shared → Prop) : Value → Shared → Prop := fun e s0 =>
  wpAny (model X.prog X.w) X.A (noteFrame e X.env) (fun _ s1 => wpAny (model X.prog X.w) X.A (setFlight e none)
    (fun _ s2 => wpAny (model X.prog X.w) X.A (handleBy e X.env hs) R X.xe s2) X.xe s1) X.xe s0
/-- try: .. except x as n: suite (the suite runs through) -/
theorem ps_try_keep (hs : X.stack = X.env :: X.outer) (hf : X.env.frame = some X.env.locals) (hex : X.ex = []) (hN : X.N.Nodup) (hi : X.N[i]? = some n) (hln : X.env.kindOf n = some .local) (hc : Names X x c)
    (hb : ∀ (W : WX) (pn : List (Addr × Obj)) (xe : Value → Shared → Prop), Takes (X.tr pn xe) W → PassesOwn (model X.prog X.w) X.A X.env xe → PSs (X.tr pn xe) body (tb W))
    (hsu : ∀ (a : Addr) (oe : Obj) (cls : Value) (d : Option Addr) (pn : List (Addr × Obj)), Zc cls d oe → (∃ vs, oe.data = .fields vs) → PSs (X.suite a ((a, oe) :: pn)) (b₀ :: suite) (ts a cls d)) :
    PS X (.Try body [.ExceptHandler (some (.Name x np)) (some n) (b₀ :: suite) pos'] [] [] pos) (fun D σ H => tb (wKp X.K X.N.length c i ts D) D σ H) := by
  refine ⟨fun pins s σ H D I h => wpAny_Try_except ?_⟩
  have ok := I.ok
  have frm : X.A.frames = some (X.env :: X.outer) := by rw [ok.frames, hs]
  have run := (hb (wKp X.K X.N.length c i ts D) (X.pn ++ pins) (landing X [.ExceptHandler (some (.Name x np)) (some n) (b₀ :: suite) pos'] (SP X pins D)) (fun u s' xx => ?_) PassesOwn.looking).run [] s σ H D (I.toTry _) h
  · refine wpAny_mono run (fun fl s1 hsp => ?_) (fun e s1 he => he)
    match fl, hsp with
    | .next, ⟨σ', H', J, q⟩ => exact wpAny_execs_nil ⟨σ', H', J.ofTry ok, q⟩
    | .brk, ⟨σ', H', J, q⟩ => exact ⟨σ', H', J.ofTry ok, q⟩
    | .cont, ⟨σ', H', J, q⟩ => exact ⟨σ', H', J.ofTry ok, q⟩
    | .ret u, ⟨v, σ', H', J, r, q⟩ => exact ⟨v, σ', H', J.ofTry ok, r, q⟩
  · -- what was raised lands here
    obtain ⟨a, B, sI, pins', σ', H', cls, d, rfl, J', nb, up, sky, na, os, ag, hyes, hgo⟩ := xx
    have J : Inv X pins σ' H' sI := J'.ofTry ok
    have air : Sky B (X.env :: X.outer) a (Zc cls d) X.env.locals s'.heap := by
      rw [← hs]
      exact sky
    show wpAny (model X.prog X.w) X.A (noteFrame (.ref a) X.env) _ _ _
    refine Sky.land Zc.steady frm hf air fun h3 fl3 up3 => ?_
    have J3 : Inv X pins σ' H' { s' with heap := h3 } := J.landed nb fl3.1 (up.trans up3) os ag
    obtain ⟨oe3, vs3, he3, hz3, hd3⟩ := fl3.there
    have nB : B.get? a = none := fl3.2.1
    have nfr : a ∉ frs (X.env :: X.outer) := fun hm => by
      obtain ⟨_, o', e', hnf⟩ := fl3.2.2.1.mem hm
      obtain rfl := Option.some.inj (he3.symm.trans e')
      exact hnf _ hd3
    have nL : a ≠ X.env.locals := fun z => nfr (List.mem_filterMap.mpr ⟨X.env, List.mem_cons_self, by rw [hf, z]⟩)
    have nF : a ∉ X.fs := fun hm => by
      obtain ⟨e, he, q⟩ := List.mem_filterMap.mp hm
      exact nfr (List.mem_filterMap.mpr ⟨e, List.mem_cons_of_mem _ he, q⟩)
    have fresh : ∀ b o, sI.heap.get? b = some o → b ≠ a := by
      rintro b o e rfl
      have z := nb b o e (by rw [hs]; exact nfr)
      rw [nB] at z
      cases z
    have n0 : X.s_0.heap.get? a = none := by
      cases q : X.s_0.heap.get? a with
      | none => rfl
      | some o =>
        obtain ⟨o', z⟩ := J.base.there a o q (by rw [hex]; exact List.not_mem_nil)
        exact absurd rfl (fresh a o' z)
    have npp : ∀ p ∈ X.pn ++ pins, p.1 ≠ a := fun p hp => fresh p.1 p.2 (J.pin p hp).1
    have S3 := J3.suite he3 hd3 na nL nF
    refine wpAny_handleBy_cons (codeAny_handlers_test ?_) (by intro q; cases q)
    have seen : PySem.W.Looks (model X.prog X.w) h3 (typeOf (.ref a)) cls := fun A Q E s k q => wpAny_typeOf_ref (k _ _ he3) (by
      rw [hz3.1]
      exact q)
    have fits := PySem.W.exm_one (M := model X.prog X.w) J3.kIn seen hyes
    have look : ∀ {Q : Value → Shared → Prop} {E : Value → Shared → Prop}, Q c { s' with heap := h3 } → wpAny (model X.prog X.w) (X.A.mark (some (.ref a))) (eval (.Name x np) X.env) Q E { s' with heap := h3 } := by
      intro Q E q
      obtain ⟨hg, hdbg, hm | ⟨hm, hv, hnn⟩⟩ := hc
      · exact ld_glob (X := X.suite a ((a, oe3) :: (X.pn ++ pins))) S3 hg hm q hdbg
      · exact ld_blt (X := X.suite a ((a, oe3) :: (X.pn ++ pins))) S3 hg hm hv q hnn hdbg
    refine look (fits.here (codeAny_handlers_suite_as ?_))
    refine HandSPX.lands_againZ fl3 fun h4 fl4 up4 => ?_
    have J4 : Inv X pins σ' H' { s' with heap := h4 } := J.landed nb fl4.1 ((up.trans up3).trans up4) os ag
    obtain ⟨oe4, vs4, he4, hz4, hd4⟩ := fl4.there
    have S4 := J4.suite he4 hd4 na nL nF
    refine store_ok (X := X.suite a ((a, oe4) :: (X.pn ++ pins))) (v := .ref a) S4 hN hi (.inl hln) rfl (fun s5 S5 => ?_) (.inr hln)
    refine wpAny_mono ((hsu a oe4 cls d (X.pn ++ pins) hz4 ⟨_, hd4⟩).run [] s5 _ H' _ S5 (hgo J.len a na)) (fun fl s6 hsp => ?_) (fun _ _ z => False.elim z)
    match fl, hsp with
    | .brk, ⟨_, _, _, q⟩ => exact False.elim q
    | .cont, ⟨_, _, _, q⟩ => exact False.elim q
    | .ret u, ⟨_, _, _, _, _, q⟩ => exact False.elim q
    | .next, ⟨σ6, H6, S6, q6⟩ =>
      obtain ⟨g6, n6, _⟩ := S6.pin (a, oe4) (List.mem_append_left _ List.mem_cons_self)
      have J6 : Inv X ((a, oe4) :: pins) σ6 H6 s6 := (S6.unsuite ok).pins_of fun p hp => by
        rcases List.mem_cons.mp hp with e | hp
        · rw [e]
          exact ⟨g6, n6, nL, nF, fun v z => by
            have z' : oe4.data = .cell v := z
            rw [hd4] at z'
            cases z'⟩
        · exact (S6.unsuite ok).pin p (List.mem_append_right _ hp)
      exact gone_ok J6 hN hi hln fun s7 J7 => ⟨_, _, keep_pinned J7 hz4 ⟨_, hd4⟩ n0 npp, q6⟩
end
/-- isinstance(e, c), e such an exception -/
def rIsK (K : PySem.W.Frag) (D : Addr) : List V → Hp → VK → Prop := fun xs H Q => ∃ (a : Addr) (c : V) (cv : Value) (b : Bool), xs = [.ref a, c] ∧ H a = some (ExK (.ref D) none a) ∧ ClsV c cv ∧ PySem.W.kitOne K (.ref D) cv = some b ∧ Q (.bl b) H
theorem call_isK {X : Cx} {D : Addr} (C : ExcC X.K D) : CallR X (.builtin "isinstance") (rIsK X.K D) := by
  intro pins s σ H xs us Q I r h
  obtain ⟨a, c, cv, b, rfl, ha, hcv, e, q⟩ := h
  obtain ⟨u1, u2, rfl, r1, r2⟩ := vals2 r
  obtain rfl : u1 = Value.ref a := r1
  obtain rfl := hcv.eq r2
  obtain ⟨⟨oe, g, hz, vs, hv⟩, _, _⟩ := I.hok a _ ha
  have J : PySem.W.InstAt s.heap a oe D none := by
    obtain ⟨oc, od, oda, osl⟩ := oe
    obtain ⟨h1, h2⟩ := hz
    dsimp only at h1 h2 hv
    subst h1 h2 hv
    exact ⟨g, rfl, rfl, trivial⟩
  exact PySem.W.kia_one (PySem.W.handS_kitx_exc C.hg C.hk C.hs C.hd C.ha C.hn C.ht C.hm) I.kIn J e (fun z => nomatch z) fun tk => ⟨.bl b, H, I.kept (t' := tk) fun _ _ z => z, rfl, q⟩
end Vk
/-! A kept exception with fields of its own. -/
namespace Vk
open PySem PySem.Spec PyProof.Rows L2
/-- a kept exception of the class C with these fields -/
def KxF (H : Hp) (a C : Addr) (fs : List (Str × V)) : Prop := ∃ dd, H a = some (ExK (.ref C) (some dd) a) ∧ H dd = some (.xd fs)
theorem KxF.same {H H' : Hp} {a C : Addr} {fs : List (Str × V)} (k : KxF H a C fs) (s : Same H H') : KxF H' a C fs := by
  obtain ⟨dd, h1, h2⟩ := k
  exact ⟨dd, s _ _ h1, s _ _ h2⟩
theorem KxF.inst {X : Cx} {pins : List (Addr × Obj)} {σ : L2.St} {H : Hp} {s : Shared} {a C : Addr} {fs : List (Str × V)} (I : Inv X pins σ H s) (k : KxF H a C fs) : ∃ (oe od : Obj) (mA : Str → Option Value), PySem.W.InstAt s.heap a oe C (some od) ∧ (∀ f, PySem.W.lookIn f od = some (mA f)) ∧ ∀ f, RelO (fs.lookup f) (mA f) := by
  obtain ⟨dd, h1, h2⟩ := k
  obtain ⟨⟨oe, g, hz, vs, hd⟩, _, _⟩ := I.hok a _ h1
  obtain ⟨mA, hns, hr⟩ := (show ObjOk X.prog X.w H s.heap dd (.xd fs) from I.hok dd _ h2)
  obtain ⟨od, ho, hl⟩ := lookIn_ns hns
  exact ⟨oe, od, mA, ⟨g, hz.1, by unfold PySem.W.notCls; rw [hd] <;> rfl, by rw [hz.2]; exact ho⟩, hl, hr⟩
/-- isinstance(e, c) -/
def rIsF (K : PySem.W.Frag) (C : Addr) : List V → Hp → VK → Prop := fun xs H Q => ∃ (a : Addr) (fs : List (Str × V)) (c : V) (cv : Value) (b : Bool), xs = [.ref a, c] ∧ KxF H a C fs ∧ ClsV c cv ∧ PySem.W.kitOne K (.ref C) cv = some b ∧ Q (.bl b) H
theorem call_isF {X : Cx} {C : Addr} (E : ExcC X.K C) : CallR X (.builtin "isinstance") (rIsF X.K C) := by
  intro pins s σ H xs us Q I r h
  obtain ⟨a, fs, c, cv, b, rfl, k, hcv, e, q⟩ := h
  obtain ⟨u1, u2, rfl, r1, r2⟩ := vals2 r
  obtain rfl : u1 = Value.ref a := r1
  obtain rfl := hcv.eq r2
  obtain ⟨oe, od, mA, J, _, _⟩ := k.inst I
  have hcl : (PySem.W.clsIn X.K C).isSome = true := by
    obtain ⟨cd, hc, _⟩ := PySem.W.any_some E.hd
    rw [hc]
    rfl
  exact PySem.W.kia_one (PySem.W.kitx_exc (od := some od) hcl E.hg E.hk E.hs E.ha E.hn E.ht E.hm) I.kIn J e (fun z => nomatch z) fun tk => ⟨.bl b, H, I.kept (t' := tk) fun _ _ z => z, rfl, q⟩
/-- e.f -/
def tKf (C : Addr) (f : Str) (te : TE) : TE := fun σ H Q => te σ H fun x H1 => ∃ (a : Addr) (fs : List (Str × V)) (v : V), x = .ref a ∧ KxF H1 a C fs ∧ fs.lookup f = some v ∧ Q v H1
theorem pe_kf {X : Cx} {C : Addr} {e : Expr} {te : TE} {pos : Pos} {n : Str} (T : XfC X.K C) (hno : PySem.W.findIn X.K (.ref C) n = some none) (he : PE X e te) (hb : attributeBase e n X.env (eval e X.env) = eval e X.env := by rfl) :
    PE X (.Attribute e n pos) (tKf C n te) := by
  refine ⟨fun pins s σ H Q I h => attr_of hb (thn (he.run pins s σ H _ I h) fun u s1 hh => ?_)⟩
  obtain ⟨x, H1, I1, rx, a, fs, v, rfl, k, l, q⟩ := hh
  obtain rfl : u = Value.ref a := rx
  obtain ⟨oe, od, mA, J, hl, hr⟩ := k.inst I1
  obtain ⟨u, hu, ru⟩ := RelO.some_of (v := v) (o := mA n) (by rw [← l]; exact hr n)
  exact HandSPX.exc_get I1.kIn J T.ga T.gg T.exC (PySem.W.findObj_own T.hdC hno rfl (by rw [hl, hu])) (handed_of ru) ⟨v, H1, I1.tok _, ru, q⟩
end Vk
namespace K09
open PySem PySem.Spec PyProof.Rows L2 Vk
def topS (i : Nat) : Stmt := PySem.Challenge.pw_pointtally_k09_whole_determinants.main.body.getD i (.Pass ⟨0, 0, 0, 0⟩)
abbrev s_begun : Stmt := topS 11
theorem sc_begun : FnScope ["script", "k_so", "cells", "cell", "great", "seed"] ["script", "k_so"] (defScope s_begun) := ⟨rfl, rfl, rfl, by decide +kernel, rfl, by decide +kernel, by decide +kernel⟩
abbrev s_draw : Stmt := topS 12
theorem sc_draw : FnScope ["m", "bound", "found", "spot", "cells", "extra", "cell", "blend"] ["m", "bound"] (defScope s_draw) := ⟨rfl, rfl, rfl, by decide +kernel, rfl, by decide +kernel, by decide +kernel⟩
abbrev s_of : Stmt := topS 13
theorem sc_of : FnScope ["m", "some"] ["m", "some"] (defScope s_of) := ⟨rfl, rfl, rfl, by decide +kernel, rfl, by decide +kernel, by decide +kernel⟩
abbrev s_like : Stmt := topS 14
theorem sc_like : FnScope ["got", "due"] ["got", "due"] (defScope s_like) := ⟨rfl, rfl, rfl, by decide +kernel, rfl, by decide +kernel, by decide +kernel⟩
abbrev s_signed : Stmt := topS 17
theorem sc_signed : FnScope ["m", "most", "number"] ["m", "most"] (defScope s_signed) := ⟨rfl, rfl, rfl, by decide +kernel, rfl, by decide +kernel, by decide +kernel⟩
abbrev s_psum : Stmt := topS 1
theorem sc_psum : FnScope ["one", "other", "a", "b"] ["one", "other"] (defScope s_psum) := ⟨rfl, rfl, rfl, by decide +kernel, rfl, by decide +kernel, by decide +kernel⟩
section
variable {P : Program} {w : World} {K : PySem.W.Frag} {mg : Str → Option Value} {base : Heap}
theorem ok_begun {f : Addr} {fd : FuncData} (F : Fun K "_law_begun" "_law_begun" s_begun f fd) (m_int : mg "int" = none) : FnOk P w K mg base CX0 1 f fd ["script", "k_so"] (spBegun K) := by
  have sc := sc_begun
  refine F.ok sc (fun vs H Q E h => ?_) (fun cdv A outer s H vs Q E hr h => ?_)
  · obtain ⟨a, k, ns, rfl, _⟩ := h
    rfl
  · obtain ⟨a, k, ns, rfl, hS, hl, hk0, hk1, q⟩ := h
    refine ⟨_, (pss_cons (ps_set (i := 2) sc.nd rfl (Or.inl rfl) (pe_op op_cat (pe_slice sl_list (pv 0) (po_some (pv 1)) po_none) (pe_slice sl_list (pv 0) po_none (po_some (pv 1)))))
    (pss_cons (ps_setLc (i := 4) (own := [("cell", 3)]) (g := gName 3) (by rfl) sc.nd rfl rfl (sw_true rfl rfl rfl (by decide +kernel)) (pi_list (pv 2)) (blkOk_by (own := [("cell", 3)]) (N := ["script", "k_so", "cells", "cell", "great", "seed"]) (sc := defScope s_begun) (by decide +kernel)) (fun _ _ _ _ _ => pg_name (i := 3) sc.nd rfl (Or.inl rfl)) (fun _ _ _ _ _ => (pts_one (pt_cmpR op_ge (pv 3) (pe_op op_pow pe_int pe_int) (nomark _)))) (fun _ _ _ _ _ => (pv 3)))
    (pss_cons (ps_set (i := 5) sc.nd rfl (Or.inl rfl) (pe_op op_add pe_int (pv 1)))
    (pss_cons (ps_for PassesOwn.never rfl (pi_list (pv 2)) (pg_name (i := 3) sc.nd rfl (Or.inl rfl))
      (pss_one (ps_set (i := 5) sc.nd rfl (Or.inl rfl) (pe_op op_modN (pe_callTy call_int1 (by rfl) m_int (by decide +kernel) (pa_cons (pe_op op_add (pe_op op_mul (pv 5) pe_int) (pv 3)) pa_nil)) pe_int))))
    (pss_one (ps_ret (pe_disp (pps_cons pe_str (pe_ifExp (pt_cmpR (op_neD hr.units) (pv 4) (pe_lst pa_nil) (nomark _)) (pe_ix ix_list (pv 4) pe_int (fun _ _ => rfl)) pe_int) (pps_cons pe_str (pv 5) (pps_cons pe_str (pe_op op_cat (pv 2) (pe_lst (pa_cons (pe_op op_add (pe_op op_mul pe_int (pv 1)) pe_int) pa_nil))) (pps_cons pe_str pe_int pps_nil)))) (by rfl) (by rfl) (fun z => by cases z) (by decide)))))))), ?_⟩
    obtain ⟨l1, e1, b1⟩ := cut_ints ns (some k) none
    obtain ⟨l2, e2, b2⟩ := cut_ints ns none (some k)
    refine ⟨.ref a, rfl, .int k, rfl, k, rfl, a, _, rfl, hS, fun p1 n1 => ?_⟩
    rw [e1]
    have s1 : Same H (upd H p1 (.lst (l1.map V.int))) := same_new n1
    refine ⟨.ref a, rfl, .int k, rfl, k, rfl, a, _, rfl, s1.seq hS, fun p2 n2 => ?_⟩
    rw [e2]
    have n12 : p1 ≠ p2 := fun z => by
      rw [← z, upd_same] at n2
      cases n2
    have h2 : H p2 = none := s1.free n2
    refine ⟨p1, p2, l1.map V.int, l2.map V.int, rfl, rfl, ?_, upd_same, ?_, fun p np => ?_⟩
    · rw [upd_ne n12, upd_same]
    · rw [List.length_map, List.length_map]
      exact Nat.le_of_lt (small1000 (by omega))
    rw [← List.map_append]
    have s2 : Same H (upd (upd H p1 (.lst (l1.map V.int))) p2 (.lst (l2.map V.int))) := same_put s1 h2
    have hp : H p = none := s2.free np
    have s3 := same_put (o := .lst ((l1 ++ l2).map V.int)) s2 hp
    have hH3 : upd (upd (upd H p1 (.lst (l1.map V.int))) p2 (.lst (l2.map V.int))) p (.lst ((l1 ++ l2).map V.int)) p = some (.lst ((l1 ++ l2).map V.int)) := upd_same
    generalize upd (upd (upd H p1 (.lst (l1.map V.int))) p2 (.lst (l2.map V.int))) p (.lst ((l1 ++ l2).map V.int)) = H3 at s3 hH3 ⊢
    have g3 : H3 p = some (.lst ((l1 ++ l2).map V.int)) := hH3
    generalize hcs : l1 ++ l2 = cs at g3
    have bcs : cs.length ≤ 126 := by
      rw [← hcs, List.length_append]
      omega
    refine ⟨.ref p, rfl, p, rfl, ⟨_, SqL.of g3⟩, fun D nD => ?_⟩
    have hD : H D = none := s3.free nD
    have nDp : p ≠ D := ne_of_none g3 nD
    refine lc_list (K := K) (a := p) (xs := cs.map V.int) (fun i H' => ∃ acc : List Int, H' = upd H3 D (.lst (acc.map V.int)) ∧ acc.length ≤ i) ⟨[], rfl, Nat.le_refl _⟩ ?_ ?_ ?_
    · rintro i H' _ ⟨acc, rfl, _⟩
      refine SqL.of ?_
      rw [upd_ne nDp]
      exact g3
    · rintro i x H' hx ⟨acc, rfl, hacc⟩
      obtain ⟨z, hz, rfl⟩ : ∃ z, cs[i]? = some z ∧ x = V.int z := by
        rw [List.getElem?_map] at hx
        cases hc : cs[i]? with
        | none => rw [hc] at hx; cases hx
        | some z => rw [hc] at hx; exact ⟨z, rfl, (Option.some.inj hx).symm⟩
      have hi : i < cs.length := (List.getElem?_eq_some_iff.mp hz).1
      refine ⟨rfl, .int z, rfl, 10, 18, rfl, rfl, ⟨by decide, by decide, by decide⟩, z, _, rfl, rfl, _, rfl, ite2 (fun h => ?_) (fun h => ?_)⟩
      · refine ⟨.int z, rfl, _, upd_same, ?_, acc ++ [z], ?_, ?_⟩
        · rw [List.length_map]
          exact small1000 (by omega)
        · rw [upd_upd, List.map_append]
          rfl
        · rw [List.length_append]
          show acc.length + 1 ≤ i + 1
          omega
      · exact ⟨acc, rfl, by omega⟩
    rintro H' ⟨acc, rfl, hacc⟩
    have s4 : Same H (upd H3 D (.lst (acc.map V.int))) := same_put s3 hD
    have g4 : upd H3 D (.lst (acc.map V.int)) p = some (.lst (cs.map V.int)) := by
      rw [upd_ne nDp]
      exact g3
    have d4 : upd H3 D (.lst (acc.map V.int)) D = some (.lst (acc.map V.int)) := upd_same
    generalize upd H3 D (.lst (acc.map V.int)) = H4 at s4 g4 d4
    refine ⟨.int k, rfl, 71, k, rfl, rfl, .ref p, rfl, p, rfl, ⟨_, SqL.of g4⟩, ?_⟩
    refine for_list (K := K) (a := p) (xs := cs.map V.int) (fun i σ H' => ∃ (sd : Int) (y : Option V), σ = [some (.ref a), some (.int k), some (.ref p), y, some (.ref D), some (.int sd)] ∧ H' = H4 ∧ 0 ≤ sd ∧ sd < 2147483648) ⟨71 + k, none, rfl, rfl, by omega, by omega⟩ ?_ ?_ ?_
    · rintro i σ H' _ ⟨sd, y, rfl, rfl, _⟩
      exact SqL.of g4
    · rintro i x σ H' hx ⟨sd, y, rfl, rfl, h0, h1⟩
      obtain ⟨z, hz, rfl⟩ : ∃ z, cs[i]? = some z ∧ x = V.int z := by
        rw [List.getElem?_map] at hx
        cases hc : cs[i]? with
        | none => rw [hc] at hx; cases hx
        | some z => rw [hc] at hx; exact ⟨z, rfl, (Option.some.inj hx).symm⟩
      refine ⟨.int sd, rfl, sd, 48271, rfl, rfl, .inl ⟨by omega, by omega⟩, .int z, rfl, _, z, rfl, rfl, .inl ⟨_, rfl, _, 2147483647, rfl, rfl, (by show (2147483647 : Int) ≠ 0; decide), ?_⟩⟩
      have q1 := Int.fmod_lt_of_pos (sd * 48271 + z) (show (0 : Int) < 2147483647 by decide)
      exact ⟨_, _, rfl, rfl, Int.fmod_nonneg_of_pos _ (by decide), by omega⟩
    rintro σ H' ⟨sd, y, rfl, rfl, h0, h1⟩
    intro r nr
    have hr0 : H r = none := s4.free nr
    have s5 : Same H (upd H' r (.dK [])) := same_put s4 hr0
    have prn : p ≠ r := ne_of_none g4 nr
    have drn : D ≠ r := ne_of_none d4 nr
    have g5 : upd H' r (.dK []) p = some (.lst (cs.map V.int)) := by
      rw [upd_ne prn]
      exact g4
    have d5 : upd H' r (.dK []) D = some (.lst (acc.map V.int)) := by
      rw [upd_ne drn]
      exact d4
    have r5 : upd H' r (.dK []) r = some (.dK []) := upd_same
    generalize upd H' r (.dK []) = H5 at s5 g5 d5 r5 ⊢
    refine ⟨.ref D, rfl, Nat.zero_le _, fun e0 ne0 => ?_⟩
    have p0 : p ≠ e0 := ne_of_none g5 ne0
    have d0 : D ≠ e0 := ne_of_none d5 ne0
    have r0 : r ≠ e0 := ne_of_none r5 ne0
    have s6 : Same H (upd H5 e0 (.lst [])) := same_put s5 (s5.free ne0)
    have g6 : upd H5 e0 (.lst []) p = some (.lst (cs.map V.int)) := by
      rw [upd_ne p0]
      exact g5
    have d6 : upd H5 e0 (.lst []) D = some (.lst (acc.map V.int)) := by
      rw [upd_ne d0]
      exact d5
    have r6 : upd H5 e0 (.lst []) r = some (.dK []) := by
      rw [upd_ne r0]
      exact r5
    have l6 : upd H5 e0 (.lst []) e0 = some (.lst ([] : List V)) := upd_same
    generalize upd H5 e0 (.lst []) = H6 at s6 g6 d6 r6 l6 ⊢
    refine ⟨.list (acc.map PyData.int), .list [], .lst (SqL.of d6) (dp_ints acc), .lst (SqL.of l6) .nil, shaped_ints acc, shaped_ints [], _, rfl, ?_⟩
    refine tif_both (fun v => ∃ L : Int, v = .int L) ?_ ?_ ?_
    · rintro _ ⟨L, rfl⟩
      refine ⟨.int sd, rfl, .ref p, rfl, .int k, rfl, 53, k, rfl, rfl, .inl ⟨by decide, by decide⟩, _, 11, rfl, rfl, (by show 1 ≤ sizeLine; decide), fun e1 ne1 => ?_⟩
      have p1' : p ≠ e1 := ne_of_none g6 ne1
      have r1' : r ≠ e1 := ne_of_none r6 ne1
      have s7 : Same H (upd H6 e1 (.lst [.int (53 * k + 11)])) := same_put s6 (s6.free ne1)
      refine ⟨p, e1, cs.map V.int, [.int (53 * k + 11)], rfl, rfl, ?_, upd_same, ?_, fun c nc => ?_⟩
      · rw [upd_ne p1']
        exact g6
      · rw [List.length_map]
        exact Nat.le_of_lt (small1000 (show cs.length + 1 ≤ 1000 by omega))
      have r7 : upd H6 e1 (.lst [.int (53 * k + 11)]) r = some (.dK []) := by
        rw [upd_ne r1']
        exact r6
      have rc : r ≠ c := ne_of_none r7 nc
      have s8 := same_put (o := .lst (cs.map V.int ++ [.int (53 * k + 11)])) s7 (s7.free nc)
      refine ⟨?_, mkv L sd c 0, rfl, (by show 4 ≤ 15; decide), ?_⟩
      · rw [upd_ne rc]
        exact r7
      refine q _ _ _ (same_put s8 hr0) hr0 ⟨L, sd, 0, cs ++ [53 * k + 11], upd_same, ?_, ?_, by omega, by omega⟩
      · rw [upd_ne (Ne.symm rc), upd_same, List.map_append]
        rfl
      · rw [List.length_append]
        exact Nat.succ_pos _
    · intro hc hQ
      cases acc with
      | nil => exact absurd hc (by decide)
      | cons z zs => exact ⟨.ref D, rfl, D, _, 0, .int z, rfl, rfl, SqL.of d6, atI_nat (j := 0) rfl, hQ _ ⟨z, rfl⟩⟩
    · intro hc hQ
      exact hQ _ ⟨0, rfl⟩
theorem ok_draw {f : Addr} {fd : FuncData} (F : Fun K "_law_draw" "_law_draw" s_draw f fd) (m_int : mg "int" = none) (m_len : mg "len" = none) : FnOk P w K mg base CX0 1 f fd ["m", "bound"] spDraw := by
  have sc := sc_draw
  refine F.ok sc (fun vs H Q E h => ?_) (fun cdv A outer s H vs Q E hr h => ?_)
  · obtain ⟨m, c, n, b, rfl, _⟩ := h
    rfl
  · obtain ⟨m, c, n, b, rfl, hM, hn, hb0, hb1, q⟩ := h
    refine ⟨_, (pss_cons (ps_if (pt_cmpR op_gt (pe_dget (hu_of hr) (pv 0) pe_str (fun _ _ => rfl)) pe_int (nomark _))
      (pss_cons (ps_set (i := 2) sc.nd rfl (Or.inl rfl) (pe_op op_modN (pe_callTy call_int1 (by rfl) m_int (by decide +kernel) (pa_cons (pe_dget (hu_of hr) (pv 0) pe_str (fun _ _ => rfl)) pa_nil)) (pv 1)))
    (pss_cons (ps_dput (hu_of hr) (pv 0) pe_str (pe_op op_fdivX (pe_dget (hu_of hr) (pv 0) pe_str (fun _ _ => rfl)) (pv 1)) rfl)
    (pss_one (ps_ret (pv 2)))))
      pss_nil)
    (pss_cons (ps_set (i := 3) sc.nd rfl (Or.inl rfl) (pe_dget (hu_of hr) (pv 0) pe_str (fun _ _ => rfl)))
    (pss_cons (ps_dput (hu_of hr) (pv 0) pe_str (pe_op op_add (pv 3) pe_int) rfl)
    (pss_cons (ps_par (i := 4) (j := 5) (by rfl) sc.nd rfl rfl (by decide) rfl rfl (pa_cons (pe_dget (hu_of hr) (pv 0) pe_str (fun _ _ => rfl)) (pa_cons (pe_op op_add (pe_dget (hu_of hr) (pv 0) pe_str (fun _ _ => rfl)) (pe_op op_mul (pe_op op_mul pe_int (pv 3)) (pv 3))) pa_nil)) (by rfl))
    (pss_cons (ps_set (i := 6) sc.nd rfl (Or.inl rfl) (pe_ix ix_list (pv 4) (pe_op op_modN (pe_callTy call_int1 (by rfl) m_int (by decide +kernel) (pa_cons (pv 3) pa_nil)) (pe_callB call_len_seq (by rfl) m_len (by decide +kernel) (pa_cons (pv 4) pa_nil))) (fun _ _ => rfl)))
    (pss_cons (ps_set (i := 7) sc.nd rfl (Or.inl rfl) (pe_op op_modN (pe_callTy call_int1 (by rfl) m_int (by decide +kernel) (pa_cons (pe_op op_add (pe_op op_mul (pv 6) (pe_op op_add (pe_op op_mul pe_int (pv 3)) pe_int)) (pv 5)) pa_nil)) pe_int))
    (pss_cons (ps_set (i := 7) sc.nd rfl (Or.inl rfl) (pe_op op_modN (pe_callTy call_int1 (by rfl) m_int (by decide +kernel) (pa_cons (pe_op op_add (pe_op op_add (pe_op op_mul (pv 7) (pv 7)) (pe_op op_mul pe_int (pv 3))) (pe_dget (hu_of hr) (pv 0) pe_str (fun _ _ => rfl))) pa_nil)) pe_int))
    (pss_one (ps_ret (pe_op op_modN (pe_op op_fdivN (pe_op op_modN (pe_callTy call_int1 (by rfl) m_int (by decide +kernel) (pa_cons (pe_op op_add (pe_op op_mul (pv 7) pe_int) (pv 3)) pa_nil)) pe_int) pe_int) (pv 1))))))))))), ?_⟩
    obtain ⟨L, sd, sp, cells, h1, h2, h3, h4, h5⟩ := hM
    have ncm : c ≠ m := ne_of h2 h1 (by intro z; cases z)
    refine ⟨.ref m, rfl, m, .int L, rfl, get_m h1 val_left, L, 0, rfl, rfl, _, rfl, ite2 (fun hL => ?_) (fun hL => ?_)⟩
    · -- the first way
      refine ⟨.ref m, rfl, m, .int L, rfl, get_m h1 val_left, .inl ⟨L, rfl, .int b, rfl, L, b, rfl, rfl, by omega, ?_⟩⟩
      refine ⟨.ref m, rfl, m, .int L, rfl, get_m h1 val_left, .int b, rfl, L, b, rfl, rfl, ⟨by omega, Nat.lt_trans (PySem.Flt.log2_lt_of (by decide) hb1) (by decide)⟩, .ref m, rfl, m, _, rfl, put_m h1 put_left, ?_⟩
      refine ⟨.int (L.fmod b), rfl, q _ _ but_put ⟨_, sd, sp, cells, upd_same, ?_, h3, h4, by omega⟩ (Int.fmod_nonneg_of_pos _ hb0) (Int.fmod_lt_of_pos _ hb0)⟩
      rw [upd_ne ncm]
      exact h2
    · -- the second way
      refine ⟨.ref m, rfl, m, .int sp, rfl, get_m h1 val_spot, ?_⟩
      refine ⟨.int sp, rfl, sp, 1, rfl, rfl, .ref m, rfl, m, _, rfl, put_m h1 put_spot, ?_⟩
      have g1 : (upd H m (.dK (mkv L sd c (sp + 1)))) m = some (.dK (mkv L sd c (sp + 1))) := upd_same
      have g2 : (upd H m (.dK (mkv L sd c (sp + 1)))) c = some (.lst (cells.map V.int)) := by
        rw [upd_ne ncm]
        exact h2
      refine ⟨.ref m, rfl, m, .ref c, rfl, get_m g1 val_cells, .ref m, rfl, m, .int sd, rfl, get_m g1 val_seed, .int sp, rfl, 40503, sp, rfl, rfl, .inl ⟨by decide, by decide⟩, .int sp, rfl, 40503 * sp, sp, rfl, rfl, .inr ⟨by omega, by omega⟩, sd, 40503 * sp * sp, rfl, rfl, .ref c, .int (sd + 40503 * sp * sp), rfl, ?_⟩
      have hj : (sp.toNat % cells.length) < cells.length := Nat.mod_lt _ h3
      have e1 : Int.fmod sp ((cells.map V.int).length : Int) = ((sp.toNat % cells.length : Nat) : Int) := by
        rw [List.length_map, Int.fmod_eq_emod_of_nonneg _ (by omega), Int.natCast_emod, Int.toNat_of_nonneg h4]
      have e2 : (cells.map V.int)[sp.toNat % cells.length]? = some (.int cells[sp.toNat % cells.length]) := by
        rw [List.getElem?_map, List.getElem?_eq_getElem hj]
        rfl
      refine ⟨.ref c, rfl, .int sp, rfl, .inl ⟨sp, rfl, .ref c, rfl, c, _, rfl, .inl (SqL.of g2), sp, _, rfl, rfl, ?_, c, _, _, .int cells[sp.toNat % cells.length], rfl, rfl, SqL.of g2, ?_, ?_⟩⟩
      · rw [List.length_map]
        omega
      · rw [e1]
        exact atI_nat e2
      refine ⟨_, rfl, .int sp, rfl, 2, sp, rfl, rfl, .inl ⟨by decide, by decide⟩, 2 * sp, 3, rfl, rfl, _, 2 * sp + 3, rfl, rfl, .inr ⟨by omega, by omega⟩, _, rfl, _, _, rfl, rfl, .inl ⟨_, rfl, _, 2147483647, rfl, rfl, (by show (2147483647 : Int) ≠ 0; decide), ?_⟩⟩
      dsimp only
      generalize hB : Int.fmod (cells[sp.toNat % cells.length] * (2 * sp + 3) + (sd + 40503 * sp * sp)) 2147483647 = B
      have b0 : 0 ≤ B := by
        rw [← hB]
        exact Int.fmod_nonneg_of_pos _ (by decide)
      have b1 : B < 2147483647 := by
        rw [← hB]
        exact Int.fmod_lt_of_pos _ (by decide)
      refine ⟨.int B, rfl, .int B, rfl, B, B, rfl, rfl, .inl ⟨by omega, by omega⟩, .int sp, rfl, 69621, sp, rfl, rfl, .inl ⟨by decide, by decide⟩, B * B, 69621 * sp, rfl, rfl, .ref m, rfl, m, .int sd, rfl, get_m g1 val_seed, _, sd, rfl, rfl, .inl ⟨_, rfl, _, 2147483629, rfl, rfl, (by show (2147483629 : Int) ≠ 0; decide), ?_⟩⟩
      dsimp only
      generalize hB2 : Int.fmod (B * B + 69621 * sp + sd) 2147483629 = B2
      have c0 : 0 ≤ B2 := by
        rw [← hB2]
        exact Int.fmod_nonneg_of_pos _ (by decide)
      have c1 : B2 < 2147483629 := by
        rw [← hB2]
        exact Int.fmod_lt_of_pos _ (by decide)
      refine ⟨.int B2, rfl, B2, 48271, rfl, rfl, .inl ⟨by omega, by omega⟩, .int sp, rfl, _, sp, rfl, rfl, .inl ⟨_, rfl, _, 2147483647, rfl, rfl, (by show (2147483647 : Int) ≠ 0; decide), _, 11, rfl, rfl, (by show (11 : Int) ≠ 0 ∧ (11 : Int).natAbs < 1073741824; decide), .int b, rfl, _, b, rfl, rfl, by omega, ?_⟩⟩
      exact q _ _ but_put ⟨L, sd, sp + 1, cells, g1, g2, h3, by omega, by omega⟩ (Int.fmod_nonneg_of_pos _ hb0) (Int.fmod_lt_of_pos _ hb0)
theorem ok_of {f : Addr} {fd : FuncData} (F : Fun K "_law_of" "_law_of" s_of f fd) (C__law_draw : Cal P w K mg base 1 "_law_draw" ["m", "bound"] spDraw) (m_len : mg "len" = none) : FnOk P w K mg base CX0 2 f fd ["m", "some"] spOf := by
  have sc := sc_of
  refine F.ok sc (fun vs H Q E h => ?_) (fun cdv A outer s H vs Q E hr h => ?_)
  · obtain ⟨m, c, L, n, xs, rfl, _⟩ := h
    rfl
  · obtain ⟨m, c, L, n, xs, rfl, hM, hn, hL, h0, h1, q⟩ := h
    refine ⟨_, (pss_one (ps_ret (pe_ix ix_list (pv 1) (call_ C__law_draw (hr.mono (by decide)) (by rfl) (pa_cons (pv 0) (pa_cons (pe_callB call_len_seq (by rfl) m_len (by decide +kernel) (pa_cons (pv 1) pa_nil)) pa_nil))) (fun _ _ => rfl)))), ?_⟩
    have hLm : L ≠ m := by
      obtain ⟨_, _, _, _, h2, _⟩ := hM
      exact ne_of hL h2 (by intro z; cases z)
    refine ⟨.ref L, rfl, .ref m, rfl, .ref L, rfl, L, xs, rfl, .inl (SqL.of hL), m, c, n, xs.length, rfl, hM, hn, by omega, ?_, fun H1 v b1 M1 v0 v1 => ?_⟩
    · have e : ((xs.length : Nat) : Int).natAbs = xs.length := by omega
      rw [e]
      exact Nat.lt_of_le_of_lt h1 (by decide)
    · obtain ⟨j, rfl⟩ : ∃ j : Nat, v = j := ⟨v.toNat, by omega⟩
      have hj : j < xs.length := by omega
      exact ⟨L, xs, j, xs[j], rfl, rfl, SqL.of (b1 _ _ hLm hL), atI_nat (List.getElem?_eq_getElem hj), q H1 xs[j] b1 M1 (List.getElem_mem hj)⟩
theorem ok_like {f : Addr} {fd : FuncData} (F : Fun K "_law_like" "_law_like" s_like f fd) (m_repr : mg "repr" = none) : FnG P w K mg base 1 f fd ["got", "due"] (spLike K) := by
  have sc := sc_like
  refine okG F sc (fun vs H Q E h => ?_) (fun cdv A outer s H vs Q E hG hr h => ?_)
  · obtain ⟨x, y, d, rfl, _⟩ := h
    rfl
  · obtain ⟨x, y, d, rfl, h1, h2, hf, q⟩ := h
    have hG' : Quiet (cxOf CX0 P w K mg base ["got", "due"] "_law_like" (defScope s_like) f cdv A outer s H E).nox.A := hG.deeper _
    refine ⟨_, (pss_one (ps_ret (pe_cmpR op_eq (pe_callB (call_rep hG' hr.units) (by rfl) m_repr (by decide +kernel) (pa_cons (pv 0) pa_nil)) (pe_callB (call_rep hG' hr.units) (by rfl) m_repr (by decide +kernel) (pa_cons (pv 1) pa_nil)) (nomark _)))), ?_⟩
    refine ⟨x, rfl, x, d, rfl, h1, hf.s, hf.h, hf.dp, hf.len (Nat.le_refl _), y, rfl, y, d, rfl, h2, hf.s, hf.h, hf.dp, hf.len (Nat.le_refl _), rfl, ?_⟩
    rw [decide_eq_true rfl]
    exact q
theorem ok_signed {f : Addr} {fd : FuncData} (F : Fun K "_law_signed" "_law_signed" s_signed f fd) (C__law_draw : Cal P w K mg base 1 "_law_draw" ["m", "bound"] spDraw) : FnOk P w K mg base CX0 2 f fd ["m", "most"] spSigned := by
  have sc := sc_signed
  refine F.ok sc (fun vs H Q E h => ?_) (fun cdv A outer s H vs Q E hr h => ?_)
  · obtain ⟨m, c, q, b, rfl, _⟩ := h
    rfl
  · obtain ⟨m, c, q, b, rfl, hM, hq, b0, b1, k⟩ := h
    refine ⟨_, (pss_cons (ps_set (i := 2) sc.nd rfl (Or.inl rfl) (call_ C__law_draw (hr.mono (by decide)) (by rfl) (pa_cons (pv 0) (pa_cons (pe_op op_add (pv 1) pe_int) pa_nil))))
    (pss_one (ps_ret (pe_ifExp (pt_cmpR op_eq (call_ C__law_draw (hr.mono (by decide)) (by rfl) (pa_cons (pv 0) (pa_cons pe_int pa_nil))) pe_int (nomark _)) (pv 2) (pe_un un_neg (pv 2)))))), ?_⟩
    have lim : ∀ z : Int, 0 ≤ z → z ≤ 10000 → z.natAbs < 2 ^ 200 := fun z h0 h1 => Nat.lt_of_le_of_lt (show z.natAbs ≤ 10000 by omega) (by decide)
    refine ⟨.ref m, rfl, .int b, rfl, b, 1, rfl, rfl, m, c, q, b + 1, rfl, hM, by omega, by omega, lim _ (by omega) (by omega), fun H1 v s1 M1 v0 v1 => ?_⟩
    refine ⟨.ref m, rfl, m, c, q + 1, 2, rfl, M1, by omega, by decide, by decide, fun H2 u s2 M2 u0 u1 => ?_⟩
    have s12 := s1.trans s2
    have M3 := M2.mono (show q + 1 + 1 ≤ q + 2 by omega)
    refine ⟨rfl, _, rfl, ite2 (fun _ => ?_) (fun _ => ?_)⟩
    · exact ⟨_, rfl, k H2 _ s12 M3 (by omega) (by omega)⟩
    · exact ⟨_, rfl, v, rfl, k H2 _ s12 M3 (by omega) (by omega)⟩
theorem ok_psum {f : Addr} {fd : FuncData} (F : Fun K "product_sum" "product_sum" s_psum f fd) (m_sum : mg "sum" = none) (m_zip : mg "zip" = none) : FnOk P w K mg base CX0 1 f fd ["one", "other"] spPsum := by
  have sc := sc_psum
  refine F.ok sc (fun vs H Q E h => ?_) (fun cdv A outer s H vs Q E hr h => ?_)
  · obtain ⟨a, b, xs, ys, rfl, _⟩ := h
    rfl
  · obtain ⟨a, b, xs, ys, rfl, ha, hb, hl, q⟩ := h
    refine ⟨_, (pss_one (ps_ret (pe_callB (cr_sum rfl) (by rfl) m_sum (by decide +kernel) (pa_cons (pe_lc (own := [("a", 2), ("b", 3)]) (g := gTup K 2 (gCons (gName 2) (gCons (gName 3) gNil))) (by rfl) sc.nd (pi_zipK (by rfl) m_zip (pa_cons (pv 0) (pa_cons (pv 1) pa_nil))) (blkOk_by (own := [("a", 2), ("b", 3)]) (N := ["one", "other", "a", "b"]) (sc := defScope s_psum) (by decide +kernel)) (fun _ _ _ _ _ => pg_tup (n := 2) (by rfl) (pgs_cons (pg_name (i := 2) sc.nd rfl (Or.inl rfl)) (pgs_cons (pg_name (i := 3) sc.nd rfl (Or.inl rfl)) pgs_nil))) (fun _ _ _ _ _ => pts_nil) (fun _ _ _ _ _ => (pe_op op_mulW (pv 2) (pv 3)))) pa_nil)))), ?_⟩
    refine ⟨.ref a, rfl, .ref b, rfl, false, false, a, b, xs.map V.int, ys.map V.int, rfl, ha.1.t, hb.1.t, fun D nD => ?_⟩
    refine lc_to (walk_zipK (n := xs.length) (by rw [List.length_map, List.length_map]; omega)) ((List.zipWith (· * ·) xs ys).map V.int) (by rw [List.length_map, List.length_zipWith]; omega) (small ha.2.1) nD (fun H' s => ⟨(ha.1.same s).t, (hb.1.same s).t⟩) ?_ ?_
    · rintro i x y H0 H1 Qy hy hi s0 ⟨T, u, v, rfl, nT, rfl, hu, hv⟩ hq
      obtain ⟨z, hz, rfl⟩ := map_get hy
      obtain ⟨p, r, hp, hr', rfl⟩ := zipW_get hz
      obtain ⟨p', hp', rfl⟩ := map_get hu
      obtain ⟨r', hr'', rfl⟩ := map_get hv
      obtain rfl := Option.some.inj (hp.symm.trans hp')
      obtain rfl := Option.some.inj (hr'.symm.trans hr'')
      refine ⟨T, [.int p, .int r], rfl, SqT.of upd_same, rfl, .int p, [.int r], rfl, .int r, [], rfl, rfl, rfl, .int p, rfl, .int r, rfl, p, r, rfl, rfl, ?_, hq _ (same_new nT)⟩
      exact Nat.lt_trans (wide (ha.2.2 _ (List.mem_of_getElem? hp)) (hb.2.2 _ (List.mem_of_getElem? hr'))) (by decide)
    · intro H' s d
      exact ⟨D, List.zipWith (· * ·) xs ys, rfl, SqL.of d, q H' s⟩
end
end K09
namespace Vk
open PySem PySem.Spec PyProof.Rows L2
/-- a comprehension that makes a new thing for each place -/
theorem lc_objs {J : It} {n : Nat} {G : Hp → Prop} {Y : Nat → Hp → V → Hp → Prop} (w : Walk J n G Y) {g : TG} {te : TE} {vs : List Nat} {σ : L2.St} {H1 : Hp} {D : Addr} {Qd : Hp → Prop} (o : Nat → HO) (hz : n < sizeLine) (nD : H1 D = none)
    (hG : ∀ H, Same H1 H → G H)
    (hs : ∀ (i : Nat) (x : V) (H H' : Hp) (Qy : VK), i < n → Same H1 H → Y i H x H' → (∀ p H4, Same H H4 → H p = none → H4 p = some (o i) → Qy (.ref p) H4) → g x (wipe σ vs) H' fun σ2 H2 => wipe σ2 vs = wipe σ vs ∧ te σ2 H2 Qy)
    (hd : ∀ H (ps : List Addr), Same H1 H → H D = some (.lst (ps.map V.ref)) → ps.length = n → ps.Nodup → (∀ p ∈ ps, H1 p = none) → (∀ (i : Nat) (p : Addr), ps[i]? = some p → H p = some (o i)) → Qd H) :
    ∃ W : Nat → Nat → Hp → Prop, (∃ m, W 0 m (upd H1 D (.lst []))) ∧ ∀ i m H, W i m H →
      (J.stop i H ∧ Qd H) ∨ (J.go i H ∧ ∃ Nx : Hp → Prop, (∀ H', Nx H' → ∃ m', m' < m ∧ W (i + 1) m' H') ∧ ∀ x H', J.yld i H x H' → g x (wipe σ vs) H' fun σ2 H2 => wipe σ2 vs = wipe σ vs ∧ tYes σ2 H2 fun b H3 =>
        if b = true then te σ2 H3 fun y H4 => ∃ acc, H4 D = some (.lst acc) ∧ acc.length < sizeLine ∧ Nx (upd H4 D (.lst (acc ++ [y]))) else Nx H3) := by
  refine lc_it w (tt := tYes) (fun i H => ∃ ps : List Addr, Same H1 H ∧ H D = some (.lst (ps.map V.ref)) ∧ ps.length = i ∧ ps.Nodup ∧ (∀ p ∈ ps, H1 p = none ∧ p ≠ D) ∧ ∀ (j : Nat) (p : Addr), ps[j]? = some p → H p = some (o j))
    ⟨[], same_new nD, upd_same, rfl, List.nodup_nil, fun p hp => (by cases hp), fun j p h => by cases h⟩ (fun i H _ p => by obtain ⟨_, s, _⟩ := p; exact hG H s) ?_ ?_
  · rintro i x H H' hi ⟨ps, s, d, l, nd, fr, ob⟩ y
    refine hs i x H H' (fun y H4 => ∃ acc, H4 D = some (.lst acc) ∧ acc.length < sizeLine ∧ ∃ ps : List Addr, Same H1 (upd H4 D (.lst (acc ++ [y]))) ∧ upd H4 D (.lst (acc ++ [y])) D = some (.lst (ps.map V.ref)) ∧ ps.length = i + 1 ∧ ps.Nodup ∧ (∀ p ∈ ps, H1 p = none ∧ p ≠ D) ∧ ∀ (j : Nat) (p : Addr), ps[j]? = some p → upd H4 D (.lst (acc ++ [y])) p = some (o j)) hi s y fun p H4 s4 np hp => ?_
    have pD : p ≠ D := Ne.symm (ne_of_none d np)
    refine ⟨ps.map V.ref, s4 _ _ d, by rw [List.length_map]; omega, ps ++ [p], same_put (s.trans s4) nD, by rw [upd_same, List.map_append]; rfl, by rw [List.length_append, l]; rfl, ?_, ?_, ?_⟩
    · rw [List.nodup_append]
      refine ⟨nd, List.nodup_cons.mpr ⟨List.not_mem_nil, List.nodup_nil⟩, fun a ha b hb => ?_⟩
      rw [List.mem_singleton] at hb
      subst hb
      rintro rfl
      obtain ⟨j, hj⟩ := List.getElem?_of_mem ha
      have := ob j a hj
      rw [np] at this
      cases this
    · intro a ha
      rcases List.mem_append.mp ha with h | h
      · exact fr a h
      · rw [List.mem_singleton] at h
        subst h
        exact ⟨s.free np, pD⟩
    · intro j a ha
      by_cases hj : j < ps.length
      · rw [List.getElem?_append_left hj] at ha
        rw [upd_ne (fr a (List.mem_of_getElem? ha)).2]
        exact s4 _ _ (ob j a ha)
      · have hj2 := (List.getElem?_eq_some_iff.mp ha).1
        rw [List.length_append] at hj2
        have hj3 : j = ps.length := by
          simp only [List.length_cons, List.length_nil] at hj2
          omega
        subst hj3
        rw [List.getElem?_append_right (Nat.le_refl _), Nat.sub_self] at ha
        obtain rfl := Option.some.inj ha
        rw [upd_ne pD, l]
        exact hp
  · rintro H ⟨ps, s, d, l, nd, fr, ob⟩
    exact hd H ps s d l nd (fun p hp => (fr p hp).1) ob
/-- a comprehension whose items are tuples of numbers -/
theorem lc_tps {J : It} {n : Nat} {G : Hp → Prop} {Y : Nat → Hp → V → Hp → Prop} (w : Walk J n G Y) {g : TG} {te : TE} {vs : List Nat} {σ : L2.St} {H1 : Hp} {D : Addr} {Qd : Hp → Prop} (R : List (List Int)) (hn : R.length = n) (hz : n < sizeLine) (nD : H1 D = none)
    (hG : ∀ H, Same H1 H → G H)
    (hs : ∀ (i : Nat) (x : V) (y : List Int) (H H' : Hp) (Qy : VK), R[i]? = some y → i < n → Same H1 H → Y i H x H' → (∀ p H4, Same H H4 → Tp H4 p (y.map V.int) → Qy (.ref p) H4) → g x (wipe σ vs) H' fun σ2 H2 => wipe σ2 vs = wipe σ vs ∧ te σ2 H2 Qy)
    (hd : ∀ H (ps : List Addr), Same H1 H → H D = some (.lst (ps.map V.ref)) → Rw H ps R → Qd H) :
    ∃ W : Nat → Nat → Hp → Prop, (∃ m, W 0 m (upd H1 D (.lst []))) ∧ ∀ i m H, W i m H →
      (J.stop i H ∧ Qd H) ∨ (J.go i H ∧ ∃ Nx : Hp → Prop, (∀ H', Nx H' → ∃ m', m' < m ∧ W (i + 1) m' H') ∧ ∀ x H', J.yld i H x H' → g x (wipe σ vs) H' fun σ2 H2 => wipe σ2 vs = wipe σ vs ∧ tYes σ2 H2 fun b H3 =>
        if b = true then te σ2 H3 fun y H4 => ∃ acc, H4 D = some (.lst acc) ∧ acc.length < sizeLine ∧ Nx (upd H4 D (.lst (acc ++ [y]))) else Nx H3) := by
  refine lc_it w (tt := tYes) (fun i H => ∃ ps : List Addr, Same H1 H ∧ H D = some (.lst (ps.map V.ref)) ∧ Rw H ps (R.take i) ∧ ps.length = i)
    ⟨[], same_new nD, upd_same, ⟨rfl, fun j p r h => by cases h⟩, rfl⟩ (fun i H _ p => by obtain ⟨_, s, _⟩ := p; exact hG H s) ?_ ?_
  · rintro i x H H' hi ⟨ps, s, d, hR, l⟩ y
    have hiR : i < R.length := by omega
    obtain ⟨v, hv⟩ : ∃ v, R[i]? = some v := ⟨_, List.getElem?_eq_getElem hiR⟩
    refine hs i x v H H' (fun y H4 => ∃ acc, H4 D = some (.lst acc) ∧ acc.length < sizeLine ∧ ∃ ps : List Addr, Same H1 (upd H4 D (.lst (acc ++ [y]))) ∧ upd H4 D (.lst (acc ++ [y])) D = some (.lst (ps.map V.ref)) ∧ Rw (upd H4 D (.lst (acc ++ [y]))) ps (R.take (i + 1)) ∧ ps.length = i + 1) hv hi s y fun p H4 s4 hp => ?_
    have d4 := s4 _ _ d
    refine ⟨ps.map V.ref, d4, by rw [List.length_map]; omega, ps ++ [p], same_put (s.trans s4) nD, by rw [upd_same, List.map_append]; rfl, ?_, by rw [List.length_append, l]; rfl⟩
    rw [List.take_add_one, hv]
    exact ((hR.same s4).snoc hp).put d4
  · rintro H ⟨ps, s, d, hR, l⟩
    rw [← hn, List.take_length] at hR
    exact hd H ps s d hR
theorem call_tuple_ofK {X : Cx} {K : PySem.W.Frag} (h : X.K = K) : CallR X (.type "tuple") (fun xs H Q => ∃ p ys, xs = [.ref p] ∧ ((SqL K H p ys ∧ ∀ l, H l = none → Q (.ref l) (upd H l (.tup ys))) ∨ (SqT K H p ys ∧ Q (.ref p) H))) := by
  subst h
  exact call_tuple_of
theorem pi_tupK {X : Cx} {K : PySem.W.Frag} {tg l : Expr} {tl : TE} (h : X.K = K) (hl : PE X l tl) : PI X tg l (iTup K tl) := by
  subst h
  exact pi_tup hl
theorem pi_listK {X : Cx} {K : PySem.W.Frag} {tg l : Expr} {tl : TE} (h : X.K = K) (hl : PE X l tl) : PI X tg l (iList K tl) := by
  subst h
  exact pi_list hl
theorem getD_of {xs : List Int} {i : Nat} {x : Int} (h : xs[i]? = some x) : xs.getD i 0 = x := by
  rw [List.getD_eq_getElem?_getD, h]
  rfl
theorem call_len_seqK {X : Cx} {K : PySem.W.Frag} (h : X.K = K) : CallR X (.builtin "len") (fun xs H Q => ∃ p ys, xs = [.ref p] ∧ (SqL K H p ys ∨ SqT K H p ys) ∧ Q (.int ys.length) H) := by
  subst h
  exact call_len_seq
theorem cr_sumK {X : Cx} {K : PySem.W.Frag} (h : X.K = K) (hc : X.calm = true) : CallR X (.builtin "sum") (rSum K) := by
  subst h
  exact cr_sum hc
theorem mulB {k j : Nat} {x y : Int} (hk : 0 < k) (hj : 0 < j) (h1 : SmZ k x) (h2 : SmZ j y) (h : k + j ≤ 900000) : CMulW x y := by
  have a := smz_log hk h1
  have b := smz_log hj h2
  show x.natAbs.log2 + y.natAbs.log2 < 1000000
  omega
theorem cut_from {xs : List V} {i : Nat} : cutV xs (some (i : Int)) none = xs.drop i := by
  unfold cutV
  rw [HT.sIx_none, HT.sIx_nat]
  rw [List.take_of_length_le (by rw [List.length_drop]; omega)]
  by_cases h : i ≤ xs.length
  · rw [Nat.min_eq_left h]
  · rw [Nat.min_eq_right (by omega), List.drop_length, List.drop_eq_nil_of_le (by omega)]
theorem cut_to {xs : List V} {n : Nat} : cutV xs none (some (n : Int)) = xs.take n := by
  unfold cutV
  rw [HT.sIx_none, HT.sIx_nat, List.drop_zero, Nat.sub_zero]
  by_cases h : n ≤ xs.length
  · rw [Nat.min_eq_left h]
  · rw [Nat.min_eq_right (by omega), List.take_length, List.take_of_length_le (by omega)]
theorem op_catAK {X : Cx} {K : PySem.W.Frag} (h : X.K = K) : OpR X (binaryOp .Add) (rCatA K) := by
  subst h
  exact op_catA
theorem sl_listK {X : Cx} {K : PySem.W.Frag} (h : X.K = K) : SlR X (rSlL K) := by
  subst h
  exact sl_list
theorem sl_tupAK {X : Cx} {K : PySem.W.Frag} (h : X.K = K) : SlR X (rSlA K) := by
  subst h
  exact sl_tupA
theorem smz_add {n : Nat} {a b : Int} (h1 : SmZ n a) (h2 : SmZ n b) : SmZ (n + 1) (a + b) := by
  unfold SmZ at *
  have e : (2 : Nat) ^ (n + 1) = 2 ^ n * 2 := Nat.pow_succ ..
  omega
theorem smz_sub {n : Nat} {a b : Int} (h1 : SmZ n a) (h2 : SmZ n b) : SmZ (n + 1) (a - b) := by
  unfold SmZ at *
  have e : (2 : Nat) ^ (n + 1) = 2 ^ n * 2 := Nat.pow_succ ..
  omega
theorem dot_sm {k j : Nat} : ∀ {xs ys : List Int}, (∀ x ∈ xs, SmZ k x) → (∀ x ∈ ys, SmZ j x) → SmZ (k + j + xs.length) (dot xs ys)
  | [], ys, _, _ => Nat.two_pow_pos _
  | x :: xs, [], _, _ => Nat.two_pow_pos _
  | x :: xs, y :: ys, h1, h2 => by
    have ih := dot_sm (xs := xs) (ys := ys) (fun z hz => h1 z (List.mem_cons_of_mem _ hz)) (fun z hz => h2 z (List.mem_cons_of_mem _ hz))
    have h3 := smz_mul (h1 x (List.mem_cons_self ..)) (h2 y (List.mem_cons_self ..))
    have e : dot (x :: xs) (y :: ys) = x * y + dot xs ys := by
      unfold dot
      rw [List.zipWith_cons_cons, List.sum_cons]
    rw [e, List.length_cons]
    exact smz_add (n := k + j + xs.length) (smz_mono h3 (by omega)) ih
theorem flat1 (n : Nat) (x : V) : (List.replicate n [x]).flatten = List.replicate n x := by
  induction n with
  | zero => rfl
  | succ n ih => rw [List.replicate_succ, List.flatten_cons, ih]; rfl
theorem zip_len (l1 l2 : List V) (n : Nat) (h1 : l1.length = n) (h2 : l2.length = n) : n = min l1.length l2.length := by omega
theorem tifs_rest {c : TT} {t u : TS} {D : Ends} {σ : L2.St} {H : Hp} (Good : L2.St → Hp → Prop) (rest : ∀ σ' H', Good σ' H' → D.nx σ' H') (paths : (∀ σ' H', Good σ' H' → D.nx σ' H') → tIfS c t u D σ H) : tIfS c t u D σ H := paths rest
theorem gname_ {i : Nat} {v : V} {σ : L2.St} {H : Hp} {Q : L2.St → Hp → Prop} (h : Q (σ.set i (some v)) H) : gName i v σ H Q := h
theorem seq_ {t u : TS} {D : Ends} {σ : L2.St} {H : Hp} (h : t { D with nx := u D } σ H) : tSeq t u D σ H := h
theorem Rws.snoc {H : Hp} {ps : List Addr} {rows : List (List Int)} {n : Nat} {p : Addr} {r : List Int} (h : Rws H ps rows n) (hp : Row H p r) (hl : r.length = n) : Rws H (ps ++ [p]) (rows ++ [r]) n := by
  refine ⟨by rw [List.length_append, List.length_append, h.1]; rfl, fun j a z h1 h2 => ?_⟩
  by_cases hj : j < ps.length
  · rw [List.getElem?_append_left hj] at h1
    rw [List.getElem?_append_left (by rw [← h.1]; exact hj)] at h2
    exact h.2 j a z h1 h2
  · rw [List.getElem?_append_right (by omega)] at h1
    rw [List.getElem?_append_right (by rw [← h.1]; omega)] at h2
    have j0 : j - ps.length = 0 := by
      have := (List.getElem?_eq_some_iff.mp h1).1
      simp only [List.length_cons, List.length_nil] at this
      omega
    rw [j0] at h1
    rw [← h.1, j0] at h2
    obtain rfl : p = a := Option.some.inj h1
    obtain rfl : r = z := Option.some.inj h2
    exact ⟨hp, hl⟩
theorem call_isiK {X : Cx} {K : PySem.W.Frag} (h : X.K = K) : CallR X (.builtin "isinstance") (rIsi K) := by
  subst h
  exact call_isi
end Vk
namespace Vd
/-- the sum of the first n -/
def S : Nat → (Nat → Int) → Int
  | 0, _ => 0
  | n + 1, f => S n f + f n
theorem S_congr {f g : Nat → Int} : ∀ n, (∀ j, j < n → f j = g j) → S n f = S n g
  | 0, _ => rfl
  | n + 1, h => by
    show S n f + f n = S n g + g n
    rw [S_congr n fun j hj => h j (by omega), h n (by omega)]
theorem S_add (f g : Nat → Int) : ∀ n, S n (fun j => f j + g j) = S n f + S n g
  | 0 => rfl
  | n + 1 => by
    show S n (fun j => f j + g j) + (f n + g n) = _
    rw [S_add f g n]
    show _ = S n f + f n + (S n g + g n)
    omega
theorem S_mul (k : Int) (f : Nat → Int) : ∀ n, S n (fun j => k * f j) = k * S n f
  | 0 => by simp [S]
  | n + 1 => by
    show S n (fun j => k * f j) + k * f n = k * (S n f + f n)
    rw [S_mul k f n, Int.mul_add]
theorem S_zero : ∀ n, S n (fun _ => 0) = 0
  | 0 => rfl
  | n + 1 => by
    show S n (fun _ => 0) + 0 = 0
    rw [S_zero n]
    rfl
theorem S_head (f : Nat → Int) : ∀ n, S (n + 1) f = f 0 + S n fun j => f (j + 1)
  | 0 => by
    show 0 + f 0 = f 0 + 0
    omega
  | n + 1 => by
    show S (n + 1) f + f (n + 1) = f 0 + (S n (fun j => f (j + 1)) + f (n + 1))
    rw [S_head f n]
    omega
theorem S_swap (f : Nat → Nat → Int) (m : Nat) : ∀ n, S n (fun j => S m (fun k => f j k)) = S m (fun k => S n (fun j => f j k))
  | 0 => (S_zero m).symm
  | n + 1 => by
    show S n (fun j => S m (fun k => f j k)) + S m (fun k => f n k) = S m (fun k => S n (fun j => f j k) + f n k)
    rw [S_swap f m n, ← S_add]
theorem S_one {f : Nat → Int} {i : Nat} : ∀ n, i < n → (∀ j, j < n → j ≠ i → f j = 0) → S n f = f i
  | 0, h, _ => by omega
  | n + 1, h, z => by
    show S n f + f n = f i
    by_cases e : i = n
    · subst e
      rw [S_congr (g := fun _ => 0) i fun j hj => z j (by omega) (by omega), S_zero]
      omega
    · rw [S_one n (by omega) fun j hj ne => z j (by omega) ne, z n (by omega) (by omega)]
      omega
theorem S_two {f : Nat → Int} {i : Nat} : ∀ n, i + 1 < n → (∀ j, j < n → j ≠ i → j ≠ i + 1 → f j = 0) → S n f = f i + f (i + 1)
  | 0, h, _ => by omega
  | n + 1, h, z => by
    show S n f + f n = _
    by_cases e : i + 1 = n
    · subst e
      rw [S_one (i := i) (i + 1) (by omega) fun j hj ne => z j (by omega) ne (by omega)]
    · rw [S_two n (by omega) fun j hj a b => z j (by omega) a b, z n (by omega) (by omega) (by omega)]
      omega
abbrev Mt := Nat → Nat → Int
/-- a number that leaves i out -/
def sk (i r : Nat) : Nat := if r < i then r else r + 1
theorem sk_zero (r : Nat) : sk 0 r = r + 1 := by simp [sk]
theorem sk_succ (i r : Nat) : sk (i + 1) (r + 1) = sk i r + 1 := by
  unfold sk
  split <;> split <;> omega
theorem sk_succ0 (i : Nat) : sk (i + 1) 0 = 0 := by simp [sk]
theorem sk_lt {i r n : Nat} (h : r < n) : sk i r < n + 1 := by
  unfold sk
  split <;> omega
theorem sk_ne (i r : Nat) : sk i r ≠ i := by
  unfold sk
  split <;> omega
/-- what is left without row i and column j -/
def mn (i j : Nat) (A : Mt) : Mt := fun r c => A (sk i r) (sk j c)
def sg (j : Nat) : Int := if j % 2 = 0 then 1 else -1
theorem sg_zero : sg 0 = 1 := rfl
theorem sg_succ (j : Nat) : sg (j + 1) = - sg j := by
  unfold sg
  split <;> split <;> omega
theorem sg_sq (j : Nat) : sg j * sg j = 1 := by
  unfold sg
  split <;> decide
/-- the determinant along the first row -/
def det : Nat → Mt → Int
  | 0, _ => 1
  | n + 1, A => S (n + 1) fun j => sg j * A 0 j * det n (mn 0 j A)
/-- the determinant along the first column -/
def detC : Nat → Mt → Int
  | 0, _ => 1
  | n + 1, A => S (n + 1) fun i => sg i * A i 0 * detC n (mn i 0 A)
theorem det_congr : ∀ (n : Nat) {A B : Mt}, (∀ r c, r < n → c < n → A r c = B r c) → det n A = det n B
  | 0, _, _, _ => rfl
  | n + 1, A, B, h => by
    refine S_congr _ fun j hj => ?_
    rw [h 0 j (by omega) hj, det_congr n (A := mn 0 j A) (B := mn 0 j B) fun r c hr hc => h _ _ (sk_lt hr) (sk_lt hc)]
theorem detC_tr : ∀ (n : Nat) (A : Mt), detC n A = det n fun r c => A c r
  | 0, _ => rfl
  | n + 1, A => S_congr _ fun j hj => by
    rw [detC_tr n]
    rfl
/-- both ways are one -/
theorem det_detC : ∀ (n : Nat) (A : Mt), det n A = detC n A
  | 0, _ => rfl
  | 1, A => rfl
  | n + 2, A => by
    show S (n + 2) (fun j => sg j * A 0 j * det (n + 1) (mn 0 j A)) = S (n + 2) fun i => sg i * A i 0 * detC (n + 1) (mn i 0 A)
    refine (S_head _ (n + 1)).trans (Eq.trans ?_ (S_head _ (n + 1)).symm)
    rw [det_detC (n + 1) (mn 0 0 A)]
    congr 1
    have l : ∀ j, sg (j + 1) * A 0 (j + 1) * det (n + 1) (mn 0 (j + 1) A) = S (n + 1) fun i => sg (j + 1) * A 0 (j + 1) * (sg i * A (i + 1) 0 * det n (mn i 0 (mn 0 (j + 1) A))) := fun j => by
      rw [det_detC (n + 1) (mn 0 (j + 1) A), S_mul]
      congr 1
      exact S_congr _ fun i hi => by
        rw [det_detC n]
        show sg i * A (sk 0 i) (sk (j + 1) 0) * _ = _
        rw [sk_zero, sk_succ0]
    have r : ∀ i, sg (i + 1) * A (i + 1) 0 * detC (n + 1) (mn (i + 1) 0 A) = S (n + 1) fun j => sg (i + 1) * A (i + 1) 0 * (sg j * A 0 (j + 1) * det n (mn 0 j (mn (i + 1) 0 A))) := fun i => by
      rw [← det_detC (n + 1) (mn (i + 1) 0 A), S_mul]
      congr 1
    rw [S_congr (n + 1) fun j hj => l j, S_congr (n + 1) fun i hi => r i, S_swap]
    refine S_congr _ fun i hi => S_congr _ fun j hj => ?_
    have e : mn i 0 (mn 0 (j + 1) A) = mn 0 j (mn (i + 1) 0 A) := by
      funext r c
      show A (sk 0 (sk i r)) (sk (j + 1) (sk 0 c)) = A (sk (i + 1) (sk 0 r)) (sk 0 (sk j c))
      rw [sk_zero, sk_zero, sk_zero, sk_zero, sk_succ, sk_succ]
    rw [e, sg_succ, sg_succ]
    grind
/-- turned over -/
theorem det_tr (n : Nat) (A : Mt) : det n (fun r c => A c r) = det n A := by
  rw [← detC_tr, det_detC]
/-- another row i -/
def up (A : Mt) (i : Nat) (v : Nat → Int) : Mt := fun r c => if r = i then v c else A r c
theorem up_same (A : Mt) (i : Nat) : up A i (A i) = A := by
  funext r c
  unfold up
  split
  · next h => rw [h]
  · rfl
theorem up_at (A : Mt) (i : Nat) (v : Nat → Int) : up A i v i = v := by
  funext c
  simp [up]
theorem up_ne {A : Mt} {i r : Nat} {v : Nat → Int} (h : r ≠ i) : up A i v r = A r := by
  funext c
  simp [up, h]
theorem up_up (A : Mt) (i : Nat) (v w : Nat → Int) : up (up A i v) i w = up A i w := by
  funext r c
  unfold up
  split <;> rfl
theorem up_comm {A : Mt} {i j : Nat} {v w : Nat → Int} (h : i ≠ j) : up (up A i v) j w = up (up A j w) i v := by
  funext r c
  unfold up
  split
  · next e => rw [if_neg (by omega)]
  · rfl
theorem mn_up0 (A : Mt) (j : Nat) (v : Nat → Int) : mn 0 j (up A 0 v) = mn 0 j A := by
  funext r c
  show up A 0 v (sk 0 r) (sk j c) = A (sk 0 r) (sk j c)
  rw [up_ne (by rw [sk_zero]; omega)]
theorem mn_up (A : Mt) (i j : Nat) (v : Nat → Int) : mn 0 j (up A (i + 1) v) = up (mn 0 j A) i fun c => v (sk j c) := by
  funext r c
  show up A (i + 1) v (sk 0 r) (sk j c) = up (mn 0 j A) i (fun c => v (sk j c)) r c
  rw [sk_zero]
  unfold up
  by_cases h : r = i
  · rw [if_pos (by omega), if_pos h]
  · rw [if_neg (by omega), if_neg h]
    show _ = A (sk 0 r) (sk j c)
    rw [sk_zero]
theorem det_lin : ∀ (n : Nat) (A : Mt) (i : Nat) (v w : Nat → Int) (a b : Int), i < n → det n (up A i fun c => a * v c + b * w c) = a * det n (up A i v) + b * det n (up A i w)
  | 0, _, _, _, _, _, _, h => by omega
  | n + 1, A, i, v, w, a, b, h => by
    show S (n + 1) (fun j => sg j * up A i (fun c => a * v c + b * w c) 0 j * det n (mn 0 j (up A i fun c => a * v c + b * w c))) = a * S (n + 1) (fun j => sg j * up A i v 0 j * det n (mn 0 j (up A i v))) + b * S (n + 1) (fun j => sg j * up A i w 0 j * det n (mn 0 j (up A i w)))
    rw [← S_mul, ← S_mul, ← S_add]
    refine S_congr _ fun j hj => ?_
    cases i with
    | zero =>
      rw [mn_up0, mn_up0, mn_up0, up_at, up_at, up_at]
      grind
    | succ i =>
      rw [mn_up, mn_up, mn_up, up_ne (by omega), up_ne (by omega), up_ne (by omega), det_lin n _ i _ _ a b (by omega)]
      grind
theorem det_adj : ∀ (n : Nat) (A : Mt) (i : Nat), i + 1 < n → (∀ c, c < n → A i c = A (i + 1) c) → det n A = 0
  | 0, _, _, h, _ => by omega
  | 1, _, _, h, _ => by omega
  | n + 2, A, i, h, e => by
    rw [det_detC]
    show S (n + 2) (fun r => sg r * A r 0 * detC (n + 1) (mn r 0 A)) = 0
    rw [S_two (i := i) (n + 2) h fun r hr a b => ?_]
    · have m : detC (n + 1) (mn i 0 A) = detC (n + 1) (mn (i + 1) 0 A) := by
        rw [← det_detC, ← det_detC]
        refine det_congr _ fun r c hr hc => ?_
        show A (sk i r) (sk 0 c) = A (sk (i + 1) r) (sk 0 c)
        by_cases z : r = i
        · subst z
          have e1 : sk r r = r + 1 := by simp [sk]
          have e2 : sk (r + 1) r = r := by simp [sk]
          rw [e1, e2]
          exact (e _ (sk_lt hc)).symm
        · have : sk i r = sk (i + 1) r := by
            unfold sk
            split <;> split <;> omega
          rw [this]
      rw [m, sg_succ, e 0 (by omega)]
      grind
    · rw [← det_detC]
      rcases Nat.lt_or_ge r i with l | l
      · rw [det_adj (n + 1) (mn r 0 A) (i - 1) (by omega) fun c hc => ?_]
        · omega
        · show A (sk r (i - 1)) _ = A (sk r (i - 1 + 1)) _
          have e1 : sk r (i - 1) = i := by
            unfold sk
            split <;> omega
          have e2 : sk r (i - 1 + 1) = i + 1 := by
            unfold sk
            split <;> omega
          rw [e1, e2]
          exact e _ (sk_lt hc)
      · rw [det_adj (n + 1) (mn r 0 A) i (by omega) fun c hc => ?_]
        · omega
        · show A (sk r i) _ = A (sk r (i + 1)) _
          have e1 : sk r i = i := by
            unfold sk
            split <;> omega
          have e2 : sk r (i + 1) = i + 1 := by
            unfold sk
            split <;> omega
          rw [e1, e2]
          exact e _ (sk_lt hc)
/-- linear in each row, 0 where two are the same -/
structure Alt (n : Nat) (D : Mt → Int) : Prop where
  cong : ∀ A B : Mt, (∀ r c, r < n → c < n → A r c = B r c) → D A = D B
  lin : ∀ (A : Mt) (i : Nat) (v w : Nat → Int) (a b : Int), i < n → D (up A i fun c => a * v c + b * w c) = a * D (up A i v) + b * D (up A i w)
  adj : ∀ (A : Mt) (i : Nat), i + 1 < n → (∀ c, c < n → A i c = A (i + 1) c) → D A = 0
theorem alt_det (n : Nat) : Alt n (det n) := ⟨fun A B h => det_congr n h, det_lin n, det_adj n⟩
namespace Alt
variable {n : Nat} {D : Mt → Int}
theorem plus (h : Alt n D) (A : Mt) {i : Nat} (v w : Nat → Int) (hi : i < n) : D (up A i fun c => v c + w c) = D (up A i v) + D (up A i w) := by
  have e := h.lin A i v w 1 1 hi
  simp only [Int.one_mul] at e
  exact e
/-- rows i and i + 1 the other way round -/
theorem flip (h : Alt n D) (A : Mt) {i : Nat} (hi : i + 1 < n) : D (up (up A i (A (i + 1))) (i + 1) (A i)) = - D A := by
  have z : ∀ v w : Nat → Int, D (up (up A i v) (i + 1) w) + D (up (up A i w) (i + 1) v) = 0 := fun v w => by
    have z0 : ∀ u : Nat → Int, D (up (up A i u) (i + 1) u) = 0 := fun u => h.adj _ i hi fun c hc => by rw [up_at, up_ne (by omega), up_at]
    have z1 := z0 fun c => v c + w c
    have a1 := h.plus (up A i fun c => v c + w c) v w hi
    have a2 : ∀ u : Nat → Int, D (up (up A i fun c => v c + w c) (i + 1) u) = D (up (up A i v) (i + 1) u) + D (up (up A i w) (i + 1) u) := fun u => by
      rw [up_comm (by omega), h.plus _ v w (by omega), up_comm (i := i + 1) (v := u) (w := v) (by omega), up_comm (i := i + 1) (v := u) (w := w) (by omega)]
    rw [a1, a2 v, a2 w, z0 v, z0 w] at z1
    omega
  have e := z (A (i + 1)) (A i)
  have s : up (up A i (A i)) (i + 1) (A (i + 1)) = A := by rw [up_same, up_same]
  rw [s] at e
  omega
end Alt
end Vd
namespace Vd
namespace Alt
variable {n : Nat} {D : Mt → Int}
/-- two rows that are the same -/
theorem same (h : Alt n D) : ∀ (d : Nat) (A : Mt) (i : Nat), i + d + 1 < n → (∀ c, c < n → A i c = A (i + d + 1) c) → D A = 0
  | 0, A, i, hi, e => h.adj A i hi e
  | d + 1, A, i, hi, e => by
    have f := h.flip A (i := i + d + 1) (by omega)
    have z := same h d (up (up A (i + d + 1) (A (i + d + 1 + 1))) (i + d + 1 + 1) (A (i + d + 1))) i (by omega) fun c hc => by
      rw [up_ne (by omega), up_ne (by omega), up_ne (by omega), up_at]
      exact e c hc
    rw [z] at f
    omega
theorem eq_rows (h : Alt n D) (A : Mt) {i j : Nat} (hi : i < n) (hj : j < n) (ne : i ≠ j) (e : ∀ c, c < n → A i c = A j c) : D A = 0 := by
  rcases Nat.lt_or_gt_of_ne ne with l | l
  · have := h.same (j - i - 1) A i (by omega) fun c hc => by
      rw [show i + (j - i - 1) + 1 = j by omega]
      exact e c hc
    exact this
  · have := h.same (i - j - 1) A j (by omega) fun c hc => by
      rw [show j + (i - j - 1) + 1 = i by omega]
      exact (e c hc).symm
    exact this
/-- a multiple of another row added -/
theorem add (h : Alt n D) (A : Mt) {i j : Nat} (hi : i < n) (hj : j < n) (ne : i ≠ j) (t : Int) : D (up A i fun c => A i c + t * A j c) = D A := by
  have e := h.lin A i (A i) (A j) 1 t hi
  simp only [Int.one_mul] at e
  rw [e, up_same, h.eq_rows (up A i (A j)) hi hj ne fun c _ => by rw [up_at, up_ne (Ne.symm ne)]]
  omega
theorem scale (h : Alt n D) (A : Mt) {i : Nat} (hi : i < n) (v : Nat → Int) (t : Int) : D (up A i fun c => t * v c) = t * D (up A i v) := by
  have e := h.lin A i v v t 0 hi
  rw [Int.zero_mul, Int.add_zero] at e
  rw [← e]
  congr 2
  funext c
  omega
theorem zero (h : Alt n D) (A : Mt) {i : Nat} (hi : i < n) (z : ∀ c, c < n → A i c = 0) : D A = 0 := by
  have e := h.scale A hi (A i) 0
  rw [Int.zero_mul] at e
  rw [← e]
  refine h.cong _ _ fun r c hr hc => ?_
  unfold up
  split
  · next q =>
      show A r c = 0 * A i c
      rw [q, z c hc]
      rfl
  · rfl
theorem neg (h : Alt n D) (A : Mt) {i j : Nat} (hi : i < n) (hj : j < n) (ne : i ≠ j) (v w : Nat → Int) : D (up (up A i v) j w) = - D (up (up A i w) j v) := by
  have z0 : ∀ u : Nat → Int, D (up (up A i u) j u) = 0 := fun u => h.eq_rows _ hi hj ne fun c hc => by rw [up_at, up_ne ne, up_at]
  have z1 := z0 fun c => v c + w c
  have a1 := h.plus (up A i fun c => v c + w c) v w hj
  have a2 : ∀ u : Nat → Int, D (up (up A i fun c => v c + w c) j u) = D (up (up A i v) j u) + D (up (up A i w) j u) := fun u => by
    rw [up_comm ne, h.plus _ v w hi, up_comm (i := j) (v := u) (w := v) (Ne.symm ne), up_comm (i := j) (v := u) (w := w) (Ne.symm ne)]
  rw [a1, a2 v, a2 w, z0 v, z0 w] at z1
  omega
/-- a row that is a sum -/
theorem sum (h : Alt n D) (A : Mt) {i : Nat} (hi : i < n) (f : Nat → Nat → Int) (a : Nat → Int) : ∀ m, D (up A i fun c => S m fun j => a j * f j c) = S m fun j => a j * D (up A i (f j))
  | 0 => h.zero _ hi fun c _ => by rw [up_at]; rfl
  | m + 1 => by
    have e := h.lin A i (fun c => S m fun j => a j * f j c) (f m) 1 (a m) hi
    simp only [Int.one_mul] at e
    show D (up A i fun c => (S m fun j => a j * f j c) + a m * f m c) = (S m fun j => a j * D (up A i (f j))) + a m * D (up A i (f m))
    rw [e, sum h A hi f a m]
end Alt
/-- the unit table -/
def one : Mt := fun r c => if r = c then 1 else 0
/-- row 0 is unit row j, behind it the rows of B with 0 at place j -/
def bor (j : Nat) (B : Mt) : Mt := fun r c => if r = 0 then one j c else if c = j then 0 else B (r - 1) (if c < j then c else c - 1)
theorem bor_up (j : Nat) (B : Mt) (i : Nat) (v : Nat → Int) : bor j (up B i v) = up (bor j B) (i + 1) fun c => if c = j then 0 else v (if c < j then c else c - 1) := by
  funext r c
  simp only [bor, up]
  by_cases h : r = 0
  · rw [if_pos h, if_neg (by omega), if_pos h]
  · rw [if_neg h]
    by_cases e : r = i + 1
    · rw [if_pos e, if_pos (show r - 1 = i by omega)]
    · rw [if_neg e, if_neg (show ¬ r - 1 = i by omega), if_neg h]
theorem alt_bor {n : Nat} {D : Mt → Int} (h : Alt (n + 1) D) (j : Nat) (hj : j < n + 1) : Alt n fun B => D (bor j B) := by
  refine ⟨fun A B e => h.cong _ _ fun r c hr hc => ?_, fun A i v w a b hi => ?_, fun A i hi e => ?_⟩
  · unfold bor
    split
    · rfl
    · split
      · rfl
      · exact e _ _ (by omega) (by split <;> omega)
  · show D (bor j (up A i _)) = _ * D (bor j (up A i v)) + _ * D (bor j (up A i w))
    rw [bor_up, bor_up, bor_up, ← h.lin _ _ _ _ a b (by omega)]
    congr 2
    funext c
    split
    · omega
    · rfl
  · refine h.adj _ (i + 1) (by omega) fun c hc => ?_
    simp only [bor]
    rw [if_neg (show ¬ i + 1 = 0 by omega), if_neg (show ¬ i + 1 + 1 = 0 by omega)]
    by_cases b : c = j
    · rw [if_pos b, if_pos b]
    · rw [if_neg b, if_neg b]
      exact e _ (by split <;> omega)
/-- unit row j at place k, the other unit rows in their sequence -/
def idx (j k r : Nat) : Nat := if r < k then r else if r = k then j else if r ≤ j then r - 1 else r
def mov (j k : Nat) : Mt := fun r c => one (idx j k r) c
theorem mov_step {n : Nat} {D : Mt → Int} (h : Alt n D) {j k : Nat} (hk : k < j) (hj : j < n) : D (mov j k) = - D (mov j (k + 1)) := by
  have e := h.neg (mov j k) (i := k) (j := k + 1) (by omega) (by omega) (by omega) (one j) (one k)
  have e1 : up (up (mov j k) k (one j)) (k + 1) (one k) = mov j k := by
    funext r c
    simp only [up, mov]
    by_cases a : r = k + 1
    · rw [if_pos a]
      congr 1
      simp only [idx]
      rw [if_neg (by omega), if_neg (by omega), if_pos (by omega)]
      omega
    · rw [if_neg a]
      by_cases b : r = k
      · rw [if_pos b]
        congr 1
        simp only [idx]
        rw [if_neg (by omega), if_pos b]
      · rw [if_neg b]
  have e2 : up (up (mov j k) k (one k)) (k + 1) (one j) = mov j (k + 1) := by
    funext r c
    simp only [up, mov]
    by_cases a : r = k + 1
    · rw [if_pos a]
      congr 1
      simp only [idx]
      rw [if_neg (by omega), if_pos a]
    · rw [if_neg a]
      by_cases b : r = k
      · rw [if_pos b]
        congr 1
        simp only [idx]
        rw [if_pos (by omega)]
        exact b.symm
      · rw [if_neg b]
        congr 1
        simp only [idx]
        by_cases l : r < k
        · rw [if_pos l, if_pos (by omega)]
        · rw [if_neg l, if_neg b, if_neg (show ¬ r < k + 1 by omega), if_neg a]
  rw [e1, e2] at e
  exact e
theorem mov_all {n : Nat} {D : Mt → Int} (h : Alt n D) {j : Nat} (hj : j < n) : ∀ d k, k + d = j → D (mov j k) = sg d * D one
  | 0, k, e => by
    have : mov j k = one := by
      funext r c
      simp only [mov]
      congr 1
      simp only [idx]
      split
      · rfl
      · split
        · omega
        · rw [if_neg (by omega)]
    rw [this, sg_zero]
    omega
  | d + 1, k, e => by
    rw [mov_step h (by omega) hj, mov_all h hj d (k + 1) (by omega), sg_succ]
    grind
theorem bor_one {n : Nat} {D : Mt → Int} (h : Alt (n + 1) D) {j : Nat} (hj : j < n + 1) : D (bor j one) = sg j * D one := by
  rw [← mov_all h hj j 0 (by omega)]
  refine h.cong _ _ fun r c hr hc => ?_
  show bor j one r c = one (idx j 0 r) c
  by_cases a : r = 0
  · have e1 : idx j 0 r = j := by simp [idx, a]
    rw [e1]
    simp [bor, a]
  · have e1 : idx j 0 r = if r ≤ j then r - 1 else r := by simp [idx, a]
    rw [e1]
    simp only [bor]
    rw [if_neg a]
    by_cases b : c = j
    · rw [if_pos b]
      simp only [one]
      split
      · rw [if_neg (by omega)]
      · rw [if_neg (by omega)]
    · rw [if_neg b]
      simp only [one]
      split <;> split <;> split <;> first | rfl | omega
/-- the first row a unit row: what is left counts alone -/
theorem bor_mn {n : Nat} {D : Mt → Int} (h : Alt (n + 1) D) {j : Nat} (hj : j < n + 1) (A : Mt) : D (up A 0 (one j)) = D (bor j (mn 0 j A)) := by
  have cl : ∀ m, m ≤ n → D (fun r c => if 1 ≤ r ∧ r ≤ m ∧ c = j then 0 else up A 0 (one j) r c) = D (up A 0 (one j)) := fun m => by
    induction m with
    | zero =>
      intro _
      refine h.cong _ _ fun r c hr hc => ?_
      rw [if_neg (by omega)]
    | succ m ih =>
      intro hm
      rw [← ih (by omega)]
      generalize hX : (fun r c => if 1 ≤ r ∧ r ≤ m ∧ c = j then 0 else up A 0 (one j) r c) = X
      rw [← h.add X (i := m + 1) (j := 0) (by omega) (by omega) (by omega) (- A (m + 1) j)]
      refine h.cong _ _ fun r c hr hc => ?_
      have x0 : X 0 c = one j c := by
        rw [← hX]
        show (if 1 ≤ 0 ∧ 0 ≤ m ∧ c = j then 0 else up A 0 (one j) 0 c) = one j c
        rw [if_neg (by omega), up_at]
      have xr : ∀ r, X r c = if 1 ≤ r ∧ r ≤ m ∧ c = j then 0 else up A 0 (one j) r c := fun r => by rw [← hX]
      by_cases e : r = m + 1
      · rw [e, up_at]
        have xm : X (m + 1) c = A (m + 1) c := by rw [xr (m + 1), if_neg (by omega), up_ne (by omega)]
        show (if 1 ≤ m + 1 ∧ m + 1 ≤ m + 1 ∧ c = j then 0 else up A 0 (one j) (m + 1) c) = X (m + 1) c + - A (m + 1) j * X 0 c
        rw [x0, xm, up_ne (show m + 1 ≠ 0 by omega)]
        by_cases b : c = j
        · rw [if_pos ⟨by omega, by omega, b⟩, b]
          have o : one j j = 1 := by simp [one]
          rw [o]
          omega
        · rw [if_neg (fun z => b z.2.2)]
          simp only [one]
          rw [if_neg (Ne.symm b)]
          omega
      · rw [up_ne e, xr r]
        by_cases b : c = j
        · by_cases l : 1 ≤ r ∧ r ≤ m
          · rw [if_pos ⟨l.1, by omega, b⟩, if_pos ⟨l.1, l.2, b⟩]
          · rw [if_neg (by omega), if_neg (by omega)]
        · rw [if_neg (by omega), if_neg (by omega)]
  rw [← cl n (Nat.le_refl _)]
  refine h.cong _ _ fun r c hr hc => ?_
  simp only [bor, mn]
  by_cases a : r = 0
  · rw [if_neg (by omega), if_pos a, a, up_at]
  · rw [if_neg a, up_ne a]
    by_cases b : c = j
    · rw [if_pos ⟨by omega, by omega, b⟩, if_pos b]
    · rw [if_neg (by omega), if_neg b, sk_zero]
      congr 1
      · omega
      · unfold sk
        by_cases l : c < j
        · rw [if_pos l, if_pos l]
        · rw [if_neg l, if_neg (by omega)]
          omega
/-- there is but one -/
theorem uniq : ∀ (n : Nat) (D : Mt → Int), Alt n D → ∀ A, D A = D one * det n A
  | 0, D, h, A => by
    rw [h.cong A one fun r c hr _ => by omega]
    show _ = _ * 1
    omega
  | n + 1, D, h, A => by
    have e0 : D A = D (up A 0 fun c => S (n + 1) fun j => A 0 j * one j c) := h.cong _ _ fun r c hr hc => by
      by_cases a : r = 0
      · rw [a, up_at]
        rw [S_one (i := c) (n + 1) hc fun j hj ne => by simp [one, ne]]
        simp [one]
      · rw [up_ne a]
    rw [e0, h.sum A (by omega) one (A 0)]
    show _ = D one * S (n + 1) fun j => sg j * A 0 j * det n (mn 0 j A)
    rw [← S_mul]
    refine S_congr _ fun j hj => ?_
    have u := uniq n (fun B => D (bor j B)) (alt_bor h j hj) (mn 0 j A)
    rw [bor_mn h hj, u, bor_one h hj]
    grind
/-- of a product -/
def mul (n : Nat) (A B : Mt) : Mt := fun r c => S n fun j => A r j * B j c
theorem mul_up (n : Nat) (A B : Mt) (i : Nat) (v : Nat → Int) : mul n (up A i v) B = up (mul n A B) i fun c => S n fun j => v j * B j c := by
  funext r c
  simp only [mul, up]
  split <;> rfl
theorem alt_mul (n : Nat) (B : Mt) : Alt n fun A => det n (mul n A B) := by
  have h := alt_det n
  refine ⟨fun A A' e => det_congr n fun r c hr hc => S_congr _ fun j hj => by rw [e r j hr hj], fun A i v w a b hi => ?_, fun A i hi e => ?_⟩
  · show det n (mul n (up A i _) B) = _ * det n (mul n (up A i v) B) + _ * det n (mul n (up A i w) B)
    rw [mul_up, mul_up, mul_up, ← h.lin _ _ _ _ a b hi]
    congr 2
    funext c
    rw [← S_mul, ← S_mul, ← S_add]
    exact S_congr _ fun j hj => by grind
  · exact h.adj _ i hi fun c hc => S_congr _ fun j hj => by rw [e j hj]
theorem mul_one (n : Nat) (B : Mt) {r c : Nat} (hr : r < n) : mul n one B r c = B r c := by
  show S n (fun j => one r j * B j c) = B r c
  rw [S_one (i := r) n hr fun j hj ne => by simp [one, Ne.symm ne]]
  simp [one]
theorem det_mul (n : Nat) (A B : Mt) : det n (mul n A B) = det n A * det n B := by
  have u := uniq n _ (alt_mul n B) A
  have e : det n (mul n one B) = det n B := det_congr n fun r c hr hc => mul_one n B hr
  rw [u, e, Int.mul_comm]
theorem det_one : ∀ n, det n one = 1
  | 0 => rfl
  | n + 1 => by
    show S (n + 1) (fun j => sg j * one 0 j * det n (mn 0 j one)) = 1
    rw [S_one (i := 0) (n + 1) (by omega) fun j hj ne => by simp [one, Ne.symm ne]]
    have e : det n (mn 0 0 one) = 1 := by
      rw [← det_one n]
      refine det_congr n fun r c _ _ => ?_
      show one (sk 0 r) (sk 0 c) = one r c
      simp [sk_zero, one]
    rw [e]
    simp [one, sg_zero]
/-- turned round in rows and columns -/
def rev (n : Nat) (A : Mt) : Mt := fun r c => A (n - 1 - r) (n - 1 - c)
theorem rev_up {n : Nat} (A : Mt) {i : Nat} (hi : i < n) (v : Nat → Int) : ∀ r c, r < n → rev n (up A i v) r c = up (rev n A) (n - 1 - i) (fun c => v (n - 1 - c)) r c := fun r c hr => by
  simp only [rev, up]
  by_cases a : r = n - 1 - i
  · rw [if_pos a, if_pos (by omega)]
  · rw [if_neg a, if_neg (by omega)]
theorem det_rev (n : Nat) (A : Mt) : det n (rev n A) = det n A := by
  have h := alt_det n
  have al : Alt n fun A => det n (rev n A) := by
    refine ⟨fun A A' e => det_congr n fun r c hr hc => e _ _ (by omega) (by omega), fun A i v w a b hi => ?_, fun A i hi e => ?_⟩
    · show det n (rev n (up A i _)) = _ * det n (rev n (up A i v)) + _ * det n (rev n (up A i w))
      rw [det_congr n fun r c hr _ => rev_up A hi _ r c hr, det_congr n (A := rev n (up A i v)) fun r c hr _ => rev_up A hi _ r c hr, det_congr n (A := rev n (up A i w)) fun r c hr _ => rev_up A hi _ r c hr]
      exact h.lin _ _ _ _ a b (by omega)
    · refine h.eq_rows _ (i := n - 1 - i) (j := n - 1 - (i + 1)) (by omega) (by omega) (by omega) fun c hc => ?_
      show A (n - 1 - (n - 1 - i)) _ = A (n - 1 - (n - 1 - (i + 1))) _
      rw [show n - 1 - (n - 1 - i) = i by omega, show n - 1 - (n - 1 - (i + 1)) = i + 1 by omega]
      exact e _ (by omega)
  have u := uniq n _ al A
  have e : det n (rev n one) = 1 := by
    rw [← det_one n]
    refine det_congr n fun r c hr hc => ?_
    simp only [rev, one]
    by_cases a : r = c
    · rw [if_pos a, if_pos (by omega)]
    · rw [if_neg a, if_neg (by omega)]
  rw [u, e, Int.one_mul]
end Vd
namespace Vd
theorem S_sub1 {n : Nat} {f : Nat → Int} (h : ∀ j, j < n → f j = 0) : S n f = 0 := by
  rw [S_congr (g := fun _ => 0) n h, S_zero]
theorem Alt.addS {n : Nat} {D : Mt → Int} (h : Alt n D) (A : Mt) {i : Nat} (hi : i < n) (v : Nat → Int) (m : Nat) (f : Nat → Nat) (tt : Nat → Int) (hf : ∀ a, a < m → f a < n ∧ f a ≠ i) : D (up A i fun c => v c + S m fun a => tt a * A (f a) c) = D (up A i v) := by
  rw [h.plus A v (fun c => S m fun a => tt a * A (f a) c) hi, h.sum A hi (fun a => A (f a)) tt m, S_sub1 fun a ha => ?_]
  · omega
  · rw [h.eq_rows (up A i (A (f a))) hi (hf a ha).1 (Ne.symm (hf a ha).2) fun c hc => by rw [up_at, up_ne (hf a ha).2]]
    omega
def cns (x : Nat) (f : Nat → Nat) : Nat → Nat := fun r => if r = 0 then x else f (r - 1)
theorem cns_zero (x : Nat) (f : Nat → Nat) : cns x f 0 = x := rfl
theorem cns_succ (x : Nat) (f : Nat → Nat) (r : Nat) : cns x f (r + 1) = f r := rfl
/-- the part of rows P and columns G -/
def dl (A : Mt) (P G : Nat → Nat) (t : Nat) : Int := det t fun r s => A (P r) (G s)
/-- an entry after t steps -/
def ent (A : Mt) (P G : Nat → Nat) (t i c : Nat) : Int := dl A (cns i P) (cns c G) (t + 1)
section
variable {A : Mt} {P G : Nat → Nat} {t : Nat}
theorem ent_rows (i : Nat) : ∃ L : Nat → Int, ∀ c, ent A P G t i c = dl A P G t * A i c + S t fun a => L a * A (P a) c := by
  refine ⟨fun a => sg (a + 1) * detC t (fun r s => A (cns i P (sk (a + 1) r)) (G s)), fun c => ?_⟩
  show det (t + 1) (fun r s => A (cns i P r) (cns c G s)) = _
  rw [det_detC]
  show S (t + 1) (fun r => sg r * A (cns i P r) c * detC t (mn r 0 fun r s => A (cns i P r) (cns c G s))) = _
  rw [S_head]
  congr 1
  · show sg 0 * A i c * detC t (fun r s => A (cns i P (sk 0 r)) (cns c G (sk 0 s))) = _
    simp only [sk_zero, cns_succ, sg_zero]
    rw [← det_detC]
    show 1 * A i c * dl A P G t = _
    grind
  · refine S_congr _ fun a ha => ?_
    show sg (a + 1) * A (P a) c * detC t (fun r s => A (cns i P (sk (a + 1) r)) (cns c G (sk 0 s))) = _
    simp only [sk_zero, cns_succ]
    grind
theorem ent_cols (c : Nat) : ∃ R : Nat → Int, ∀ i, ent A P G t i c = dl A P G t * A i c + S t fun b => R b * A i (G b) := by
  refine ⟨fun b => sg (b + 1) * det t (fun r s => A (P r) (cns c G (sk (b + 1) s))), fun i => ?_⟩
  show S (t + 1) (fun s => sg s * A i (cns c G s) * det t (mn 0 s fun r s => A (cns i P r) (cns c G s))) = _
  rw [S_head]
  congr 1
  · show sg 0 * A i c * det t (fun r s => A (cns i P (sk 0 r)) (cns c G (sk 0 s))) = _
    simp only [sk_zero, cns_succ, sg_zero]
    show 1 * A i c * dl A P G t = _
    grind
  · refine S_congr _ fun b hb => ?_
    show sg (b + 1) * A i (G b) * det t (fun r s => A (cns i P (sk 0 r)) (cns c G (sk (b + 1) s))) = _
    simp only [sk_zero, cns_succ]
    grind
theorem ent_col0 {b : Nat} (hb : b < t) (i : Nat) : ent A P G t i (G b) = 0 := by
  show det (t + 1) (fun r s => A (cns i P r) (cns (G b) G s)) = 0
  rw [← det_tr]
  exact (alt_det (t + 1)).eq_rows _ (i := 0) (j := b + 1) (by omega) (by omega) (by omega) fun c _ => rfl
theorem ent_row0 {a : Nat} (ha : a < t) (c : Nat) : ent A P G t (P a) c = 0 := by
  show det (t + 1) (fun r s => A (cns (P a) P r) (cns c G s)) = 0
  exact (alt_det (t + 1)).eq_rows _ (i := 0) (j := a + 1) (by omega) (by omega) (by omega) fun c _ => rfl
/-- one step divides without a rest -/
theorem step_eq (hd : dl A P G t ≠ 0) (i c p g : Nat) : dl A P G t * ent A (cns p P) (cns g G) (t + 1) i c = ent A P G t p g * ent A P G t i c - ent A P G t i g * ent A P G t p c := by
  have h := alt_det (t + 2)
  obtain ⟨M, hM⟩ : ∃ M : Mt, M = fun r s => A (cns i (cns p P) r) (cns c (cns g G) s) := ⟨_, rfl⟩
  obtain ⟨col, hcol⟩ : ∃ col, col = cns c (cns g G) := ⟨_, rfl⟩
  obtain ⟨L1, h1⟩ := ent_rows (A := A) (P := P) (G := G) (t := t) i
  obtain ⟨L2, h2⟩ := ent_rows (A := A) (P := P) (G := G) (t := t) p
  have m0 : ∀ s, M 0 s = A i (col s) := fun s => by rw [hM, hcol]; rfl
  have m1 : ∀ s, M 1 s = A p (col s) := fun s => by rw [hM, hcol]; rfl
  have m2 : ∀ a s, M (a + 2) s = A (P a) (col s) := fun a s => by rw [hM, hcol]; rfl
  have eM : ent A (cns p P) (cns g G) (t + 1) i c = det (t + 2) M := by rw [hM]; rfl
  obtain ⟨d, ed⟩ : ∃ d, d = dl A P G t := ⟨_, rfl⟩
  rw [← ed] at hd h1 h2 ⊢
  have x1 : det (t + 2) (up M 0 fun s => ent A P G t i (col s)) = d * det (t + 2) M := by
    have e : (fun s => ent A P G t i (col s)) = fun s => d * M 0 s + S t fun a => L1 a * M (a + 2) s := by
      funext s
      rw [h1, m0]
      congr 1
      exact S_congr _ fun a _ => by rw [m2]
    rw [e, h.addS M (by omega) (fun s => d * M 0 s) t (fun a => a + 2) L1 fun a ha => ⟨by omega, by omega⟩, h.scale M (by omega) (M 0) d, up_same]
  obtain ⟨X, hX⟩ : ∃ X, X = up M 0 fun s => ent A P G t i (col s) := ⟨_, rfl⟩
  have xr : ∀ r, X (r + 1) = M (r + 1) := fun r => by rw [hX, up_ne (by omega)]
  have x2 : det (t + 2) (up X 1 fun s => ent A P G t p (col s)) = d * (d * det (t + 2) M) := by
    have e : (fun s => ent A P G t p (col s)) = fun s => d * X 1 s + S t fun a => L2 a * X (a + 2) s := by
      funext s
      rw [h2, xr 0, m1]
      congr 1
      exact S_congr _ fun a _ => by rw [xr (a + 1), m2]
    rw [e, h.addS X (by omega) (fun s => d * X 1 s) t (fun a => a + 2) L2 fun a ha => ⟨by omega, by omega⟩, h.scale X (by omega) (X 1) d, up_same, hX, x1]
  obtain ⟨Y, hY⟩ : ∃ Y, Y = up X 1 fun s => ent A P G t p (col s) := ⟨_, rfl⟩
  have y0 : ∀ s, Y 0 s = ent A P G t i (col s) := fun s => by rw [hY, up_ne (by omega), hX, up_at]
  have y1 : ∀ s, Y 1 s = ent A P G t p (col s) := fun s => by rw [hY, up_at]
  have y2 : ∀ a s, Y (a + 2) s = A (P a) (col s) := fun a s => by rw [hY, up_ne (by omega), xr (a + 1), m2]
  have c0 : col 0 = c := by rw [hcol]; rfl
  have c1 : col 1 = g := by rw [hcol]; rfl
  have c2 : ∀ b, col (b + 2) = G b := fun b => by rw [hcol]; rfl
  have k0 : det (t + 1) (mn 0 0 Y) = ent A P G t p g * d := by
    show S (t + 1) (fun j => sg j * Y (sk 0 0) (sk 0 j) * det t (mn 0 j (mn 0 0 Y))) = _
    rw [S_one (i := 0) (t + 1) (by omega) fun j hj ne => ?_]
    · rw [sk_zero, y1, c1, sg_zero]
      have e : det t (mn 0 0 (mn 0 0 Y)) = d := by
        rw [ed]
        refine det_congr t fun r s _ _ => ?_
        show Y (sk 0 (sk 0 r)) (sk 0 (sk 0 s)) = _
        simp only [sk_zero]
        rw [y2, c2]
      rw [e]
      grind
    · obtain ⟨b, rfl⟩ : ∃ b, j = b + 1 := ⟨j - 1, by omega⟩
      rw [sk_zero, sk_zero, y1, c2, ent_col0 (by omega)]
      grind
  have k1 : det (t + 1) (mn 0 1 Y) = ent A P G t p c * d := by
    show S (t + 1) (fun j => sg j * Y (sk 0 0) (sk 1 j) * det t (mn 0 j (mn 0 1 Y))) = _
    rw [S_one (i := 0) (t + 1) (by omega) fun j hj ne => ?_]
    · rw [sk_zero, sk_succ0, y1, c0, sg_zero]
      have e : det t (mn 0 0 (mn 0 1 Y)) = d := by
        rw [ed]
        refine det_congr t fun r s _ _ => ?_
        show Y (sk 0 (sk 0 r)) (sk 1 (sk 0 s)) = _
        simp only [sk_zero, sk_succ]
        rw [y2, c2]
      rw [e]
      grind
    · obtain ⟨b, rfl⟩ : ∃ b, j = b + 1 := ⟨j - 1, by omega⟩
      rw [sk_zero, sk_succ, sk_zero, y1, c2, ent_col0 (by omega)]
      grind
  have x3 : det (t + 2) Y = (ent A P G t p g * ent A P G t i c - ent A P G t i g * ent A P G t p c) * d := by
    show S (t + 2) (fun j => sg j * Y 0 j * det (t + 1) (mn 0 j Y)) = _
    rw [S_two (i := 0) (t + 2) (by omega) fun j hj n0 n1 => ?_]
    · rw [k0, k1, y0, y0, c0, c1, sg_succ, sg_zero]
      grind
    · obtain ⟨b, rfl⟩ : ∃ b, j = b + 2 := ⟨j - 2, by omega⟩
      rw [y0, c2, ent_col0 (by omega)]
      grind
  rw [← hY, x3] at x2
  rw [eM]
  apply Int.eq_of_mul_eq_mul_left hd
  rw [← x2]
  exact Int.mul_comm _ _
/-- a column in which nothing is left -/
theorem none_left {n : Nat} (hd : dl A P G t ≠ 0) {c : Nat} (hc : c < n) (hG : ∀ b, b < t → G b < n ∧ G b ≠ c) (h0 : ∀ i, i < n → ent A P G t i c = 0) : det n A = 0 := by
  have h := alt_det n
  obtain ⟨R, hR⟩ := ent_cols (A := A) (P := P) (G := G) (t := t) c
  have e : dl A P G t * det n A = 0 := by
    rw [← det_tr, ← up_same (fun r c => A c r) c, ← h.scale (fun r c => A c r) hc (fun r => A r c) (dl A P G t)]
    have e2 : det n (up (fun r c => A c r) c fun r => dl A P G t * A r c) = det n (up (fun r c => A c r) c fun r => S t fun b => (- R b) * A r (G b)) := by
      refine det_congr n fun r s hr hs => ?_
      simp only [up]
      split
      · have q := hR s
        rw [h0 s hs] at q
        have m : (S t fun b => (- R b) * A s (G b)) = - S t fun b => R b * A s (G b) := by
          have := S_mul (-1) (fun b => R b * A s (G b)) t
          rw [S_congr (g := fun b => (- R b) * A s (G b)) t fun b _ => by grind] at this
          omega
        rw [m]
        omega
      · rfl
    rw [e2, h.sum (fun r c => A c r) hc (fun b r => A r (G b)) (fun b => - R b) t, S_sub1 fun b hb => ?_]
    rw [h.eq_rows (up (fun r c => A c r) c fun r => A r (G b)) hc (hG b hb).1 (Ne.symm (hG b hb).2) fun s _ => by rw [up_at, up_ne (hG b hb).2]]
    omega
  rcases Int.mul_eq_zero.mp e with z | z
  · exact absurd z hd
  · exact z
end
/-- the row at place q + k moved to place q -/
def mvd (f : Nat → Nat) (q k : Nat) : Nat → Nat := fun r => if r < q then f r else if r = q then f (q + k) else if r ≤ q + k then f (r - 1) else f r
theorem det_mvd {n : Nat} (A : Mt) (q : Nat) : ∀ (k : Nat) (f : Nat → Nat), q + k < n → det n (fun r c => A (mvd f q k r) c) = sg k * det n fun r c => A (f r) c
  | 0, f, h => by
    rw [sg_zero, Int.one_mul]
    refine det_congr n fun r c _ _ => ?_
    have : mvd f q 0 r = f r := by
      unfold mvd
      split
      · rfl
      · split
        · next e => rw [e]; rfl
        · rw [if_neg (by omega)]
    rw [this]
  | k + 1, f, h => by
    have g := det_mvd (n := n) A q k (fun r => if r = q + k then f (q + k + 1) else if r = q + k + 1 then f (q + k) else f r) (by omega)
    have e1 : det n (fun r c => A (mvd (fun r => if r = q + k then f (q + k + 1) else if r = q + k + 1 then f (q + k) else f r) q k r) c) = det n (fun r c => A (mvd f q (k + 1) r) c) := by
      refine det_congr n fun r c _ _ => ?_
      congr 1
      unfold mvd
      dsimp only
      by_cases a : r < q
      · rw [if_pos a, if_pos a, if_neg (by omega), if_neg (by omega)]
      · rw [if_neg a, if_neg a]
        by_cases b : r = q
        · rw [if_pos b, if_pos b, if_pos rfl]
          rfl
        · rw [if_neg b, if_neg b]
          by_cases l : r ≤ q + k
          · rw [if_pos l, if_neg (show ¬ r - 1 = q + k by omega), if_neg (show ¬ r - 1 = q + k + 1 by omega), if_pos (show r ≤ q + (k + 1) by omega)]
          · rw [if_neg l, if_neg (show ¬ r = q + k by omega)]
            by_cases m : r = q + k + 1
            · rw [if_pos m, if_pos (show r ≤ q + (k + 1) by omega), m]
              rfl
            · rw [if_neg m, if_neg (show ¬ r ≤ q + (k + 1) by omega)]
    have e2 : det n (fun r c => A (if r = q + k then f (q + k + 1) else if r = q + k + 1 then f (q + k) else f r) c) = - det n fun r c => A (f r) c := by
      have z := (alt_det n).flip (fun r c => A (f r) c) (i := q + k) (by omega)
      rw [← z]
      refine det_congr n fun r c _ _ => ?_
      simp only [up]
      by_cases a : r = q + k
      · rw [if_pos a, if_neg (by omega), if_pos a]
      · rw [if_neg a]
        by_cases b : r = q + k + 1
        · rw [if_pos b, if_pos b]
        · rw [if_neg b, if_neg b, if_neg a]
    rw [← e1, g, e2, sg_succ]
    grind
end Vd
namespace Vd
theorem S_abs {f : Nat → Int} {M : Nat} : ∀ n, (∀ j, j < n → (f j).natAbs ≤ M) → (S n f).natAbs ≤ n * M
  | 0, _ => by show (0 : Int).natAbs ≤ _; simp
  | n + 1, h => by
    have a := S_abs n fun j hj => h j (by omega)
    have b := h n (by omega)
    show (S n f + f n).natAbs ≤ _
    rw [Nat.succ_mul]
    omega
theorem sg_abs (j : Nat) : (sg j).natAbs = 1 := by
  unfold sg
  split <;> rfl
theorem det_abs {k : Nat} : ∀ (n : Nat) (A : Mt), n ≤ 16 → (∀ r c, (A r c).natAbs ≤ 2 ^ k) → (det n A).natAbs ≤ 2 ^ (n * (k + 4))
  | 0, A, _, _ => by
    show (1 : Int).natAbs ≤ _
    simp
  | n + 1, A, hn, h => by
    have s := S_abs (f := fun j => sg j * A 0 j * det n (mn 0 j A)) (M := 2 ^ k * 2 ^ (n * (k + 4))) (n + 1) fun j hj => by
      show (sg j * A 0 j * det n (mn 0 j A)).natAbs ≤ _
      rw [Int.natAbs_mul, Int.natAbs_mul, sg_abs, Nat.one_mul]
      exact Nat.mul_le_mul (h 0 j) (det_abs n _ (by omega) fun r c => h _ _)
    refine Nat.le_trans s ?_
    have e : 2 ^ ((n + 1) * (k + 4)) = 2 ^ 4 * (2 ^ k * 2 ^ (n * (k + 4))) := by
      rw [← Nat.pow_add, ← Nat.pow_add, Nat.succ_mul]
      congr 1
      omega
    rw [e]
    exact Nat.mul_le_mul_right _ (by omega)
/-- which row stands where -/
def arr (os : List Nat) (P : Nat → Nat) (t : Nat) : Nat → Nat := fun r => if r < t then P (t - 1 - r) else os.getD (r - t) 0
/-- what is so ahead of column j -/
structure Sw (n : Nat) (A : Mt) (j t : Nat) (os : List Nat) (P G : Nat → Nat) (sgn : Int) : Prop where
  len : os.length + t = n
  lt : ∀ i, i ∈ os → i < n
  plt : ∀ a, a < t → P a < n
  all : ∀ i, i < n → i ∈ os ∨ ∃ a, a < t ∧ P a = i
  glt : ∀ b, b < t → G b < j
  d0 : dl A P G t ≠ 0
  tj : t ≤ j
  s : sgn = 1 ∨ sgn = -1
  out : (t = j ∧ (∀ b, b < t → G b = j - 1 - b) ∧ det n A = sgn * det n fun r c => A (arr os P t r) c) ∨ (t < j ∧ det n A = 0)
theorem Sw.start (n : Nat) (A : Mt) : Sw n A 0 0 (List.range n) (fun _ => 0) (fun _ => 0) 1 := by
  refine ⟨by simp, fun i hi => List.mem_range.mp hi, fun a ha => by omega, fun i hi => .inl (List.mem_range.mpr hi), fun b hb => by omega, by show (1 : Int) ≠ 0; decide, Nat.le_refl _, .inl rfl, .inl ⟨rfl, fun b hb => by omega, ?_⟩⟩
  rw [Int.one_mul]
  refine det_congr n fun r c hr _ => ?_
  have : arr (List.range n) (fun _ => 0) 0 r = r := by
    unfold arr
    rw [if_neg (by omega), List.getD_eq_getElem?_getD, Nat.sub_zero, List.getElem?_range hr]
    rfl
  rw [this]
theorem Sw.skip {n : Nat} {A : Mt} {j t : Nat} {os : List Nat} {P G : Nat → Nat} {sgn : Int} (h : Sw n A j t os P G sgn) (hj : j < n) (z : ∀ i, i ∈ os → ent A P G t i j = 0) : Sw n A (j + 1) t os P G sgn := by
  refine ⟨h.len, h.lt, h.plt, h.all, fun b hb => Nat.lt_succ_of_lt (h.glt b hb), h.d0, Nat.le_succ_of_le h.tj, h.s, .inr ⟨Nat.lt_succ_of_le h.tj, ?_⟩⟩
  refine none_left h.d0 hj (fun b hb => ?_) fun i hi => ?_
  · have := h.glt b hb
    exact ⟨by omega, by omega⟩
  · rcases h.all i hi with m | ⟨a, ha, rfl⟩
    · exact z i m
    · exact ent_row0 ha j
theorem Sw.take {n : Nat} {A : Mt} {j t : Nat} {os : List Nat} {P G : Nat → Nat} {sgn : Int} (h : Sw n A j t os P G sgn) {k p : Nat} (hk : os[k]? = some p) (nz : ent A P G t p j ≠ 0) : Sw n A (j + 1) (t + 1) (os.eraseIdx k) (cns p P) (cns j G) (sg k * sgn) := by
  have kl : k < os.length := (List.getElem?_eq_some_iff.mp hk).1
  have pm := List.mem_of_getElem? hk
  have hl := h.len
  refine ⟨by rw [List.length_eraseIdx_of_lt kl]; omega, fun i hi => h.lt i (List.mem_of_mem_eraseIdx hi), fun a ha => ?_, fun i hi => ?_, fun b hb => ?_, nz, Nat.succ_le_succ h.tj, ?_, ?_⟩
  · cases a with
    | zero => exact h.lt p pm
    | succ a => exact h.plt a (by omega)
  · rcases h.all i hi with m | ⟨a, ha, e⟩
    · by_cases e : i = p
      · exact .inr ⟨0, by omega, e.symm⟩
      · refine .inl ?_
        obtain ⟨x, hx⟩ := List.getElem?_of_mem m
        have ne : x ≠ k := by
          rintro rfl
          exact e (Option.some.inj (hx.symm.trans hk))
        rcases Nat.lt_or_gt_of_ne ne with l | l
        · exact List.mem_of_getElem? (i := x) (by rw [List.getElem?_eraseIdx_of_lt l]; exact hx)
        · exact List.mem_of_getElem? (i := x - 1) (by rw [List.getElem?_eraseIdx_of_ge (by omega), show x - 1 + 1 = x by omega]; exact hx)
    · exact .inr ⟨a + 1, by omega, e⟩
  · cases b with
    | zero => exact Nat.lt_succ_self j
    | succ b => exact Nat.lt_succ_of_lt (h.glt b (by omega))
  · have := h.s
    unfold sg
    split <;> omega
  · rcases h.out with ⟨e, hG, hd⟩ | ⟨l, hd⟩
    · refine .inl ⟨by omega, fun b hb => ?_, ?_⟩
      · cases b with
        | zero => show j = _; omega
        | succ b =>
          show G b = _
          rw [hG b (by omega)]
          omega
      · have m := det_mvd (n := n) A t k (arr os P t) (by omega)
        have e2 : det n (fun r c => A (arr (os.eraseIdx k) (cns p P) (t + 1) r) c) = det n fun r c => A (mvd (arr os P t) t k r) c := by
          refine det_congr n fun r c hr _ => ?_
          congr 1
          unfold arr mvd
          dsimp only
          by_cases a : r < t
          · rw [if_pos (by omega), if_pos a, if_pos a]
            have : t + 1 - 1 - r = (t - 1 - r) + 1 := by omega
            rw [this]
            rfl
          · rw [if_neg a]
            by_cases b : r = t
            · rw [if_pos (by omega), if_pos b, if_neg (by omega), b]
              have : t + 1 - 1 - t = 0 := by omega
              rw [this, cns_zero, List.getD_eq_getElem?_getD, show t + k - t = k by omega, hk]
              rfl
            · rw [if_neg (show ¬ r < t + 1 by omega), if_neg b]
              by_cases l : r ≤ t + k
              · rw [if_pos l, if_neg (by omega), List.getD_eq_getElem?_getD, List.getD_eq_getElem?_getD, List.getElem?_eraseIdx_of_lt (by omega), show r - (t + 1) = r - 1 - t by omega]
              · rw [if_neg l, if_neg a, List.getD_eq_getElem?_getD, List.getD_eq_getElem?_getD, List.getElem?_eraseIdx_of_ge (by omega), show r - (t + 1) + 1 = r - t by omega]
        rw [e2, m, hd]
        have q := sg_sq k
        generalize det n (fun r c => A (arr os P t r) c) = D
        generalize sg k = g at q ⊢
        grind
    · exact .inr ⟨by omega, hd⟩
theorem Sw.done {n : Nat} {A : Mt} {t : Nat} {os : List Nat} {P G : Nat → Nat} {sgn : Int} (h : Sw n A n t os P G sgn) : det n A = if t = n then sgn * dl A P G t else 0 := by
  by_cases e : t = n
  · rw [if_pos e]
    subst e
    rcases h.out with ⟨_, hG, hd⟩ | ⟨l, _⟩
    · rw [hd]
      congr 1
      rw [← det_rev]
      refine det_congr _ fun r c hr hc => ?_
      show A (arr os P t (t - 1 - r)) (t - 1 - c) = A (P r) (G c)
      rw [hG c hc]
      congr 1
      unfold arr
      rw [if_pos (by omega), show t - 1 - (t - 1 - r) = r by omega]
    · omega
  · rw [if_neg e]
    rcases h.out with ⟨a, _⟩ | ⟨_, z⟩
    · exact absurd a e
    · exact z
theorem Sw.fdiv {n : Nat} {A : Mt} {j t : Nat} {os : List Nat} {P G : Nat → Nat} {sgn : Int} (h : Sw n A j t os P G sgn) (i c p g : Nat) : (ent A P G t p g * ent A P G t i c - ent A P G t i g * ent A P G t p c).fdiv (dl A P G t) = ent A (cns p P) (cns g G) (t + 1) i c := by
  rw [← step_eq h.d0, Int.mul_fdiv_cancel_left _ h.d0]
end Vd
namespace K09
open PySem PySem.Spec PyProof.Rows L2 Vk
abbrev s_cleared : Stmt := topS 3
theorem sc_cleared : FnScope ["row", "lead", "column", "last", "here", "factor", "a", "b"] ["row", "lead", "column", "last"] (defScope s_cleared) := ⟨rfl, rfl, rfl, by decide +kernel, rfl, by decide +kernel, by decide +kernel⟩
abbrev s_swept : Stmt := topS 4
theorem sc_swept : FnScope ["rows", "open_rows", "width", "column", "rank_so_far", "last", "sign", "places", "row", "lead", "i"] ["rows"] (defScope s_swept) := ⟨rfl, rfl, rfl, by decide +kernel, rfl, by decide +kernel, by decide +kernel⟩
def clr (xs ys : List Int) (c : Nat) (d : Int) : List Int := List.zipWith (fun a b => (ys.getD c 0 * a - xs.getD c 0 * b).fdiv d) xs ys
def spCleared : Sp := fun vs H Q _ => ∃ (r l : Addr) (xs ys : List Int) (c : Nat) (d : Int), vs = [.ref r, .ref l, .int c, .int d] ∧ H r = some (.lst (xs.map V.int)) ∧ H l = some (.lst (ys.map V.int)) ∧ xs.length = ys.length ∧ c < xs.length ∧ xs.length ≤ 100 ∧ d ≠ 0 ∧ SmZ 5000 d ∧ (∀ x ∈ xs, SmZ 5000 x) ∧ (∀ y ∈ ys, SmZ 5000 y) ∧
  ∀ p H', Same H H' → H p = none → H' p = some (.lst ((clr xs ys c d).map V.int)) → Q (.ref p) H'
theorem call_list_ofK {X : Cx} {K : PySem.W.Frag} (h : X.K = K) : CallR X (.type "list") (fun xs H Q => ∃ p ys, xs = [.ref p] ∧ (SqL K H p ys ∨ SqT K H p ys) ∧ ∀ l, H l = none → Q (.ref l) (upd H l (.lst ys))) := by
  subst h
  exact call_list_of
section
variable {P : Program} {w : World} {K : PySem.W.Frag} {mg : Str → Option Value} {base : Heap}
theorem ok_cleared {f : Addr} {fd : FuncData} (F : Fun K "_cleared" "_cleared" s_cleared f fd) (m_zip : mg "zip" = none) : FnOk P w K mg base CX0 1 f fd ["row", "lead", "column", "last"] spCleared := by
  have sc := sc_cleared
  refine F.ok sc (fun vs H Q E h => ?_) (fun cdv A outer s H vs Q E hr h => ?_)
  · obtain ⟨r, l, xs, ys, c, d, rfl, _⟩ := h
    rfl
  · obtain ⟨r, l, xs, ys, c, d, rfl, hx, hy, hl, hc, l100, d0, zd, zx, zy, q⟩ := h
    refine ⟨_, (pss_cons (ps_asg (pe_tup (pa_cons (pe_ix ix_list (pv 1) (pv 2) (fun _ _ => rfl)) (pa_cons (pe_ix ix_list (pv 0) (pv 2) (fun _ _ => rfl)) pa_nil))) (pg_tup (n := 2) (by rfl) (pgs_cons (pg_name (i := 4) sc.nd rfl (Or.inr rfl)) (pgs_cons (pg_name (i := 5) sc.nd rfl (Or.inr rfl)) pgs_nil))))
    (pss_one (ps_ret (pe_lc (own := [("a", 6), ("b", 7)]) (g := gTup K 2 (gCons (gName 6) (gCons (gName 7) gNil))) (by rfl) sc.nd (pi_zipK (by rfl) m_zip (pa_cons (pv 0) (pa_cons (pv 1) pa_nil))) (blkOk_by (own := [("a", 6), ("b", 7)]) (N := ["row", "lead", "column", "last", "here", "factor", "a", "b"]) (sc := defScope s_cleared) (by decide +kernel)) (fun _ _ _ _ _ => pg_tup (n := 2) (by rfl) (pgs_cons (pg_name (i := 6) sc.nd rfl (Or.inl rfl)) (pgs_cons (pg_name (i := 7) sc.nd rfl (Or.inl rfl)) pgs_nil))) (fun _ _ _ _ _ => pts_nil) (fun _ _ _ _ _ => (pe_op op_fdivX (pe_op op_sub (pe_op op_mulW (pv 4) (pv 6)) (pe_op op_mulW (pv 5) (pv 7))) (pv 3))))))), ?_⟩
    have gx := Vk.getD_at (xs := xs) (i := c) hc
    have gy := Vk.getD_at (xs := ys) (i := c) (by omega)
    have zxc := zx _ (List.mem_of_getElem? gx)
    have zyc := zy _ (List.mem_of_getElem? gy)
    refine ⟨.ref l, rfl, .int c, rfl, l, _, c, .int (ys.getD c 0), rfl, rfl, SqL.of hy, atI_nat (get_map gy), .ref r, rfl, .int c, rfl, r, _, c, .int (xs.getD c 0), rfl, rfl, SqL.of hx, atI_nat (get_map gx), ?_⟩
    refine ⟨by show 2 ≤ sizeLine; decide, fun T nT => ?_⟩
    have s1 : Same H (upd H T (.tup [.int (ys.getD c 0), .int (xs.getD c 0)])) := same_new nT
    have g1 : Tp (upd H T (.tup [.int (ys.getD c 0), .int (xs.getD c 0)])) T [.int (ys.getD c 0), .int (xs.getD c 0)] := upd_same
    generalize upd H T (.tup [.int (ys.getD c 0), .int (xs.getD c 0)]) = H1 at s1 g1 ⊢
    refine ⟨T, _, rfl, g1.t, rfl, .int (ys.getD c 0), [.int (xs.getD c 0)], rfl, .int (xs.getD c 0), [], rfl, rfl, ?_⟩
    refine ⟨.ref r, rfl, .ref l, rfl, true, true, r, l, _, _, rfl, SqL.of (s1 _ _ hx), SqL.of (s1 _ _ hy), fun D nD => ?_⟩
    have lc : (clr xs ys c d).length = xs.length := by
      unfold clr
      rw [List.length_zipWith, hl, Nat.min_self]
    refine lc_to (walk_zipK (n := xs.length) (zip_len _ _ _ (List.length_map ..) (by rw [List.length_map, hl]))) ((clr xs ys c d).map V.int) (by rw [List.length_map, lc]) (small l100) nD (fun H2 s2 => ⟨SqL.of (s2 _ _ (s1 _ _ hx)), SqL.of (s2 _ _ (s1 _ _ hy))⟩) ?_ ?_
    · rintro j x y H2 H3 Qy hv hj s2 ⟨T2, u2, v2, rfl, nT2, rfl, hu2, hv2⟩ hq
      obtain ⟨z, hz, rfl⟩ := map_get hv
      unfold clr at hz
      obtain ⟨a1, b1, ha1, hb1, rfl⟩ := zipW_get hz
      obtain ⟨a2, ha2, rfl⟩ := map_get hu2
      obtain ⟨b2, hb2, rfl⟩ := map_get hv2
      obtain rfl := Option.some.inj (ha1.symm.trans ha2)
      obtain rfl := Option.some.inj (hb1.symm.trans hb2)
      have za := zx _ (List.mem_of_getElem? ha1)
      have zb := zy _ (List.mem_of_getElem? hb1)
      refine ⟨T2, [.int a1, .int b1], rfl, SqT.of upd_same, rfl, .int a1, [.int b1], rfl, .int b1, [], rfl, rfl, rfl, .int (ys.getD c 0), rfl, .int a1, rfl, _, a1, rfl, rfl, mulB (by decide) (by decide) zyc za (by decide), .int (xs.getD c 0), rfl, .int b1, rfl, _, b1, rfl, rfl, mulB (by decide) (by decide) zxc zb (by decide), _, _, rfl, rfl, .int d, rfl, _, d, rfl, rfl, ⟨d0, ?_⟩, hq _ (same_new nT2)⟩
      exact Nat.lt_trans (smz_log (by decide) zd) (by decide)
    · intro H2 s2 d2
      exact q D H2 (s1.trans s2) (s1.free nD) d2
end
end K09
namespace K09
open PySem PySem.Spec PyProof.Rows L2 Vk Vd
/-- a table as a function -/
def mL (B : List (List Int)) : Mt := fun i j => (B.getD i []).getD j 0
/-- row i after t steps -/
def rowE (A : Mt) (P G : Nat → Nat) (t n i : Nat) : List Int := (List.range n).map fun c => ent A P G t i c
theorem rowE_len (A : Mt) (P G : Nat → Nat) (t n i : Nat) : (rowE A P G t n i).length = n := by
  unfold rowE
  rw [List.length_map, List.length_range]
theorem rowE_get (A : Mt) (P G : Nat → Nat) (t n i : Nat) {c : Nat} (h : c < n) : (rowE A P G t n i)[c]? = some (ent A P G t i c) := by
  unfold rowE
  rw [List.getElem?_map, List.getElem?_range h]
  rfl
theorem rowE_getD (A : Mt) (P G : Nat → Nat) (t n i : Nat) {c : Nat} (h : c < n) : (rowE A P G t n i).getD c 0 = ent A P G t i c := by
  rw [List.getD_eq_getElem?_getD, rowE_get A P G t n i h]
  rfl
theorem rowE_zero {B : List (List Int)} {P G : Nat → Nat} {i : Nat} (h : (B.getD i []).length = B.length) : rowE (mL B) P G 0 B.length i = B.getD i [] := by
  apply List.ext_getElem?
  intro c
  by_cases hc : c < B.length
  · rw [rowE_get _ _ _ _ _ _ hc, Vk.getD_at (xs := B.getD i []) (i := c) (by omega)]
    congr 1
    show 0 + Vd.sg 0 * mL B i c * 1 = (B.getD i []).getD c 0
    rw [sg_zero, Int.zero_add, Int.one_mul, Int.mul_one]
    rfl
  · rw [List.getElem?_eq_none (by rw [rowE_len]; omega), List.getElem?_eq_none (by omega)]
theorem clr_row {n j t : Nat} {A : Mt} {os : List Nat} {P G : Nat → Nat} {sgn : Int} (h : Sw n A j t os P G sgn) (hj : j < n) (p i : Nat) : clr (rowE A P G t n i) (rowE A P G t n p) j (dl A P G t) = rowE A (cns p P) (cns j G) (t + 1) n i := by
  apply List.ext_getElem?
  intro c
  unfold clr
  rw [List.getElem?_zipWith]
  by_cases hc : c < n
  · rw [rowE_get _ _ _ _ _ _ hc, rowE_get _ _ _ _ _ _ hc, rowE_get _ _ _ _ _ _ hc, rowE_getD _ _ _ _ _ _ hj, rowE_getD _ _ _ _ _ _ hj]
    show some _ = some _
    rw [h.fdiv]
  · rw [List.getElem?_eq_none (l := rowE A P G t n i) (by rw [rowE_len]; omega), List.getElem?_eq_none (l := rowE A (cns p P) (cns j G) (t + 1) n i) (by rw [rowE_len]; omega)]
theorem ent_sm {A : Mt} (hA : ∀ r c, (A r c).natAbs ≤ 2 ^ 300) (P G : Nat → Nat) {t : Nat} (ht : t ≤ 9) (i c : Nat) : SmZ 5000 (ent A P G t i c) := by
  have h := det_abs (k := 300) (t + 1) (fun r s => A (cns i P r) (cns c G s)) (by omega) fun r s => hA _ _
  refine Nat.lt_of_le_of_lt h (Nat.pow_lt_pow_right (by decide) ?_)
  have : (t + 1) * (300 + 4) ≤ 10 * 304 := Nat.mul_le_mul (by omega) (by omega)
  omega
theorem dl_sm {A : Mt} (hA : ∀ r c, (A r c).natAbs ≤ 2 ^ 300) (P G : Nat → Nat) {t : Nat} (ht : t ≤ 9) : SmZ 5000 (dl A P G t) := by
  have h := det_abs (k := 300) t (fun r s => A (P r) (G s)) (by omega) fun r s => hA _ _
  refine Nat.lt_of_le_of_lt h (Nat.pow_lt_pow_right (by decide) ?_)
  have : t * (300 + 4) ≤ 10 * 304 := Nat.mul_le_mul (by omega) (by omega)
  omega
theorem mL_sm {B : List (List Int)} (h : ∀ r ∈ B, ∀ x ∈ r, SmZ 300 x) (r c : Nat) : (mL B r c).natAbs ≤ 2 ^ 300 := by
  unfold mL
  by_cases hr : r < B.length
  · have e1 : B[r]? = some (B.getD r []) := by
      rw [List.getD_eq_getElem?_getD, List.getElem?_eq_getElem hr]
      rfl
    by_cases hc : c < (B.getD r []).length
    · exact Nat.le_of_lt (h _ (List.mem_of_getElem? e1) _ (List.mem_of_getElem? (Vk.getD_at hc)))
    · rw [List.getD_eq_getElem?_getD, List.getElem?_eq_none (by omega)]
      exact Nat.zero_le _
  · have : B.getD r [] = [] := by
      rw [List.getD_eq_getElem?_getD, List.getElem?_eq_none (by omega)]
      rfl
    rw [this]
    exact Nat.zero_le _
/-- a list of lists -/
def LL (H : Hp) (L : Addr) (qs : List Addr) (E : List (List Int)) : Prop := H L = some (.lst (qs.map V.ref)) ∧ qs.length = E.length ∧ ∀ (i : Nat) (q : Addr) (r : List Int), qs[i]? = some q → E[i]? = some r → q ≠ L ∧ H q = some (.lst (r.map V.int))
theorem refs_ne {ps : List Addr} {row : List Int} (h : 0 < ps.length) : ps.map V.ref ≠ row.map V.int := by
  cases ps with
  | nil => cases h
  | cons p ps =>
    cases row with
    | nil => intro z; cases z
    | cons x row =>
      intro z
      rw [List.map_cons, List.map_cons] at z
      have := (List.cons.inj z).1
      cases this
theorem erase_map {α β : Type} (f : α → β) : ∀ (l : List α) (k : Nat), (l.map f).eraseIdx k = (l.eraseIdx k).map f
  | [], _ => rfl
  | _ :: _, 0 => rfl
  | x :: l, k + 1 => by
    show f x :: (l.map f).eraseIdx k = f x :: (l.eraseIdx k).map f
    rw [erase_map f l k]
def spSwept : Sp := fun vs H Q _ => ∃ (a : Addr) (ps : List Addr) (B : List (List Int)), vs = [.ref a] ∧ Tp H a (ps.map V.ref) ∧ Rws H ps B B.length ∧ B.length ≤ 9 ∧
  ∀ r t v H', Same H H' → Tp H' r [.int ((t : Nat) : Int), .int v] → det B.length (mL B) = (if t = B.length then v else 0) → Q (.ref r) H'
section
variable {P : Program} {w : World} {K : PySem.W.Frag} {mg : Str → Option Value} {base : Heap}
theorem ok_swept {f : Addr} {fd : FuncData} (F : Fun K "swept" "swept" s_swept f fd) (C__cleared : Cal P w K mg base 1 "_cleared" ["row", "lead", "column", "last"] spCleared) (m_list : mg "list" = none) (m_len : mg "len" = none) (m_range : mg "range" = none) (m_enumerate : mg "enumerate" = none) : FnOk P w K mg base CX0 2 f fd ["rows"] spSwept := by
  have sc := sc_swept
  refine F.ok sc (fun vs H Q E h => ?_) (fun cdv A outer s H vs Q E hr h => ?_)
  · obtain ⟨a, ps, B, rfl, _⟩ := h
    rfl
  · obtain ⟨a, ps, B, rfl, ha, hR, h9, q⟩ := h
    refine ⟨_, (pss_cons (ps_setLc (i := 1) (own := [("row", 8)]) (g := gName 8) (by rfl) sc.nd rfl rfl (sw_true rfl rfl rfl (by decide +kernel)) (pi_tup (pv 0)) (blkOk_by (own := [("row", 8)]) (N := ["rows", "open_rows", "width", "column", "rank_so_far", "last", "sign", "places", "row", "lead", "i"]) (sc := defScope s_swept) (by decide +kernel)) (fun _ _ _ _ _ => pg_name (i := 8) sc.nd rfl (Or.inl rfl)) (fun _ _ _ _ _ => pts_nil) (fun _ _ _ _ _ => (pe_callTy (call_list_ofK (K := K) rfl) (by rfl) m_list (by decide +kernel) (pa_cons (pv 8) pa_nil))))
    (pss_cons (ps_set (i := 2) sc.nd rfl (Or.inl rfl) (pe_ifExp (pt_truth (pv 0) (by intro _; rfl)) (pe_callB call_len_seq (by rfl) m_len (by decide +kernel) (pa_cons (pe_ix ix_tup (pv 0) pe_int (fun _ _ => rfl)) pa_nil)) pe_int))
    (pss_cons (ps_asg (pe_tup (pa_cons pe_int (pa_cons pe_int (pa_cons pe_int pa_nil)))) (pg_tup (n := 3) (by rfl) (pgs_cons (pg_name (i := 4) sc.nd rfl (Or.inl rfl)) (pgs_cons (pg_name (i := 5) sc.nd rfl (Or.inr rfl)) (pgs_cons (pg_name (i := 6) sc.nd rfl (Or.inl rfl)) pgs_nil)))))
    (pss_cons (ps_for PassesOwn.never rfl (pi_range1 rfl m_range (pa_cons (pv 2) pa_nil)) (pg_name (i := 3) sc.nd rfl (Or.inr rfl))
      (pss_cons (ps_setLc (i := 7) (own := [("i", 10), ("row", 8)]) (g := gTup K 2 (gCons (gName 10) (gCons (gName 8) gNil))) (by rfl) sc.nd rfl rfl (sw_true rfl rfl rfl (by decide +kernel)) (pi_enumK (by rfl) m_enumerate (pa_cons (pv 1) pa_nil)) (blkOk_by (own := [("i", 10), ("row", 8)]) (N := ["rows", "open_rows", "width", "column", "rank_so_far", "last", "sign", "places", "row", "lead", "i"]) (sc := defScope s_swept) (by decide +kernel)) (fun _ _ _ _ _ => pg_tup (n := 2) (by rfl) (pgs_cons (pg_name (i := 10) sc.nd rfl (Or.inl rfl)) (pgs_cons (pg_name (i := 8) sc.nd rfl (Or.inl rfl)) pgs_nil))) (fun _ _ _ _ _ => (pts_one (pt_cmpR op_ne (pe_ix (ix_listK (K := K) rfl) (pv 8) (pv 3) (fun _ _ => rfl)) pe_int (nomark _)))) (fun _ _ _ _ _ => (pv 10)))
    (pss_one (ps_if (pt_truth (pv 7) (by intro _; rfl))
      (pss_cons (ps_set (i := 9) sc.nd rfl (Or.inr rfl) (pe_bm PySem.F.plainAttrs_list PySem.F.slot_list_pop PySem.F.type_list_pop mt_popAt (pv 1) (pa_cons (pe_ix ix_list (pv 7) pe_int (fun _ _ => rfl)) pa_nil)))
    (pss_cons (ps_if (pt_cmpR op_eq (pe_op op_modN (pe_ix ix_list (pv 7) pe_int (fun _ _ => rfl)) pe_int) pe_int (nomark _))
      (pss_one (ps_set (i := 6) sc.nd rfl (Or.inl rfl) (pe_un un_neg (pv 6))))
      pss_nil)
    (pss_cons (ps_setLc (i := 1) (own := [("row", 8)]) (g := gName 8) (by rfl) sc.nd rfl rfl (sw_true rfl rfl rfl (by decide +kernel)) (pi_list (pv 1)) (blkOk_by (own := [("row", 8)]) (N := ["rows", "open_rows", "width", "column", "rank_so_far", "last", "sign", "places", "row", "lead", "i"]) (sc := defScope s_swept) (by decide +kernel)) (fun _ _ _ _ _ => pg_name (i := 8) sc.nd rfl (Or.inl rfl)) (fun _ _ _ _ _ => pts_nil) (fun _ _ _ _ _ => (call_ C__cleared (hr.mono (by decide)) (by rfl) (pa_cons (pv 8) (pa_cons (pv 9) (pa_cons (pv 3) (pa_cons (pv 5) pa_nil)))))))
    (pss_cons (ps_set (i := 5) sc.nd rfl (Or.inr rfl) (pe_ix ix_list (pv 9) (pv 3) (fun _ _ => rfl)))
    (pss_one (ps_aug (i := 4) sc.nd rfl (Or.inl rfl) pe_int ip_add))))))
      pss_nil))))
    (pss_one (ps_ret (pe_tup (pa_cons (pv 4) (pa_cons (pe_op op_mulW (pv 6) (pv 5)) pa_nil))))))))), ?_⟩
    have lp : (ps.map V.ref).length = B.length := by rw [List.length_map, hR.1]
    have rowOf : ∀ i, i < B.length → ∃ p, ps[i]? = some p ∧ Row H p (B.getD i []) ∧ (B.getD i []).length = B.length := fun i hi => by
      have hp : ps[i]? = some (ps[i]'(by rw [hR.1]; exact hi)) := List.getElem?_eq_getElem _
      have hb : B[i]? = some (B.getD i []) := by
        rw [List.getD_eq_getElem?_getD, List.getElem?_eq_getElem hi]
        rfl
      obtain ⟨r1, r2⟩ := hR.2 i _ _ hp hb
      exact ⟨_, hp, r1, r2⟩
    have hA : ∀ r c, (mL B r c).natAbs ≤ 2 ^ 300 := mL_sm fun r hr => by
      obtain ⟨i, hi⟩ := List.getElem?_of_mem hr
      have il : i < ps.length := by
        rw [hR.1]
        exact (List.getElem?_eq_some_iff.mp hi).1
      exact (hR.2 i ps[i] r (List.getElem?_eq_getElem il) hi).1.2.2
    refine ⟨.ref a, rfl, a, rfl, ⟨_, ha.t⟩, fun D nD => ?_⟩
    refine lc_objs (walk_tup (K := K) (a := a) (xs := ps.map V.ref)) (fun i => .lst ((B.getD i []).map V.int)) (by rw [lp]; exact small (by omega)) nD (fun H' s => (ha.same s).t) ?_ ?_
    · rintro i x H1 H1' Qy hi s1 ⟨rfl, hx⟩ hq
      obtain ⟨p, hp, rfl⟩ := map_get hx
      rw [lp] at hi
      obtain ⟨p', hp', Rp, lr⟩ := rowOf i hi
      obtain rfl := Option.some.inj (hp.symm.trans hp')
      exact ⟨rfl, .ref p, rfl, p, _, rfl, .inr (Rp.1.same s1).t, fun l nl => hq l _ (same_new nl) nl upd_same⟩
    intro H1 qs s1 d1 lq nd fr ob
    have E0 : LL H1 D qs ((List.range B.length).map (rowE (mL B) (fun _ => 0) (fun _ => 0) 0 B.length)) := by
      refine ⟨d1, by rw [List.length_map, List.length_range, lq, lp], fun i p r e1 e2 => ⟨?_, ?_⟩⟩
      · rintro rfl
        have g1 := ob i p e1
        rw [d1] at g1
        exact absurd (HO.lst.inj (Option.some.inj g1)) (refs_ne (by have := (List.getElem?_eq_some_iff.mp e1).1; omega))
      · have hi : i < B.length := by
          have := (List.getElem?_eq_some_iff.mp e1).1
          omega
        rw [List.getElem?_map, List.getElem?_range hi] at e2
        obtain rfl := Option.some.inj e2
        obtain ⟨_, _, _, lr⟩ := rowOf i hi
        rw [rowE_zero lr]
        exact ob i p e1
    refine ⟨.ref a, rfl, !(ps.map V.ref).isEmpty, .inr (.inl ⟨_, (ha.same s1).t, rfl⟩), ?_⟩
    refine tif_both (fun v => v = .int B.length) (fun v hv => ?_) (fun e hq => ?_) (fun e hq => ?_)
    rotate_left
    · have l0 : 0 < B.length := by
        rw [← lp]
        cases hps : ps.map V.ref with
        | nil =>
          rw [hps] at e
          cases e
        | cons x y => exact Nat.succ_pos _
      obtain ⟨p, hp, Rp, lr⟩ := rowOf 0 l0
      refine ⟨.ref a, rfl, a, _, 0, .ref p, rfl, rfl, (ha.same s1).t, atI_nat (j := 0) (get_map hp), p, _, rfl, .inr (Rp.1.same s1).t, ?_⟩
      rw [List.length_map, lr]
      exact hq _ rfl
    · have l0 : B.length = 0 := by
        rw [← lp]
        cases hps : ps.map V.ref with
        | nil => rfl
        | cons x y =>
          rw [hps] at e
          cases e
      refine hq _ ?_
      rw [l0]
      rfl
    subst hv
    refine ⟨by show 3 ≤ sizeLine; decide, fun T nT => ?_⟩
    have s2 : Same H1 (upd H1 T (.tup [.int 0, .int 1, .int 1])) := same_new nT
    have g2 : Tp (upd H1 T (.tup [.int 0, .int 1, .int 1])) T [.int 0, .int 1, .int 1] := upd_same
    generalize upd H1 T (.tup [.int 0, .int 1, .int 1]) = H2 at s2 g2 ⊢
    refine ⟨T, _, rfl, g2.t, rfl, .int 0, [.int 1, .int 1], rfl, .int 1, [.int 1], rfl, .int 1, [], rfl, rfl, ?_⟩
    refine ⟨.int B.length, rfl, (B.length : Int), rfl, by omega, by omega, ?_⟩
    rw [Int.toNat_natCast]
    have LLs : ∀ {H H' : Hp} {L : Addr} {qs : List Addr} {E : List (List Int)}, LL H L qs E → Same H H' → LL H' L qs E := fun h s => ⟨s _ _ h.1, h.2.1, fun i q r a b => ⟨(h.2.2 i q r a b).1, s _ _ (h.2.2 i q r a b).2⟩⟩
    refine for_range (lo := 0) (n := B.length) (fun j σ H' => ∃ t os P G sgn L qs, (∃ y3 y7 y8 y9 y10, σ = [some (.ref a), some (.ref L), some (.int B.length), y3, some (.int ((t : Nat) : Int)), some (.int (Vd.dl (mL B) P G t)), some (.int sgn), y7, y8, y9, y10]) ∧ Sw B.length (mL B) j t os P G sgn ∧ LL H' L qs (os.map (rowE (mL B) P G t B.length)) ∧ Same H H' ∧ H L = none)
      ⟨0, List.range B.length, fun _ => 0, fun _ => 0, 1, D, qs, ⟨none, none, none, none, none, rfl⟩, Sw.start _ _, LLs E0 s2, s1.trans s2, nD⟩ ?_ ?_
    · rintro j σ H3 hj ⟨t, os, P, G, sgn, L, qs, ⟨y3, y7, y8, y9, y10, rfl⟩, W, hL, s3, nL⟩
      have t9 : t + 1 ≤ 9 := by
        have := W.tj
        omega
      have lqs : qs.length = os.length := by rw [hL.2.1, List.length_map]
      have lE : (qs.map V.ref).length = os.length := by rw [List.length_map, lqs]
      have hl := W.len
      have rowA : ∀ i, i < os.length → ∃ p o, qs[i]? = some p ∧ os[i]? = some o ∧ p ≠ L ∧ H3 p = some (.lst ((rowE (mL B) P G t B.length o).map V.int)) := fun i hi => by
        have h1 : qs[i]? = some (qs[i]'(by omega)) := List.getElem?_eq_getElem _
        have h2 : os[i]? = some os[i] := List.getElem?_eq_getElem hi
        obtain ⟨a1, a2⟩ := hL.2.2 i _ (rowE (mL B) P G t B.length os[i]) h1 (by rw [List.getElem?_map, h2]; rfl)
        exact ⟨_, _, h1, h2, a1, a2⟩
      refine ⟨.ref L, rfl, true, L, qs.map V.ref, rfl, SqL.of hL.1, fun D1 nD1 => ?_⟩
      refine lc_fl (walk_enumK (K := K) (b := true) (a := L) (xs := qs.map V.ref)) (fun i => decide (ent (mL B) P G t (os.getD i 0) j ≠ 0)) (fun i => .int (i : Nat)) (by rw [lE]; exact small (by omega)) nD1 (fun H' s => SqL.of (s _ _ hL.1)) ?_ ?_
      · rintro i x H4 H4' Qy Nx hi s4 ⟨T1, u, w, rfl, nT1, rfl, hu, hw⟩ hk hnk
        obtain rfl := Option.some.inj hu
        obtain ⟨p, hp, rfl⟩ := map_get hw
        rw [lE] at hi
        obtain ⟨p', o, hp', ho, _, hrow⟩ := rowA i hi
        obtain rfl := Option.some.inj (hp.symm.trans hp')
        have eo : os.getD i 0 = o := by
          rw [List.getD_eq_getElem?_getD, ho]
          rfl
        rw [eo] at hk hnk
        have sT : Same H4 (upd H4 T1 (.tup [.int (i : Nat), .ref p])) := same_new nT1
        refine ⟨T1, [.int (i : Nat), .ref p], rfl, SqT.of upd_same, rfl, .int (i : Nat), [.ref p], rfl, .ref p, [], rfl, rfl, rfl, .ref p, rfl, .int (0 + j), rfl, p, _, 0 + j, .int (ent (mL B) P G t o j), rfl, rfl, SqL.of (sT _ _ (s4 _ _ hrow)), atI_at (by omega) (get_map (rowE_get _ _ _ _ _ _ hj)), rfl, _, rfl, ite2 (fun h => ?_) (fun h => ?_)⟩
        · refine ⟨.int (i : Nat), rfl, hk (decide_eq_true (fun z => ?_)) _ sT⟩
          rw [z] at h
          exact absurd h (by decide)
        · refine hnk (decide_eq_false (fun z => h ?_)) _ sT
          rw [decide_eq_false (fun e => z (V.int.inj e))]
          rfl
      intro H4 s4 d4
      have kz : ((List.range (qs.map V.ref).length).filter fun i => decide (ent (mL B) P G t (os.getD i 0) j ≠ 0)) = [] → ∀ i, i ∈ os → ent (mL B) P G t i j = 0 := fun e i hi => by
        obtain ⟨x, hx⟩ := List.getElem?_of_mem hi
        have xl := (List.getElem?_eq_some_iff.mp hx).1
        have eo : os.getD x 0 = i := by
          rw [List.getD_eq_getElem?_getD, hx]
          rfl
        by_cases z : ent (mL B) P G t i j = 0
        · exact z
        · have m : x ∈ ((List.range (qs.map V.ref).length).filter fun i => decide (ent (mL B) P G t (os.getD i 0) j ≠ 0)) := List.mem_filter.mpr ⟨List.mem_range.mpr (by rw [lE]; exact xl), decide_eq_true (by rw [eo]; exact z)⟩
          rw [e] at m
          cases m
      have kk : ∀ k0 l, ((List.range (qs.map V.ref).length).filter fun i => decide (ent (mL B) P G t (os.getD i 0) j ≠ 0)) = k0 :: l → k0 < os.length ∧ ent (mL B) P G t (os.getD k0 0) j ≠ 0 := fun k0 l e => by
        have m : k0 ∈ ((List.range (qs.map V.ref).length).filter fun i => decide (ent (mL B) P G t (os.getD i 0) j ≠ 0)) := by
          rw [e]
          exact List.mem_cons_self
        obtain ⟨m1, m2⟩ := List.mem_filter.mp m
        have m1 := List.mem_range.mp m1
        rw [lE] at m1
        exact ⟨m1, of_decide_eq_true m2⟩
      generalize ((List.range (qs.map V.ref).length).filter fun i => decide (ent (mL B) P G t (os.getD i 0) j ≠ 0)) = ks at d4 kz kk
      have gL4 := s4 _ _ hL.1
      have D1L : D1 ≠ L := Ne.symm (ne_of_none hL.1 nD1)
      refine ⟨.ref D1, rfl, !(ks.map fun i => V.int (i : Nat)).isEmpty, .inl ⟨_, SqL.of d4, rfl⟩, ?_⟩
      cases ks with
      | nil => exact iteF ⟨t, os, P, G, sgn, L, qs, ⟨_, _, _, _, _, rfl⟩, W.skip hj (kz rfl), LLs hL s4, s3.trans s4, nL⟩
      | cons k0 kl =>
        obtain ⟨k0l, nz⟩ := kk k0 kl rfl
        obtain ⟨p, o, hp, ho, pL, hrow⟩ := rowA k0 k0l
        have eo : os.getD k0 0 = o := by
          rw [List.getD_eq_getElem?_getD, ho]
          rfl
        rw [eo] at nz
        have W' := W.take ho nz
        refine iteT ⟨.ref L, rfl, .inl ⟨rfl, _, SqL.of gL4⟩, .ref D1, rfl, D1, _, 0, .int (k0 : Nat), rfl, rfl, SqL.of d4, atI_nat (j := 0) rfl, L, _, (k0 : Int), k0, .ref p, rfl, rfl, gL4, by omega, by omega, ?_, get_map hp, ?_⟩
        · rw [lE]
          have := seqIndex_of (k := (k0 : Int)) (n := os.length) (by omega) (by omega)
          rw [this, Int.toNat_natCast]
        have eE : (qs.map V.ref).eraseIdx k0 = (qs.eraseIdx k0).map V.ref := erase_map _ _ _
        rw [eE]
        have rowB : ∀ i, i < (os.eraseIdx k0).length → ∃ p o, (qs.eraseIdx k0)[i]? = some p ∧ (os.eraseIdx k0)[i]? = some o ∧ p ≠ L ∧ H3 p = some (.lst ((rowE (mL B) P G t B.length o).map V.int)) := fun i hi => by
          rw [List.length_eraseIdx_of_lt k0l] at hi
          rcases Nat.lt_or_ge i k0 with l | l
          · obtain ⟨p, o, a1, a2, a3⟩ := rowA i (by omega)
            exact ⟨p, o, by rw [List.getElem?_eraseIdx_of_lt l]; exact a1, by rw [List.getElem?_eraseIdx_of_lt l]; exact a2, a3⟩
          · obtain ⟨p, o, a1, a2, a3⟩ := rowA (i + 1) (by omega)
            exact ⟨p, o, by rw [List.getElem?_eraseIdx_of_ge l]; exact a1, by rw [List.getElem?_eraseIdx_of_ge l]; exact a2, a3⟩
        have s35 : Same H (upd H4 L (.lst ((qs.eraseIdx k0).map V.ref))) := same_put (s3.trans s4) nL
        have g5 : upd H4 L (.lst ((qs.eraseIdx k0).map V.ref)) L = some (.lst ((qs.eraseIdx k0).map V.ref)) := upd_same
        have d5 : upd H4 L (.lst ((qs.eraseIdx k0).map V.ref)) D1 = some (.lst ((k0 :: kl).map fun i => V.int (i : Nat))) := by
          rw [upd_ne D1L]
          exact d4
        have r5 : ∀ {p : Addr} {x : HO}, p ≠ L → H3 p = some x → upd H4 L (.lst ((qs.eraseIdx k0).map V.ref)) p = some x := fun a b => by
          rw [upd_ne a]
          exact s4 _ _ b
        generalize upd H4 L (.lst ((qs.eraseIdx k0).map V.ref)) = H5 at s35 g5 d5 r5 ⊢
        refine gname_ ?_
        dsimp only
        refine seq_ ?_
        refine tifs_rest (fun σ' H' => ∃ y8 y10, σ' = [some (.ref a), some (.ref L), some (.int B.length), some (.int (0 + j)), some (.int ((t : Nat) : Int)), some (.int (Vd.dl (mL B) P G t)), some (.int (Vd.sg k0 * sgn)), some (.ref D1), y8, some (.ref p), y10] ∧ H' = H5) ?_ ?_
        · rintro σ' H' ⟨y8, y10, rfl, rfl⟩
          refine ⟨.ref L, rfl, L, rfl, ⟨_, SqL.of g5⟩, fun D2 nD2 => ?_⟩
          have le : ((qs.eraseIdx k0).map V.ref).length = (os.eraseIdx k0).length := by
            rw [List.length_map, List.length_eraseIdx_of_lt (by omega), List.length_eraseIdx_of_lt k0l]
            omega
          have lo9 : (os.eraseIdx k0).length ≤ 9 := by
            rw [List.length_eraseIdx_of_lt k0l]
            omega
          refine lc_objs (walk_list (K := K) (a := L) (xs := (qs.eraseIdx k0).map V.ref)) (fun i => .lst ((rowE (mL B) (cns o P) (cns j G) (t + 1) B.length ((os.eraseIdx k0).getD i 0)).map V.int)) (by rw [le]; exact small (by omega)) nD2 (fun H' s => SqL.of (s _ _ g5)) ?_ ?_
          · rintro i x H6 H6' Qy hi s6 ⟨rfl, hx⟩ hq
            obtain ⟨pi, hpi, rfl⟩ := map_get hx
            rw [le] at hi
            obtain ⟨p', o', hp', ho', pL', hrow'⟩ := rowB i hi
            obtain rfl := Option.some.inj (hpi.symm.trans hp')
            have eo' : (os.eraseIdx k0).getD i 0 = o' := by
              rw [List.getD_eq_getElem?_getD, ho']
              rfl
            rw [eo'] at hq
            refine ⟨rfl, .ref pi, rfl, .ref p, rfl, .int (0 + j), rfl, .int (Vd.dl (mL B) P G t), rfl, pi, p, _, _, j, Vd.dl (mL B) P G t, by rw [Int.zero_add], s6 _ _ (r5 pL' hrow'), s6 _ _ (r5 pL hrow), by rw [rowE_len, rowE_len], by rw [rowE_len]; exact hj, by rw [rowE_len]; omega, W.d0, dl_sm hA P G (by omega), fun x hx => ?_, fun x hx => ?_, fun r H7 s7 n7 g7 => ?_⟩
            · obtain ⟨c, _, rfl⟩ := List.mem_map.mp hx
              exact ent_sm hA P G (by omega) _ _
            · obtain ⟨c, _, rfl⟩ := List.mem_map.mp hx
              exact ent_sm hA P G (by omega) _ _
            · rw [clr_row W hj] at g7
              exact hq r H7 s7 n7 g7
          intro H6 us s6 d6 lu ndu fru obu
          have l6 := s6 _ _ (r5 pL hrow)
          refine ⟨.ref p, rfl, .int (0 + j), rfl, p, _, 0 + j, .int (ent (mL B) P G t o j), rfl, rfl, SqL.of l6, atI_at (by omega) (get_map (rowE_get _ _ _ _ _ _ hj)), ?_⟩
          refine ⟨.int ((t : Nat) : Int), rfl, _, _, rfl, rfl, ?_⟩
          have s6' := s35.trans s6
          refine ⟨t + 1, os.eraseIdx k0, cns o P, cns j G, Vd.sg k0 * sgn, D2, us, ⟨_, _, _, _, _, rfl⟩, W', ⟨d6, by rw [List.length_map, lu, le], fun i p' r e1 e2 => ?_⟩, s6', s35.free nD2⟩
          have hi : i < (os.eraseIdx k0).length := by
            have := (List.getElem?_eq_some_iff.mp e1).1
            omega
          have eo' : (os.eraseIdx k0)[i]? = some ((os.eraseIdx k0).getD i 0) := by
            rw [List.getD_eq_getElem?_getD, List.getElem?_eq_getElem hi]
            rfl
          rw [List.getElem?_map, eo'] at e2
          obtain rfl := Option.some.inj e2
          have g1 := obu i p' e1
          refine ⟨?_, g1⟩
          rintro rfl
          rw [d6] at g1
          exact absurd (HO.lst.inj (Option.some.inj g1)) (refs_ne (by omega))
        · intro rest
          refine ⟨.ref D1, rfl, D1, _, 0, .int (k0 : Nat), rfl, rfl, SqL.of d5, atI_nat (j := 0) rfl, _, _, rfl, rfl, (show (2 : Int) ≠ 0 by decide), rfl, _, rfl, ite2 (fun h => ?_) (fun h => ?_)⟩
          · have h := V.int.inj (of_decide_eq_true h)
            refine ⟨.int sgn, rfl, sgn, rfl, rest _ _ ⟨y8, y10, ?_, rfl⟩⟩
            have e : Vd.sg k0 * sgn = - sgn := by
              have : Vd.sg k0 = -1 := by
                unfold Vd.sg
                rw [Int.fmod_eq_emod_of_nonneg _ (by decide)] at h
                rw [if_neg (by omega)]
              rw [this]
              omega
            rw [e]
            rfl
          · refine rest _ _ ⟨y8, y10, ?_, rfl⟩
            have e : Vd.sg k0 * sgn = sgn := by
              have : Vd.sg k0 = 1 := by
                unfold Vd.sg
                refine if_pos ?_
                by_cases z : k0 % 2 = 0
                · exact z
                · refine absurd (decide_eq_true ?_) h
                  show V.int ((k0 : Int).fmod 2) = V.int 1
                  rw [Int.fmod_eq_emod_of_nonneg _ (by decide)]
                  congr 1
                  omega
              rw [this]
              omega
            rw [e]
            rfl
    · rintro σ H3 ⟨t, os, P, G, sgn, L, qs, ⟨y3, y7, y8, y9, y10, rfl⟩, W, hL, s3, nL⟩
      have t9 : t ≤ 9 := by
        have := W.tj
        omega
      have zs : SmZ 2 sgn := by
        rcases W.s with e | e
        · rw [e]; decide
        · rw [e]; decide
      refine ⟨.int ((t : Nat) : Int), rfl, .int sgn, rfl, .int (Vd.dl (mL B) P G t), rfl, _, _, rfl, rfl, mulB (by decide) (by decide) zs (dl_sm hA P G t9) (by decide), ?_⟩
      refine ⟨by show 2 ≤ sizeLine; decide, fun R nR => ?_⟩
      exact q R t (sgn * Vd.dl (mL B) P G t) _ (s3.trans (same_new nR)) upd_same W.done
end
end K09
namespace K09
open PySem PySem.Spec PyProof.Rows L2 Vk Vd
abbrev s_det : Stmt := topS 5
theorem sc_det : FnScope ["table", "size", "part"] ["table"] (defScope s_det) := ⟨rfl, rfl, rfl, by decide +kernel, rfl, by decide +kernel, by decide +kernel⟩
abbrev s_trow : Stmt := topS 7
theorem sc_trow : FnScope ["row", "table"] ["row", "table"] (defScope s_trow) := ⟨rfl, rfl, rfl, by decide +kernel, rfl, by decide +kernel, by decide +kernel⟩
abbrev s_tcol : Stmt := topS 8
theorem sc_tcol : FnScope ["table", "column", "row"] ["table", "column"] (defScope s_tcol) := ⟨rfl, rfl, rfl, by decide +kernel, rfl, by decide +kernel, by decide +kernel⟩
abbrev s_ttable : Stmt := topS 9
theorem sc_ttable : FnScope ["one", "other", "row"] ["one", "other"] (defScope s_ttable) := ⟨rfl, rfl, rfl, by decide +kernel, rfl, by decide +kernel, by decide +kernel⟩
abbrev s_turned : Stmt := topS 6
theorem sc_turned : FnScope ["rows", "width", "j", "row"] ["rows", "width"] (defScope s_turned) := ⟨rfl, rfl, rfl, by decide +kernel, rfl, by decide +kernel, by decide +kernel⟩
/-- the columns of a table -/
def colsI (rows : List (List Int)) (n : Nat) : List (List Int) := (List.range n).map fun j => rows.map fun r => r.getD j 0
theorem colsI_get {rows : List (List Int)} {n j : Nat} {z : List Int} (h : (colsI rows n)[j]? = some z) : z = rows.map fun r => r.getD j 0 := by
  unfold colsI at h
  rw [List.getElem?_map] at h
  cases e : (List.range n)[j]? with
  | none => rw [e] at h; cases h
  | some k =>
    rw [e] at h
    have hk : k = j := by
      have := List.getElem?_eq_some_iff.mp e
      obtain ⟨hj, hk⟩ := this
      rw [List.getElem_range] at hk
      exact hk.symm
    subst hk
    exact (Option.some.inj h).symm
/-- rows of n numbers -/
def TabR (H : Hp) (a : Addr) (B : List (List Int)) (n : Nat) : Prop := ∃ ps, Tp H a (ps.map V.ref) ∧ Rws H ps B n
theorem TabR.same {H H' : Hp} {a : Addr} {B : List (List Int)} {n : Nat} (h : TabR H a B n) (s : Same H H') : TabR H' a B n := by
  obtain ⟨ps, h1, h2⟩ := h
  exact ⟨ps, h1.same s, h2.same s⟩
theorem TabR.but {m a : Addr} {H H' : Hp} {B : List (List Int)} {n : Nat} {kvs : List (Key × V)} (h : TabR H a B n) (hm : H m = some (.dK kvs)) (s : SameBut m H H') : TabR H' a B n := by
  obtain ⟨ps, h1, h2⟩ := h
  exact ⟨ps, h1.but hm s, h2.but hm s⟩
theorem TabR.w {H : Hp} {a : Addr} {B : List (List Int)} {n : Nat} (h : TabR H a B n) : ∀ r ∈ B, r.length = n ∧ ∀ x ∈ r, SmZ 300 x := fun r hr => by
  obtain ⟨ps, h1, h2⟩ := h
  obtain ⟨i, hi⟩ := List.getElem?_of_mem hr
  have il : i < ps.length := by
    rw [h2.1]
    exact (List.getElem?_eq_some_iff.mp hi).1
  obtain ⟨R, l⟩ := h2.2 i ps[i] r (List.getElem?_eq_getElem il) hi
  exact ⟨l, R.2.2⟩
def spDet : Sp := fun vs H Q _ => ∃ (a : Addr) (B : List (List Int)), vs = [.ref a] ∧ TabR H a B B.length ∧ B.length ≤ 9 ∧ ∀ H', Same H H' → Q (.int (det B.length (mL B))) H'
def spTcol : Sp := fun vs H Q _ => ∃ (a c : Addr) (B : List (List Int)) (n : Nat) (xs : List Int), vs = [.ref a, .ref c] ∧ TabR H a B n ∧ Row H c xs ∧ xs.length = n ∧ B.length ≤ 90 ∧ ∀ r H', Same H H' → Tp H' r ((B.map fun b => dot b xs).map V.int) → Q (.ref r) H'
def spTrow : Sp := fun vs H Q _ => ∃ (c a : Addr) (B : List (List Int)) (xs : List Int), vs = [.ref c, .ref a] ∧ TabR H a B B.length ∧ Row H c xs ∧ xs.length = B.length ∧ B.length ≤ 9 ∧ ∀ r H', Same H H' → Tp H' r (((colsI B B.length).map fun b => dot b xs).map V.int) → Q (.ref r) H'
def mulI (X B : List (List Int)) : List (List Int) := X.map fun x => (colsI B B.length).map fun b => dot b x
def spTtab : Sp := fun vs H Q _ => ∃ (c a : Addr) (X B : List (List Int)), vs = [.ref c, .ref a] ∧ TabR H c X B.length ∧ TabR H a B B.length ∧ X.length ≤ 9 ∧ B.length ≤ 9 ∧ ∀ r ps H', Same H H' → Tp H' r (ps.map V.ref) → Rw H' ps (mulI X B) → Q (.ref r) H'
theorem colsI_len (B : List (List Int)) (n : Nat) : (colsI B n).length = n := by
  unfold colsI
  rw [List.length_map, List.length_range]
def spTurnedT : Sp := fun vs H Q _ => ∃ (a : Addr) (n : Nat) (ps : List Addr) (rows : List (List Int)), vs = [.ref a, .int n] ∧ Tp H a (ps.map V.ref) ∧ Rws H ps rows n ∧ rows.length ≤ 100 ∧ n ≤ 100 ∧ ∀ r qs H', Same H H' → Tp H' r (qs.map V.ref) → Rws H' qs (colsI rows n) rows.length → Q (.ref r) H'
section
variable {P : Program} {w : World} {K : PySem.W.Frag} {mg : Str → Option Value} {base : Heap}
theorem ok_det {f : Addr} {fd : FuncData} (F : Fun K "determinant" "determinant" s_det f fd) (C_swept : Cal P w K mg base 2 "swept" ["rows"] spSwept) (m_len : mg "len" = none) : FnOk P w K mg base CX0 3 f fd ["table"] spDet := by
  have sc := sc_det
  refine F.ok sc (fun vs H Q E h => ?_) (fun cdv A outer s H vs Q E hr h => ?_)
  · obtain ⟨a, B, rfl, _⟩ := h
    rfl
  · obtain ⟨a, B, rfl, ⟨ps, ha, hR⟩, h9, q⟩ := h
    refine ⟨_, (pss_cons (ps_asg (call_ C_swept (hr.mono (by decide)) (by rfl) (pa_cons (pv 0) pa_nil)) (pg_tup (n := 2) (by rfl) (pgs_cons (pg_name (i := 1) sc.nd rfl (Or.inl rfl)) (pgs_cons (pg_name (i := 2) sc.nd rfl (Or.inl rfl)) pgs_nil))))
    (pss_one (ps_ret (pe_ifExp (pt_cmpR op_eq (pv 1) (pe_callB call_len_seq (by rfl) m_len (by decide +kernel) (pa_cons (pv 0) pa_nil)) (nomark _)) (pv 2) pe_int)))), ?_⟩
    refine ⟨.ref a, rfl, a, ps, B, rfl, ha, hR, h9, fun r t v H1 s1 g1 e1 => ?_⟩
    refine ⟨r, _, rfl, g1.t, rfl, .int ((t : Nat) : Int), [.int v], rfl, .int v, [], rfl, rfl, ?_⟩
    refine ⟨.int ((t : Nat) : Int), rfl, .ref a, rfl, a, _, rfl, .inr (ha.same s1).t, rfl, _, rfl, ?_⟩
    rw [List.length_map, hR.1]
    by_cases e : t = B.length
    · rw [if_pos e] at e1
      rw [e, decide_eq_true rfl]
      have q := q H1 s1
      rw [e1] at q
      exact iteT ⟨.int v, rfl, q⟩
    · rw [if_neg e] at e1
      rw [decide_eq_false fun z => e (by have := V.int.inj z; omega)]
      have q := q H1 s1
      rw [e1] at q
      exact iteF q
theorem ok_turnedT {f : Addr} {fd : FuncData} (F : Fun K "turned" "turned" s_turned f fd) (m_tuple : mg "tuple" = none) (m_range : mg "range" = none) : FnOk P w K mg base CX0 1 f fd ["rows", "width"] spTurnedT := by
  have sc := sc_turned
  refine F.ok sc (fun vs H Q E h => ?_) (fun cdv A outer s H vs Q E hr h => ?_)
  · obtain ⟨a, n, ps, rows, rfl, _⟩ := h
    rfl
  · obtain ⟨a, n, ps, rows, rfl, ha, hR, hl, hn, q⟩ := h
    refine ⟨_, (pss_one (ps_ret (pe_callTy call_tuple_of (by rfl) m_tuple (by decide +kernel) (pa_cons (pe_lc (own := [("j", 2)]) (g := gName 2) (by rfl) sc.nd (pi_range1 rfl m_range (pa_cons (pv 1) pa_nil)) (blkOk_by (own := [("j", 2)]) (N := ["rows", "width", "j", "row"]) (sc := defScope s_turned) (by decide +kernel)) (fun _ _ _ _ _ => pg_name (i := 2) sc.nd rfl (Or.inr rfl)) (fun _ _ _ _ _ => pts_nil) (fun _ _ _ _ _ => (pe_callTy (call_tuple_ofK (K := K) rfl) (by rfl) m_tuple (by decide +kernel) (pa_cons (pe_lc (own := [("row", 3)]) (g := gName 3) (by rfl) sc.nd (pi_tupK (K := K) rfl (pv 0)) (blkOk_by (own := [("row", 3)]) (N := ["rows", "width", "j", "row"]) (sc := { kind := .function, names := [(".0", .local), ("j", .cell), ("tuple", .globalImplicit), ("rows", .cell)], isGenerator := false, isCoroutine := false }) (by decide +kernel)) (fun _ _ _ _ _ => pg_name (i := 3) sc.nd rfl (Or.inl rfl)) (fun _ _ _ _ _ => pts_nil) (fun _ _ _ _ _ => (pe_ix (ix_tupK (K := K) rfl) (pv 3) (pv 2) (fun _ _ => rfl)))) pa_nil)))) pa_nil)))), ?_⟩
    have lp : ps.length = rows.length := hR.1
    refine ⟨.int n, rfl, (n : Int), rfl, by omega, by omega, fun D nD => ?_⟩
    rw [Int.toNat_natCast]
    refine lc_objs (walk_range (lo := 0) (n := n)) (fun j => .tup ((rows.map fun r => r.getD j 0).map V.int)) (small hn) nD (fun H' s => True.intro) ?_ ?_
    · rintro j x H0 H0' Qy hj s0 ⟨rfl, rfl⟩ hq
      refine ⟨rfl, .ref a, rfl, a, rfl, ⟨_, (ha.same s0).t⟩, fun D2 nD2 => ?_⟩
      refine lc_to (walk_tup (K := K) (a := a) (xs := ps.map V.ref)) ((rows.map fun r => r.getD j 0).map V.int) (by rw [List.length_map, List.length_map, List.length_map, lp]) (by rw [List.length_map]; exact small (by omega)) nD2 (fun H' s => ((ha.same s0).same s).t) ?_ ?_
      · rintro i x z H1 H1' Qy hz hi s1 ⟨rfl, hx⟩ hq
        obtain ⟨p, hp, rfl⟩ := map_get hx
        obtain ⟨v, hv, rfl⟩ := map_get hz
        obtain ⟨r, hr', rfl⟩ := map_get hv
        obtain ⟨Rp, lr⟩ := hR.2 i p r hp hr'
        exact ⟨rfl, .ref p, rfl, .int (0 + j), rfl, p, _, 0 + j, .int (r.getD j 0), rfl, rfl, ((Rp.same s0).same s1).1.t, atI_at (i := j) (by omega) (get_map (getD_at (by omega))), hq _ (Same.refl _)⟩
      · intro H2 s2 d2
        exact ⟨D2, _, rfl, .inl ⟨SqL.of d2, fun T nT => hq T _ (s2.trans (same_new nT)) (s2.free nT) upd_same⟩⟩
    · intro H' qs s1 d l nd fr ob
      refine ⟨D, _, rfl, .inl ⟨SqL.of d, fun T nT => ?_⟩⟩
      have s2 := same_new (o := .tup (qs.map V.ref)) nT
      refine q T qs _ (s1.trans s2) upd_same ⟨by unfold colsI; rw [l, List.length_map, List.length_range], fun j p z hp hz => ?_⟩
      have ho := ob j p hp
      have hj : j < n := by
        have := (List.getElem?_eq_some_iff.mp hp).1
        omega
      obtain rfl := colsI_get hz
      refine ⟨⟨s2 _ _ ho, by rw [List.length_map]; exact hl, fun x hx => ?_⟩, by rw [List.length_map]⟩
      obtain ⟨r, hr', rfl⟩ := List.mem_map.mp hx
      obtain ⟨i, hi⟩ := List.getElem?_of_mem hr'
      have il : i < ps.length := by
        rw [lp]
        exact (List.getElem?_eq_some_iff.mp hi).1
      obtain ⟨Rp, lr⟩ := hR.2 i ps[i] r (List.getElem?_eq_getElem il) hi
      exact Rp.2.2 _ (List.mem_of_getElem? (getD_at (xs := r) (i := j) (by omega)))
theorem ok_tcol {f : Addr} {fd : FuncData} (F : Fun K "times_column" "times_column" s_tcol f fd) (C_product_sum : Cal P w K mg base 1 "product_sum" ["one", "other"] spPsum) (m_tuple : mg "tuple" = none) : FnOk P w K mg base CX0 2 f fd ["table", "column"] spTcol := by
  have sc := sc_tcol
  refine F.ok sc (fun vs H Q E h => ?_) (fun cdv A outer s H vs Q E hr h => ?_)
  · obtain ⟨a, c, B, n, xs, rfl, _⟩ := h
    rfl
  · obtain ⟨a, c, B, n, xs, rfl, ⟨ps, ha, hR⟩, hc, lx, h9, q⟩ := h
    refine ⟨_, (pss_one (ps_ret (pe_callTy call_tuple_of (by rfl) m_tuple (by decide +kernel) (pa_cons (pe_lc (own := [("row", 2)]) (g := gName 2) (by rfl) sc.nd (pi_tup (pv 0)) (blkOk_by (own := [("row", 2)]) (N := ["table", "column", "row"]) (sc := defScope s_tcol) (by decide +kernel)) (fun _ _ _ _ _ => pg_name (i := 2) sc.nd rfl (Or.inl rfl)) (fun _ _ _ _ _ => pts_nil) (fun _ _ _ _ _ => (call_ C_product_sum (hr.mono (by decide)) (by rfl) (pa_cons (pv 2) (pa_cons (pv 1) pa_nil))))) pa_nil)))), ?_⟩
    refine ⟨.ref a, rfl, a, rfl, ⟨_, ha.t⟩, fun D nD => ?_⟩
    refine lc_to (walk_tup (K := K) (a := a) (xs := ps.map V.ref)) ((B.map fun b => dot b xs).map V.int) (by rw [List.length_map, List.length_map, List.length_map, hR.1]) (by rw [List.length_map, hR.1]; exact small (by omega)) nD (fun H' s => (ha.same s).t) ?_ ?_
    · rintro i x z H1 H1' Qy hz hi s1 ⟨rfl, hx⟩ hq
      obtain ⟨p, hp, rfl⟩ := map_get hx
      obtain ⟨v, hv, rfl⟩ := map_get hz
      obtain ⟨b, hb, rfl⟩ := map_get hv
      obtain ⟨Rp, lr⟩ := hR.2 i p b hp hb
      exact ⟨rfl, .ref p, rfl, .ref c, rfl, p, c, b, xs, rfl, Rp.same s1, hc.same s1, by omega, fun H2 s2 => hq H2 s2⟩
    · intro H2 s2 d2
      exact ⟨D, _, rfl, .inl ⟨SqL.of d2, fun T nT => q T _ (s2.trans (same_new nT)) upd_same⟩⟩
theorem ok_trow {f : Addr} {fd : FuncData} (F : Fun K "times_row" "times_row" s_trow f fd) (C_times_column : Cal P w K mg base 2 "times_column" ["table", "column"] spTcol) (C_turned : Cal P w K mg base 1 "turned" ["rows", "width"] spTurnedT) (m_len : mg "len" = none) : FnOk P w K mg base CX0 3 f fd ["row", "table"] spTrow := by
  have sc := sc_trow
  refine F.ok sc (fun vs H Q E h => ?_) (fun cdv A outer s H vs Q E hr h => ?_)
  · obtain ⟨c, a, B, xs, rfl, _⟩ := h
    rfl
  · obtain ⟨c, a, B, xs, rfl, ⟨ps, ha, hR⟩, hc, lx, h9, q⟩ := h
    refine ⟨_, (pss_one (ps_ret (call_ C_times_column (hr.mono (by decide)) (by rfl) (pa_cons (call_ C_turned (hr.mono (by decide)) (by rfl) (pa_cons (pv 1) (pa_cons (pe_callB call_len_seq (by rfl) m_len (by decide +kernel) (pa_cons (pv 0) pa_nil)) pa_nil))) (pa_cons (pv 0) pa_nil))))), ?_⟩
    refine ⟨.ref a, rfl, .ref c, rfl, c, _, rfl, .inr hc.1.t, ?_⟩
    rw [List.length_map, lx]
    refine ⟨a, B.length, ps, B, rfl, ha, hR, by omega, by omega, fun r qs H1 s1 g1 R1 => ?_⟩
    exact ⟨.ref c, rfl, r, c, _, B.length, xs, rfl, ⟨qs, g1, R1⟩, hc.same s1, lx, by rw [colsI_len]; omega, fun r2 H2 s2 g2 => q r2 H2 (s1.trans s2) g2⟩
theorem ok_ttab {f : Addr} {fd : FuncData} (F : Fun K "times_table" "times_table" s_ttable f fd) (C_times_row : Cal P w K mg base 3 "times_row" ["row", "table"] spTrow) (m_tuple : mg "tuple" = none) : FnOk P w K mg base CX0 4 f fd ["one", "other"] spTtab := by
  have sc := sc_ttable
  refine F.ok sc (fun vs H Q E h => ?_) (fun cdv A outer s H vs Q E hr h => ?_)
  · obtain ⟨c, a, X, B, rfl, _⟩ := h
    rfl
  · obtain ⟨c, a, X, B, rfl, ⟨xs, hX, RX⟩, hB, h9, h9', q⟩ := h
    refine ⟨_, (pss_one (ps_ret (pe_callTy call_tuple_of (by rfl) m_tuple (by decide +kernel) (pa_cons (pe_lc (own := [("row", 2)]) (g := gName 2) (by rfl) sc.nd (pi_tup (pv 0)) (blkOk_by (own := [("row", 2)]) (N := ["one", "other", "row"]) (sc := defScope s_ttable) (by decide +kernel)) (fun _ _ _ _ _ => pg_name (i := 2) sc.nd rfl (Or.inl rfl)) (fun _ _ _ _ _ => pts_nil) (fun _ _ _ _ _ => (call_ C_times_row (hr.mono (by decide)) (by rfl) (pa_cons (pv 2) (pa_cons (pv 1) pa_nil))))) pa_nil)))), ?_⟩
    refine ⟨.ref c, rfl, c, rfl, ⟨_, hX.t⟩, fun D nD => ?_⟩
    refine lc_tps (walk_tup (K := K) (a := c) (xs := xs.map V.ref)) (mulI X B) (by unfold mulI; rw [List.length_map, List.length_map, RX.1]) (by rw [List.length_map, RX.1]; exact small (by omega)) nD (fun H' s => (hX.same s).t) ?_ ?_
    · rintro i x y H0 H0' Qy hy hi s0 ⟨rfl, hx⟩ hq
      obtain ⟨p, hp, rfl⟩ := map_get hx
      obtain ⟨r, hr', rfl⟩ := map_get hy
      obtain ⟨Rp, lr⟩ := RX.2 i p r hp hr'
      exact ⟨rfl, .ref p, rfl, .ref a, rfl, p, a, B, r, rfl, hB.same s0, Rp.same s0, lr, h9', fun r2 H2 s2 g2 => hq r2 H2 s2 g2⟩
    intro H2 us s2 d2 W2
    exact ⟨D, _, rfl, .inl ⟨SqL.of d2, fun T nT => q T us _ (s2.trans (same_new nT)) upd_same (W2.same (same_new nT))⟩⟩
end
end K09
namespace K09
open PySem PySem.Spec PyProof.Rows L2 Vk Vd
abbrev s_ldet : Stmt := topS 15
theorem sc_ldet : FnScope ["table", "j", "total", "sign", "inner", "row"] ["table"] (defScope s_ldet) := ⟨rfl, rfl, rfl, by decide +kernel, rfl, by decide +kernel, by decide +kernel⟩
def spLd (m : Nat) : Sp := fun vs H Q _ => ∃ (a : Addr) (B : List (List Int)), vs = [.ref a] ∧ TabR H a B B.length ∧ B.length < m ∧ ∀ H', Same H H' → Q (.int (det B.length (mL B))) H'
theorem mL_at {B : List (List Int)} {r c : Nat} {b : List Int} (h : B[r]? = some b) : mL B r c = b.getD c 0 := by
  unfold mL
  rw [List.getD_eq_getElem?_getD (l := B), h]
  rfl
theorem mL_mn {B : List (List Int)} {j : Nat} : ∀ r c, mL (B.tail.map fun b => b.take j ++ b.drop (j + 1)) r c = mn 0 j (mL B) r c := fun r c => by
  show _ = mL B (sk 0 r) (sk j c)
  rw [sk_zero]
  unfold mL
  by_cases h : r + 1 < B.length
  · have e1 : (B.tail.map fun b => b.take j ++ b.drop (j + 1)).getD r [] = (B.getD (r + 1) []).take j ++ (B.getD (r + 1) []).drop (j + 1) := by
      rw [List.getD_eq_getElem?_getD, List.getElem?_map, List.getElem?_tail, List.getD_eq_getElem?_getD, List.getElem?_eq_getElem h]
      rfl
    rw [e1, ← List.eraseIdx_eq_take_drop_succ, List.getD_eq_getElem?_getD, List.getD_eq_getElem?_getD (i := sk j c)]
    congr 1
    unfold sk
    split
    · next l => rw [List.getElem?_eraseIdx_of_lt l]
    · next l => rw [List.getElem?_eraseIdx_of_ge (by omega)]
  · have e1 : (B.tail.map fun b => b.take j ++ b.drop (j + 1)).getD r [] = [] := by
      rw [List.getD_eq_getElem?_getD, List.getElem?_eq_none (by rw [List.length_map, List.length_tail]; omega)]
      rfl
    have e2 : B.getD (r + 1) [] = [] := by
      rw [List.getD_eq_getElem?_getD, List.getElem?_eq_none (by omega)]
      rfl
    rw [e1, e2]
    rfl
theorem dp_rows {K : PySem.W.Frag} {H : Hp} {a : Addr} {B : List (List Int)} {n : Nat} (h : TabR H a B n) : Dp K H (.ref a) (.tuple (B.map dRow)) := by
  obtain ⟨ps, h1, h2⟩ := h
  refine .tup h1.t (dp_all ps _ (by rw [List.length_map, h2.1]) fun i q d e1 e2 => ?_)
  obtain ⟨z, hz, rfl⟩ := map_get e2
  exact dp_row (h2.2 i q z e1 hz).1.1
section
variable {P : Program} {w : World} {K : PySem.W.Frag} {mg : Str → Option Value} {base : Heap}
theorem ok_ldet {f : Addr} {fd : FuncData} {k m : Nat} (hm : m ≤ 5) (F : Fun K "_law_det" "_law_det" s_ldet f fd) (C__law_det : Cal P w K mg base k "_law_det" ["table"] (spLd m)) (m_len : mg "len" = none) (m_range : mg "range" = none) (m_tuple : mg "tuple" = none) : FnOk P w K mg base CX0 (k + 1) f fd ["table"] (spLd (m + 1)) := by
  have sc := sc_ldet
  refine F.ok sc (fun vs H Q E h => ?_) (fun cdv A outer s H vs Q E hr h => ?_)
  · obtain ⟨a, B, rfl, _⟩ := h
    rfl
  · obtain ⟨a, B, rfl, hT, hlm, q⟩ := h
    refine ⟨_, (pss_cons (ps_if (pt_cmpR (op_eqD hr.units) (pv 0) (pe_tup pa_nil) (nomark _))
      (pss_one (ps_ret pe_int))
      pss_nil)
    (pss_cons (ps_asg (pe_tup (pa_cons pe_int (pa_cons pe_int pa_nil))) (pg_tup (n := 2) (by rfl) (pgs_cons (pg_name (i := 2) sc.nd rfl (Or.inl rfl)) (pgs_cons (pg_name (i := 3) sc.nd rfl (Or.inl rfl)) pgs_nil))))
    (pss_cons (ps_for PassesOwn.never rfl (pi_range1 rfl m_range (pa_cons (pe_callB call_len_seq (by rfl) m_len (by decide +kernel) (pa_cons (pv 0) pa_nil)) pa_nil)) (pg_name (i := 1) sc.nd rfl (Or.inr rfl))
      (pss_cons (ps_if (pt_cmpR op_ne (pe_ix ix_tup (pe_ix ix_tup (pv 0) pe_int (fun _ _ => rfl)) (pv 1) (fun _ _ => rfl)) pe_int (nomark _))
      (pss_cons (ps_set (i := 4) sc.nd rfl (Or.inl rfl) (pe_callTy call_tuple_of (by rfl) m_tuple (by decide +kernel) (pa_cons (pe_lc (own := [("row", 5)]) (g := gName 5) (by rfl) sc.nd (pi_tup (pe_slice sl_tupA (pv 0) (po_some pe_int) po_none)) (blkOk_by (own := [("row", 5)]) (N := ["table", "j", "total", "sign", "inner", "row"]) (sc := defScope s_ldet) (by decide +kernel)) (fun _ _ _ _ _ => pg_name (i := 5) sc.nd rfl (Or.inl rfl)) (fun _ _ _ _ _ => pts_nil) (fun _ _ _ _ _ => (pe_op (op_catAK (K := K) rfl) (pe_slice (sl_tupAK (K := K) rfl) (pv 5) po_none (po_some (pv 1))) (pe_slice (sl_tupAK (K := K) rfl) (pv 5) (po_some (pe_op op_add (pv 1) pe_int)) po_none)))) pa_nil)))
    (pss_one (ps_set (i := 2) sc.nd rfl (Or.inl rfl) (pe_op op_add (pv 2) (pe_op op_mulW (pe_op op_mulW (pv 3) (pe_ix ix_tup (pe_ix ix_tup (pv 0) pe_int (fun _ _ => rfl)) (pv 1) (fun _ _ => rfl))) (call_ C__law_det (hr.mono (Nat.le_refl _)) (by rfl) (pa_cons (pv 4) pa_nil)))))))
      pss_nil)
    (pss_one (ps_set (i := 3) sc.nd rfl (Or.inl rfl) (pe_un un_neg (pv 3))))))
    (pss_one (ps_ret (pv 2)))))), ?_⟩
    have hT0 := hT
    obtain ⟨ps, ha, hR⟩ := hT
    have wid := hT0.w
    have hA : ∀ r c, (mL B r c).natAbs ≤ 2 ^ 300 := mL_sm fun r hr => (wid r hr).2
    refine ⟨.ref a, rfl, by show 0 ≤ sizeLine; decide, fun e ne => ?_⟩
    have s1 : Same H (upd H e (.tup [])) := same_new ne
    have g1 : Tp (upd H e (.tup [])) e [] := upd_same
    generalize upd H e (.tup []) = H1 at s1 g1 ⊢
    refine ⟨.tuple (B.map dRow), .tuple [], dp_rows (hT0.same s1), .tup g1.t .nil, (shaped_rows B).2, by decide, _, rfl, ?_⟩
    have eqe : PyData.eqv (.tuple (B.map dRow)) (.tuple []) = B.isEmpty := by
      cases B with
      | nil => rfl
      | cons a l => rfl
    rw [eqe]
    obtain ⟨n, hn⟩ : ∃ n, n = B.length := ⟨_, rfl⟩
    cases n with
    | zero =>
      have : B = [] := List.eq_nil_of_length_eq_zero hn.symm
      subst this
      exact iteT' rfl (q H1 s1)
    | succ n =>
      refine iteF' (by cases B with | nil => cases hn | cons a l => rfl) ?_
      have hp0 : ps[0]? = some (ps[0]'(by rw [hR.1]; omega)) := List.getElem?_eq_getElem _
      generalize ps[0]'(by rw [hR.1]; omega) = p0 at hp0
      have hb0 : B[0]? = some (B[0]'(by omega)) := List.getElem?_eq_getElem _
      generalize B[0]'(by omega) = b0 at hb0
      obtain ⟨R0, lb0⟩ := hR.2 0 p0 b0 hp0 hb0
      refine ⟨by show 2 ≤ sizeLine; decide, fun T nT => ?_⟩
      have s2 : Same H1 (upd H1 T (.tup [.int 0, .int 1])) := same_new nT
      have g2 : Tp (upd H1 T (.tup [.int 0, .int 1])) T [.int 0, .int 1] := upd_same
      generalize upd H1 T (.tup [.int 0, .int 1]) = H2 at s2 g2 ⊢
      have s12 := s1.trans s2
      refine ⟨T, _, rfl, g2.t, rfl, .int 0, [.int 1], rfl, .int 1, [], rfl, rfl, ?_⟩
      refine ⟨.ref a, rfl, a, _, rfl, .inr (ha.same s12).t, ((ps.map V.ref).length : Int), rfl, by omega, by rw [List.length_map, hR.1]; omega, ?_⟩
      have e0 : ((ps.map V.ref).length : Int).toNat = B.length := by
        rw [List.length_map, hR.1]
        omega
      rw [e0]
      obtain ⟨fj, hfj⟩ : ∃ fj : Nat → Int, fj = fun j => Vd.sg j * mL B 0 j * det n (mn 0 j (mL B)) := ⟨_, rfl⟩
      have eD : det B.length (mL B) = S B.length fj := by
        rw [← hn, hfj]
        rfl
      have fsm : ∀ j, (fj j).natAbs ≤ 2 ^ 2000 := fun j => by
        have h := det_abs (k := 300) n (mn 0 j (mL B)) (by omega) fun r c => hA _ _
        rw [hfj]
        show (Vd.sg j * mL B 0 j * det n (mn 0 j (mL B))).natAbs ≤ _
        rw [Int.natAbs_mul, Int.natAbs_mul, sg_abs, Nat.one_mul]
        refine Nat.le_trans (Nat.mul_le_mul (hA 0 j) h) ?_
        rw [← Nat.pow_add]
        refine Nat.pow_le_pow_right (by decide) ?_
        have : n * (300 + 4) ≤ 5 * 304 := Nat.mul_le_mul (by omega) (by omega)
        omega
      refine for_range (lo := 0) (n := B.length) (fun j σ H' => (∃ y1 y4 y5, σ = [some (.ref a), y1, some (.int (S j fj)), some (.int (Vd.sg j)), y4, y5]) ∧ Same H H') ⟨⟨none, none, none, rfl⟩, s12⟩ ?_ ?_
      · rintro j σ H3 hj ⟨⟨y1, y4, y5, rfl⟩, s3⟩
        have ej : (0 + (j : Int)) = ((j : Nat) : Int) := by omega
        refine seq_ ?_
        refine tifs_rest (fun σ' H' => (∃ y4 y5, σ' = [some (.ref a), some (.int (0 + j)), some (.int (S (j + 1) fj)), some (.int (Vd.sg j)), y4, y5]) ∧ Same H H') ?_ ?_
        · rintro σ' H' ⟨⟨y4, y5, rfl⟩, s4⟩
          refine ⟨.int (Vd.sg j), rfl, Vd.sg j, rfl, ⟨some (.int (0 + j)), y4, y5, ?_⟩, s4⟩
          rw [sg_succ]
          rfl
        · intro rest
          have gj := Vk.getD_at (xs := b0) (i := j) (by omega)
          have em := mL_at (c := j) hb0
          rw [← em] at gj
          refine ⟨.ref a, rfl, a, _, 0, .ref p0, rfl, rfl, (ha.same s3).t, atI_nat (j := 0) (get_map hp0), .int (0 + j), rfl, p0, _, 0 + j, .int (mL B 0 j), rfl, rfl, (R0.same s3).1.t, atI_at ej (get_map gj), rfl, _, rfl, ite2 (fun h => ?_) (fun h => ?_)⟩
          · refine ⟨.ref a, rfl, 1, rfl, ?_⟩
            unfold tNoPart
            refine slice_tp (ha.same s3) fun r1 H4 s4 g4 => ?_
            rw [show (some (1 : Int)) = some ((1 : Nat) : Int) from rfl, cut_from, ← List.map_drop] at g4
            have s34 := s3.trans s4
            have lR : (B.tail.map fun b => b.take j ++ b.drop (j + 1)).length = n := by
              rw [List.length_map, List.length_tail]
              omega
            have ld : ((ps.drop 1).map V.ref).length = n := by
              rw [List.length_map, List.length_drop, hR.1]
              omega
            refine ⟨r1, rfl, ⟨_, g4.t⟩, fun D nD => ?_⟩
            refine lc_tps (walk_tup (K := K) (a := r1) (xs := (ps.drop 1).map V.ref)) (B.tail.map fun b => b.take j ++ b.drop (j + 1)) (by rw [lR, ld]) (by rw [ld]; exact small (by omega)) nD (fun H' s => (g4.same s).t) ?_ ?_
            · rintro i x y H5 H5' Qy hy hi s5 ⟨rfl, hx⟩ hq
              obtain ⟨p, hp, rfl⟩ := map_get hx
              obtain ⟨b, hb, rfl⟩ := map_get hy
              rw [List.getElem?_drop] at hp
              rw [List.getElem?_tail] at hb
              obtain ⟨Rp, lb⟩ := hR.2 (i + 1) p b (by rw [Nat.add_comm]; exact hp) hb
              have R5 := Rp.same (s34.trans s5)
              refine ⟨rfl, .ref p, rfl, .int (0 + j), rfl, 0 + j, rfl, ?_⟩
              refine slice_tp R5.1 fun r5 H6 s6 g6 => ?_
              rw [ej, cut_to, ← List.map_take] at g6
              refine ⟨.ref p, rfl, .int (0 + j), rfl, 0 + j, 1, rfl, rfl, 0 + j + 1, rfl, ?_⟩
              refine slice_tp (R5.same s6).1 fun r7 H7 s7 g7 => ?_
              rw [show (0 + (j : Int) + 1) = ((j + 1 : Nat) : Int) by omega, cut_from, ← List.map_drop] at g7
              refine cat_tp (g6.same s7) g7 (by rw [List.length_map, List.length_map, List.length_take, List.length_drop]; exact Nat.le_of_lt (small (by omega))) fun r8 H8 s8 g8 => ?_
              rw [← List.map_append] at g8
              exact hq r8 H8 ((s6.trans s7).trans s8) g8
            intro H5 us s5 d5 W5
            refine ⟨D, _, rfl, .inl ⟨SqL.of d5, fun T2 nT2 => ?_⟩⟩
            have s6 : Same H5 (upd H5 T2 (.tup (us.map V.ref))) := same_new nT2
            have g6 : Tp (upd H5 T2 (.tup (us.map V.ref))) T2 (us.map V.ref) := upd_same
            generalize upd H5 T2 (.tup (us.map V.ref)) = H6 at s6 g6 ⊢
            have s36 := s34.trans (s5.trans s6)
            have W6 := W5.same s6
            have TR : TabR H6 T2 (B.tail.map fun b => b.take j ++ b.drop (j + 1)) (B.tail.map fun b => b.take j ++ b.drop (j + 1)).length := by
              refine ⟨us, g6, W6.1, fun i q r e1 e2 => ?_⟩
              have hT := W6.2 i q r e1 e2
              obtain ⟨b, hb, rfl⟩ := map_get e2
              rw [List.getElem?_tail] at hb
              obtain ⟨w1, w2⟩ := wid b (List.mem_of_getElem? hb)
              refine ⟨⟨hT, ?_, fun x hx => ?_⟩, ?_⟩
              · rw [List.length_append, List.length_take, List.length_drop]
                omega
              · rcases List.mem_append.mp hx with h | h
                · exact w2 x (List.mem_of_mem_take h)
                · exact w2 x (List.mem_of_mem_drop h)
              · rw [lR, List.length_append, List.length_take, List.length_drop]
                omega
            have em2 : det (B.tail.map fun b => b.take j ++ b.drop (j + 1)).length (mL (B.tail.map fun b => b.take j ++ b.drop (j + 1))) = det n (mn 0 j (mL B)) := by
              rw [lR]
              exact det_congr n fun r c _ _ => mL_mn r c
            generalize (B.tail.map fun b => b.take j ++ b.drop (j + 1)) = R at TR em2 lR
            have z1 : SmZ 301 (mL B 0 j) := Nat.lt_of_le_of_lt (hA 0 j) (Nat.pow_lt_pow_right (by decide) (by decide))
            have zs : SmZ 2 (Vd.sg j) := by
              unfold SmZ
              rw [sg_abs]
              decide
            have zd : SmZ 2000 (det n (mn 0 j (mL B))) := by
              have h := det_abs (k := 300) n (mn 0 j (mL B)) (by omega) fun r c => hA _ _
              refine Nat.lt_of_le_of_lt h (Nat.pow_lt_pow_right (by decide) ?_)
              have : n * (300 + 4) ≤ 5 * 304 := Nat.mul_le_mul (by omega) (by omega)
              omega
            refine ⟨.int (S j fj), rfl, .int (Vd.sg j), rfl, .ref a, rfl, a, _, 0, .ref p0, rfl, rfl, (ha.same s36).t, atI_nat (j := 0) (get_map hp0), .int (0 + j), rfl, p0, _, 0 + j, .int (mL B 0 j), rfl, rfl, (R0.same s36).1.t, atI_at ej (get_map gj), _, _, rfl, rfl, mulB (by decide) (by decide) zs z1 (by decide), .ref T2, rfl, T2, R, rfl, TR, by omega, fun H7 s7 => ?_⟩
            rw [em2]
            refine ⟨_, _, rfl, rfl, mulB (by decide) (by decide) (smz_mul zs z1) zd (by decide), _, _, rfl, rfl, rest _ _ ⟨⟨some (.ref T2), y5, ?_⟩, s36.trans s7⟩⟩
            have e : S (j + 1) fj = S j fj + Vd.sg j * mL B 0 j * det n (mn 0 j (mL B)) := by
              show S j fj + fj j = _
              rw [hfj]
            rw [e]
            rfl
          · have z : mL B 0 j = 0 := by
              by_cases z : mL B 0 j = 0
              · exact z
              · refine absurd ?_ h
                rw [decide_eq_false (fun e => z (V.int.inj e))]
                rfl
            refine rest _ _ ⟨⟨y4, y5, ?_⟩, s3⟩
            have e : S (j + 1) fj = S j fj := by
              show S j fj + fj j = S j fj
              rw [hfj]
              show _ + Vd.sg j * mL B 0 j * det n (mn 0 j (mL B)) = _
              rw [z, Int.mul_zero, Int.zero_mul, Int.add_zero]
            rw [e]
            rfl
      · rintro σ H3 ⟨⟨y1, y4, y5, rfl⟩, s3⟩
        refine ⟨.int (S B.length fj), rfl, ?_⟩
        rw [← eD]
        exact q H3 s3
end
end K09
namespace K09
open PySem PySem.Spec PyProof.Rows L2 Vk Vd
abbrev s_lturned : Stmt := topS 19
theorem sc_lturned : FnScope ["table", "j", "row"] ["table"] (defScope s_lturned) := ⟨rfl, rfl, rfl, by decide +kernel, rfl, by decide +kernel, by decide +kernel⟩
abbrev s_ltimes : Stmt := topS 16
theorem sc_ltimes : FnScope ["one", "other", "size", "found", "row", "j", "i"] ["one", "other"] (defScope s_ltimes) := ⟨rfl, rfl, rfl, by decide +kernel, rfl, by decide +kernel, by decide +kernel⟩
theorem dot_comm (xs ys : List Int) : dot xs ys = dot ys xs := by
  unfold dot
  rw [List.zipWith_comm]
  congr 1
  congr 1
  funext a b
  exact Int.mul_comm b a
theorem colsI_at {B : List (List Int)} {n j : Nat} (h : j < n) : (colsI B n)[j]? = some (B.map fun r => r.getD j 0) := by
  unfold colsI
  rw [List.getElem?_map, List.getElem?_range h]
  rfl
def spLturned : Sp := fun vs H Q _ => ∃ (a : Addr) (B : List (List Int)), vs = [.ref a] ∧ TabR H a B B.length ∧ B.length ≤ 9 ∧ ∀ r H', Same H H' → TabR H' r (colsI B B.length) B.length → Q (.ref r) H'
def spLtimes : Sp := fun vs H Q _ => ∃ (c a : Addr) (X B : List (List Int)), vs = [.ref c, .ref a] ∧ TabR H c X B.length ∧ TabR H a B B.length ∧ X.length = B.length ∧ B.length ≤ 9 ∧ (∀ r ∈ X, ∀ x ∈ r, SmZ 110 x) ∧ (∀ r ∈ B, ∀ x ∈ r, SmZ 110 x) ∧ ∀ r H', Same H H' → TabR H' r (mulI X B) B.length → Q (.ref r) H'
theorem mulI_sm {X B : List (List Int)} (hX : ∀ r ∈ X, r.length = B.length ∧ ∀ x ∈ r, SmZ 110 x) (hB : ∀ r ∈ B, ∀ x ∈ r, SmZ 110 x) (h9 : B.length ≤ 9) (hw : ∀ r ∈ B, r.length = B.length) : ∀ r ∈ mulI X B, r.length = B.length ∧ ∀ x ∈ r, SmZ 300 x := fun r hr => by
  unfold mulI at hr
  obtain ⟨x, hx, rfl⟩ := List.mem_map.mp hr
  refine ⟨by rw [List.length_map, colsI_len], fun z hz => ?_⟩
  obtain ⟨c, hc, rfl⟩ := List.mem_map.mp hz
  obtain ⟨j, hj⟩ := List.getElem?_of_mem hc
  have jl := (List.getElem?_eq_some_iff.mp hj).1
  rw [colsI_len] at jl
  obtain rfl := colsI_get hj
  refine smz_mono (dot_sm (k := 110) (j := 110) (fun y hy => ?_) (hX x hx).2) ?_
  · obtain ⟨b, hb, rfl⟩ := List.mem_map.mp hy
    exact hB b hb _ (List.mem_of_getElem? (Vk.getD_at (by rw [hw b hb]; exact jl)))
  · rw [List.length_map]
    omega
section
variable {P : Program} {w : World} {K : PySem.W.Frag} {mg : Str → Option Value} {base : Heap}
theorem ok_lturned {f : Addr} {fd : FuncData} (F : Fun K "_law_turned_over" "_law_turned_over" s_lturned f fd) (m_tuple : mg "tuple" = none) (m_range : mg "range" = none) (m_len : mg "len" = none) : FnOk P w K mg base CX0 1 f fd ["table"] spLturned := by
  have sc := sc_lturned
  refine F.ok sc (fun vs H Q E h => ?_) (fun cdv A outer s H vs Q E hr h => ?_)
  · obtain ⟨a, B, rfl, _⟩ := h
    rfl
  · obtain ⟨a, B, rfl, hT, h9, q⟩ := h
    refine ⟨_, (pss_one (ps_ret (pe_callTy call_tuple_of (by rfl) m_tuple (by decide +kernel) (pa_cons (pe_lc (own := [("j", 1)]) (g := gName 1) (by rfl) sc.nd (pi_range1 rfl m_range (pa_cons (pe_callB call_len_seq (by rfl) m_len (by decide +kernel) (pa_cons (pv 0) pa_nil)) pa_nil)) (blkOk_by (own := [("j", 1)]) (N := ["table", "j", "row"]) (sc := defScope s_lturned) (by decide +kernel)) (fun _ _ _ _ _ => pg_name (i := 1) sc.nd rfl (Or.inr rfl)) (fun _ _ _ _ _ => pts_nil) (fun _ _ _ _ _ => (pe_callTy (call_tuple_ofK (K := K) rfl) (by rfl) m_tuple (by decide +kernel) (pa_cons (pe_lc (own := [("row", 2)]) (g := gName 2) (by rfl) sc.nd (pi_tupK (K := K) rfl (pv 0)) (blkOk_by (own := [("row", 2)]) (N := ["table", "j", "row"]) (sc := { kind := .function, names := [(".0", .local), ("j", .cell), ("tuple", .globalImplicit), ("table", .cell)], isGenerator := false, isCoroutine := false }) (by decide +kernel)) (fun _ _ _ _ _ => pg_name (i := 2) sc.nd rfl (Or.inl rfl)) (fun _ _ _ _ _ => pts_nil) (fun _ _ _ _ _ => (pe_ix (ix_tupK (K := K) rfl) (pv 2) (pv 1) (fun _ _ => rfl)))) pa_nil)))) pa_nil)))), ?_⟩
    have wid := hT.w
    obtain ⟨ps, ha, hR⟩ := hT
    have lp : ps.length = B.length := hR.1
    refine ⟨.ref a, rfl, a, _, rfl, .inr ha.t, ((ps.map V.ref).length : Int), rfl, by omega, by rw [List.length_map]; omega, fun D nD => ?_⟩
    have e0 : ((ps.map V.ref).length : Int).toNat = B.length := by
      rw [List.length_map]
      omega
    rw [e0]
    refine lc_objs (walk_range (lo := 0) (n := B.length)) (fun j => .tup ((B.map fun r => r.getD j 0).map V.int)) (small (by omega)) nD (fun H' s => True.intro) ?_ ?_
    · rintro j x H0 H0' Qy hj s0 ⟨rfl, rfl⟩ hq
      refine ⟨rfl, .ref a, rfl, a, rfl, ⟨_, (ha.same s0).t⟩, fun D2 nD2 => ?_⟩
      refine lc_to (walk_tup (K := K) (a := a) (xs := ps.map V.ref)) ((B.map fun r => r.getD j 0).map V.int) (by rw [List.length_map, List.length_map, List.length_map, lp]) (by rw [List.length_map]; exact small (by omega)) nD2 (fun H' s => ((ha.same s0).same s).t) ?_ ?_
      · rintro i x z H1 H1' Qy hz hi s1 ⟨rfl, hx⟩ hq
        obtain ⟨p, hp, rfl⟩ := map_get hx
        obtain ⟨v, hv, rfl⟩ := map_get hz
        obtain ⟨r, hr', rfl⟩ := map_get hv
        obtain ⟨Rp, lr⟩ := hR.2 i p r hp hr'
        exact ⟨rfl, .ref p, rfl, .int (0 + j), rfl, p, _, 0 + j, .int (r.getD j 0), rfl, rfl, ((Rp.same s0).same s1).1.t, atI_at (i := j) (by omega) (get_map (Vk.getD_at (by omega))), hq _ (Same.refl _)⟩
      · intro H2 s2 d2
        exact ⟨D2, _, rfl, .inl ⟨SqL.of d2, fun T nT => hq T _ (s2.trans (same_new nT)) (s2.free nT) upd_same⟩⟩
    · intro H' qs s1 d l nd fr ob
      refine ⟨D, _, rfl, .inl ⟨SqL.of d, fun T nT => ?_⟩⟩
      have s2 := same_new (o := .tup (qs.map V.ref)) nT
      refine q T _ (s1.trans s2) ⟨qs, upd_same, by rw [colsI_len]; exact l, fun j p z hp hz => ?_⟩
      have ho := ob j p hp
      have hj : j < B.length := by
        have := (List.getElem?_eq_some_iff.mp hp).1
        omega
      obtain rfl := colsI_get hz
      refine ⟨⟨s2 _ _ ho, by rw [List.length_map]; omega, fun x hx => ?_⟩, by rw [List.length_map]⟩
      obtain ⟨r, hr', rfl⟩ := List.mem_map.mp hx
      obtain ⟨w1, w2⟩ := wid r hr'
      exact w2 _ (List.mem_of_getElem? (Vk.getD_at (by omega)))
theorem ok_ltimes {f : Addr} {fd : FuncData} (F : Fun K "_law_times" "_law_times" s_ltimes f fd) (m_tuple : mg "tuple" = none) (m_range : mg "range" = none) (m_len : mg "len" = none) (m_sum : mg "sum" = none) : FnOk P w K mg base CX0 1 f fd ["one", "other"] spLtimes := by
  have sc := sc_ltimes
  refine F.ok sc (fun vs H Q E h => ?_) (fun cdv A outer s H vs Q E hr h => ?_)
  · obtain ⟨c, a, X, B, rfl, _⟩ := h
    rfl
  · obtain ⟨c, a, X, B, rfl, hX, hB, lX, h9, zX, zB, q⟩ := h
    refine ⟨_, (pss_cons (ps_set (i := 2) sc.nd rfl (Or.inr rfl) (pe_callB call_len_seq (by rfl) m_len (by decide +kernel) (pa_cons (pv 0) pa_nil)))
    (pss_cons (ps_set (i := 3) sc.nd rfl (Or.inl rfl) (pe_lst pa_nil))
    (pss_cons (ps_for PassesOwn.never rfl (pi_tup (pv 0)) (pg_name (i := 4) sc.nd rfl (Or.inr rfl))
      (pss_one (ps_expr (pe_bm PySem.F.plainAttrs_list PySem.F.slot_list_append PySem.F.type_list_append mt_append (pv 3) (pa_cons (pe_callTy call_tuple_of (by rfl) m_tuple (by decide +kernel) (pa_cons (pe_lc (own := [("j", 5)]) (g := gName 5) (by rfl) sc.nd (pi_range1 rfl m_range (pa_cons (pv 2) pa_nil)) (blkOk_by (own := [("j", 5)]) (N := ["one", "other", "size", "found", "row", "j", "i"]) (sc := defScope s_ltimes) (by decide +kernel)) (fun _ _ _ _ _ => pg_name (i := 5) sc.nd rfl (Or.inr rfl)) (fun _ _ _ _ _ => pts_nil) (fun _ _ _ _ _ => (pe_callB (cr_sumK (K := K) rfl rfl) (by rfl) m_sum (by decide +kernel) (pa_cons (pe_lc (own := [("i", 6)]) (g := gName 6) (by rfl) sc.nd (pi_range1 rfl m_range (pa_cons (pv 2) pa_nil)) (blkOk_by (own := [("i", 6)]) (N := ["one", "other", "size", "found", "row", "j", "i"]) (sc := { kind := .function, names := [(".0", .local), ("j", .cell), ("sum", .globalImplicit), ("range", .globalImplicit), ("other", .cell), ("row", .cell), ("size", .cell)], isGenerator := false, isCoroutine := false }) (by decide +kernel)) (fun _ _ _ _ _ => pg_name (i := 6) sc.nd rfl (Or.inl rfl)) (fun _ _ _ _ _ => pts_nil) (fun _ _ _ _ _ => (pe_op op_mulW (pe_ix (ix_tupK (K := K) rfl) (pv 4) (pv 6) (fun _ _ => rfl)) (pe_ix (ix_tupK (K := K) rfl) (pe_ix (ix_tupK (K := K) rfl) (pv 1) (pv 6) (fun _ _ => rfl)) (pv 5) (fun _ _ => rfl))))) pa_nil)))) pa_nil)) pa_nil)))))
    (pss_one (ps_ret (pe_callTy call_tuple_of (by rfl) m_tuple (by decide +kernel) (pa_cons (pv 3) pa_nil))))))), ?_⟩
    have wX := hX.w
    have wB := hB.w
    obtain ⟨xs, hX, RX⟩ := hX
    obtain ⟨ps, hB, RB⟩ := hB
    have lxs : (xs.map V.ref).length = B.length := by rw [List.length_map, RX.1, lX]
    refine ⟨.ref c, rfl, c, _, rfl, .inr hX.t, ?_⟩
    rw [lxs]
    refine ⟨by show 0 ≤ sizeLine; decide, fun R nR => ?_⟩
    have s1 : Same H (upd H R (.lst [])) := same_new nR
    have g1 : upd H R (.lst []) R = some (.lst (([] : List Addr).map V.ref)) := upd_same
    generalize upd H R (.lst []) = H1 at s1 g1 ⊢
    have msm := mulI_sm (X := X) (B := B) (fun r hr => ⟨(wX r hr).1, zX r hr⟩) zB h9 fun r hr => (wB r hr).1
    have lM : (mulI X B).length = B.length := by
      unfold mulI
      rw [List.length_map, lX]
    refine ⟨.ref c, rfl, c, rfl, ⟨_, (hX.same s1).t⟩, ?_⟩
    refine for_it (walk_tup (K := K) (a := c) (xs := xs.map V.ref)) (fun j σ H' => ∃ qs, (∃ y4 y5 y6, σ = [some (.ref c), some (.ref a), some (.int B.length), some (.ref R), y4, y5, y6]) ∧ Same H H' ∧ H' R = some (.lst ((qs : List Addr).map V.ref)) ∧ Rw H' qs ((mulI X B).take j)) ⟨[], ⟨none, none, none, rfl⟩, s1, g1, rfl, fun i p r e1 e2 => by cases e1⟩ (fun j σ H' _ p => by obtain ⟨_, _, s, _⟩ := p; exact (hX.same s).t) ?_ ?_
    · rintro j x σ H2 H2' hj ⟨qs, ⟨y4, y5, y6, rfl⟩, s2, g2, W2⟩ ⟨rfl, hx⟩
      obtain ⟨p, hp, rfl⟩ := map_get hx
      rw [lxs] at hj
      have hr0 : X[j]? = some (X[j]'(by omega)) := List.getElem?_eq_getElem _
      generalize X[j]'(by omega) = xr at hr0
      obtain ⟨Rp, lr⟩ := RX.2 j p xr hp hr0
      have hm : (mulI X B)[j]? = some ((colsI B B.length).map fun b => dot b xr) := by
        unfold mulI
        rw [List.getElem?_map, hr0]
        rfl
      refine ⟨.ref R, rfl, .inl ⟨rfl, _, SqL.of g2⟩, .int B.length, rfl, (B.length : Int), rfl, by omega, by omega, fun D nD => ?_⟩
      rw [Int.toNat_natCast]
      refine lc_to (walk_range (lo := 0) (n := B.length)) (((colsI B B.length).map fun b => dot b xr).map V.int) (by rw [List.length_map, List.length_map, colsI_len]) (small (by omega)) nD (fun H' s => True.intro) ?_ ?_
      · rintro i x z H3 H3' Qy hz hi s3 ⟨rfl, rfl⟩ hq
        obtain ⟨v, hv, rfl⟩ := map_get hz
        obtain ⟨b, hb, rfl⟩ := map_get hv
        obtain rfl := colsI_get hb
        have ei : (0 + (i : Int)) = ((i : Nat) : Int) := by omega
        refine ⟨rfl, .int B.length, rfl, (B.length : Int), rfl, by omega, by omega, fun D2 nD2 => ?_⟩
        rw [Int.toNat_natCast]
        refine lc_to (walk_range (lo := 0) (n := B.length)) ((List.zipWith (· * ·) xr (B.map fun r => r.getD i 0)).map V.int) (by rw [List.length_map, List.length_zipWith, List.length_map]; omega) (small (by omega)) nD2 (fun H' s => True.intro) ?_ ?_
        · rintro k x u H4 H4' Qy hu hk s4 ⟨rfl, rfl⟩ hq
          obtain ⟨v, hv, rfl⟩ := map_get hu
          obtain ⟨a1, b1, ha1, hb1, rfl⟩ := zipW_get hv
          obtain ⟨br, hbr, rfl⟩ := map_get hb1
          have ek : (0 + (k : Int)) = ((k : Nat) : Int) := by omega
          have hpk : ps[k]? = some (ps[k]'(by rw [RB.1]; exact hk)) := List.getElem?_eq_getElem _
          obtain ⟨Rk, lk⟩ := RB.2 k _ br hpk hbr
          have s04 := (s2.trans s3).trans s4
          have gb := Vk.getD_at (xs := br) (i := i) (by omega)
          exact ⟨rfl, .ref p, rfl, .int (0 + k), rfl, p, _, 0 + k, .int a1, rfl, rfl, (Rp.same s04).1.t, atI_at ek (get_map ha1), .ref a, rfl, .int (0 + k), rfl, a, _, 0 + k, .ref (ps[k]'(by rw [RB.1]; exact hk)), rfl, rfl, (hB.same s04).t, atI_at ek (get_map hpk), .int (0 + i), rfl, _, _, 0 + i, .int (br.getD i 0), rfl, rfl, (Rk.same s04).1.t, atI_at ei (get_map gb), a1, br.getD i 0, rfl, rfl, mulB (by decide) (by decide) (Rp.2.2 _ (List.mem_of_getElem? ha1)) (Rk.2.2 _ (List.mem_of_getElem? gb)) (by decide), hq _ (Same.refl _)⟩
        · intro H4 s4 d4
          refine ⟨D2, List.zipWith (· * ·) xr (B.map fun r => r.getD i 0), rfl, SqL.of d4, ?_⟩
          have e : (List.zipWith (· * ·) xr (B.map fun r => r.getD i 0)).sum = dot (B.map fun r => r.getD i 0) xr := dot_comm xr _
          rw [e]
          exact hq H4 s4
      intro H3 s3 d3
      refine ⟨D, _, rfl, .inl ⟨SqL.of d3, fun T nT => ?_⟩⟩
      have s4 : Same H3 (upd H3 T (.tup (((colsI B B.length).map fun b => dot b xr).map V.int))) := same_new nT
      have g4 : Tp (upd H3 T (.tup (((colsI B B.length).map fun b => dot b xr).map V.int))) T (((colsI B B.length).map fun b => dot b xr).map V.int) := upd_same
      generalize upd H3 T (.tup (((colsI B B.length).map fun b => dot b xr).map V.int)) = H4 at s4 g4 ⊢
      have s34 := s3.trans s4
      have gR := s34 _ _ g2
      have lq : qs.length = j := by
        rw [W2.1, List.length_take, lM]
        omega
      refine ⟨R, _, _, rfl, rfl, gR, by rw [List.length_map, lq]; exact small (by omega), qs ++ [T], ⟨_, _, _, rfl⟩, same_put (s2.trans s34) nR, by rw [upd_same, List.map_append]; rfl, ?_⟩
      rw [List.take_add_one, hm]
      exact ((W2.same s34).snoc g4).put gR
    · rintro σ H2 ⟨qs, ⟨y4, y5, y6, rfl⟩, s2, g2, W2⟩
      rw [lxs, ← lM, List.take_length] at W2
      refine ⟨.ref R, rfl, R, _, rfl, .inl ⟨SqL.of g2, fun T nT => ?_⟩⟩
      have s3 := same_new (o := .tup (qs.map V.ref)) nT
      refine q T _ (s2.trans s3) ⟨qs, upd_same, W2.1, fun i p r e1 e2 => ?_⟩
      obtain ⟨w1, w2⟩ := msm r (List.mem_of_getElem? e2)
      exact ⟨⟨(W2.2 i p r e1 e2).same s3, by omega, w2⟩, w1⟩
end
end K09
namespace K09
open PySem PySem.Spec PyProof.Rows L2 Vk Vd
abbrev s_table : Stmt := topS 18
theorem sc_table : FnScope ["m", "size_so", "i", "word", "rows", "row", "j", "x"] ["m", "size_so"] (defScope s_table) := ⟨rfl, rfl, rfl, by decide +kernel, rfl, by decide +kernel, by decide +kernel⟩
theorem lc_drW {J : It} {n w : Nat} {G : Hp → Prop} {Y : Nat → Hp → V → Hp → Prop} (wk : Walk J n G Y) {g : TG} {te : TE} {vs : List Nat} {σ : L2.St} {H1 : Hp} {D : Addr} {Qd : Hp → Prop} {m c : Addr} {q : Nat} (R : Nat → Int → Prop) (hz : n < sizeLine) (hM : MOk H1 m c q) (nD : H1 D = none)
    (hG : ∀ H, SameBut m H1 H → G H)
    (hs : ∀ (i : Nat) (x : V) (H H' : Hp) (Qy : VK), i < n → SameBut m H1 H → MOk H m c (q + w * i) → Y i H x H' → (∀ H4 v, SameBut m H H4 → MOk H4 m c (q + w * i + w) → R i v → Qy (.int v) H4) → g x (wipe σ vs) H' fun σ2 H2 => wipe σ2 vs = wipe σ vs ∧ te σ2 H2 Qy)
    (hd : ∀ H (xs : List Int), SameBut m H1 H → MOk H m c (q + w * n) → H D = some (.lst (xs.map V.int)) → xs.length = n → (∀ (i : Nat) (x : Int), xs[i]? = some x → R i x) → Qd H) :
    ∃ W : Nat → Nat → Hp → Prop, (∃ m, W 0 m (upd H1 D (.lst []))) ∧ ∀ i m H, W i m H →
      (J.stop i H ∧ Qd H) ∨ (J.go i H ∧ ∃ Nx : Hp → Prop, (∀ H', Nx H' → ∃ m', m' < m ∧ W (i + 1) m' H') ∧ ∀ x H', J.yld i H x H' → g x (wipe σ vs) H' fun σ2 H2 => wipe σ2 vs = wipe σ vs ∧ tYes σ2 H2 fun b H3 =>
        if b = true then te σ2 H3 fun y H4 => ∃ acc, H4 D = some (.lst acc) ∧ acc.length < sizeLine ∧ Nx (upd H4 D (.lst (acc ++ [y]))) else Nx H3) := by
  obtain ⟨kvs, hm⟩ := hM.m_some
  obtain ⟨ys, hc⟩ := hM.c_some
  have dm : D ≠ m := Ne.symm (ne_of_none hm nD)
  have dc : D ≠ c := Ne.symm (ne_of_none hc nD)
  refine lc_it wk (tt := tYes) (fun i H => ∃ xs : List Int, SameBut m H1 H ∧ MOk H m c (q + w * i) ∧ H D = some (.lst (xs.map V.int)) ∧ xs.length = i ∧ ∀ (j : Nat) (x : Int), xs[j]? = some x → R j x) ⟨[], SameBut.of (same_new nD), hM.put dm dc, upd_same, rfl, fun j x hx => by cases hx⟩ (fun i H _ p => by obtain ⟨_, s, _⟩ := p; exact hG H s) ?_ ?_
  · rintro i x H H' hi ⟨xs, sb, M, d, l, bd⟩ hY
    refine hs i x H H' (fun y H4 => ∃ acc, H4 D = some (.lst acc) ∧ acc.length < sizeLine ∧ ∃ xs : List Int, SameBut m H1 (upd H4 D (.lst (acc ++ [y]))) ∧ MOk (upd H4 D (.lst (acc ++ [y]))) m c (q + w * (i + 1)) ∧ upd H4 D (.lst (acc ++ [y])) D = some (.lst (xs.map V.int)) ∧ xs.length = i + 1 ∧ ∀ (j : Nat) (x : Int), xs[j]? = some x → R j x) hi sb M hY fun H4 v b4 M4 v0 => ?_
    refine ⟨xs.map V.int, b4 _ _ dm d, by rw [List.length_map]; omega, xs ++ [v], sb_put nD (sb.trans b4), (M4.put dm dc).mono (by rw [Nat.mul_succ]; omega), ?_, by rw [List.length_append, l]; rfl, fun j x hx => ?_⟩
    · rw [upd_same, List.map_append]
      rfl
    · by_cases hj : j < xs.length
      · rw [List.getElem?_append_left hj] at hx
        exact bd j x hx
      · have hj2 := (List.getElem?_eq_some_iff.mp hx).1
        rw [List.length_append] at hj2
        have hj3 : j = xs.length := by
          simp only [List.length_cons, List.length_nil] at hj2
          omega
        subst hj3
        rw [List.getElem?_append_right (Nat.le_refl _), Nat.sub_self] at hx
        obtain rfl := Option.some.inj hx
        rw [l]
        exact v0
  · rintro H ⟨xs, sb, M, d, l, bd⟩
    exact hd H xs sb M d l bd
/-- rows of n small numbers -/
def RwS (H : Hp) (ps : List Addr) (B : List (List Int)) (n : Nat) : Prop := Rws H ps B n ∧ ∀ r ∈ B, ∀ x ∈ r, SmZ 110 x
theorem ix_of {n : Nat} {k : Int} {j : Nat} (h : k = j) (l : j < n) : ixN n k = some j := by
  unfold ixN
  rw [if_pos (by omega), if_pos (by omega), h, Int.toNat_natCast]
theorem rws_put {H : Hp} {D : Addr} {l : List V} {o : HO} {ps : List Addr} {B : List (List Int)} {n : Nat} (h : Rws H ps B n) (d : H D = some (.lst l)) : Rws (upd H D o) ps B n := ⟨h.1, fun i p r e1 e2 => ⟨⟨tp_put (h.2 i p r e1 e2).1.1 d, (h.2 i p r e1 e2).1.2⟩, (h.2 i p r e1 e2).2⟩⟩
theorem rwS_set0 {H : Hp} {p : Addr} {ps : List Addr} {B : List (List Int)} {n : Nat} {r : List Int} (h : RwS H ps B n) (hp : Row H p r) (lr : r.length = n) (zr : ∀ x ∈ r, SmZ 110 x) (j : Nat) : RwS H (ps.set j p) (B.set j r) n := by
  refine ⟨⟨by rw [List.length_set, List.length_set]; exact h.1.1, fun i q x e1 e2 => ?_⟩, fun x hx => ?_⟩
  · by_cases e : j = i
    · subst e
      have il : j < ps.length := by
        have := (List.getElem?_eq_some_iff.mp e1).1
        rwa [List.length_set] at this
      rw [List.getElem?_set_self il] at e1
      rw [List.getElem?_set_self (by rw [← h.1.1]; exact il)] at e2
      obtain rfl := Option.some.inj e1
      obtain rfl := Option.some.inj e2
      exact ⟨hp, lr⟩
    · rw [List.getElem?_set_ne e] at e1 e2
      exact h.1.2 i q x e1 e2
  · rcases List.mem_or_eq_of_mem_set hx with m | rfl
    · exact h.2 x m
    · exact zr
theorem RwS.same {H H' : Hp} {ps : List Addr} {B : List (List Int)} {n : Nat} (h : RwS H ps B n) (s : Same H H') : RwS H' ps B n := ⟨h.1.same s, h.2⟩
theorem rwS_set {H : Hp} {D p : Addr} {l : List V} {o : HO} {ps : List Addr} {B : List (List Int)} {n : Nat} {r : List Int} (h : RwS H ps B n) (d : H D = some (.lst l)) (hp : Row H p r) (lr : r.length = n) (zr : ∀ x ∈ r, SmZ 110 x) (j : Nat) : RwS (upd H D o) (ps.set j p) (B.set j r) n := ⟨rws_put (rwS_set0 h hp lr zr j).1 d, (rwS_set0 h hp lr zr j).2⟩
theorem RwS.put {H : Hp} {D : Addr} {l : List V} {o : HO} {ps : List Addr} {B : List (List Int)} {n : Nat} (h : RwS H ps B n) (d : H D = some (.lst l)) : RwS (upd H D o) ps B n := ⟨rws_put h.1 d, h.2⟩
theorem c_ne {H : Hp} {m c R : Addr} {n : Nat} {ps : List Addr} (M : MOk H m c n) (g : H R = some (.lst (ps.map V.ref))) : R ≠ c := by
  obtain ⟨L, sd, sp, cells, h1, h2, h3, _⟩ := M
  rintro rfl
  rw [h2] at g
  have e := HO.lst.inj (Option.some.inj g)
  cases cells with
  | nil => cases h3
  | cons x l =>
    cases ps with
    | nil => cases e
    | cons y l' =>
      have := (List.cons.inj e).1
      cases this
def spTable : Sp := fun vs H Q _ => ∃ (m c : Addr) (q n : Nat), vs = [.ref m, .int n] ∧ MOk H m c q ∧ q ≤ 4000 ∧ n ≤ 5 ∧ ∀ H' r B, SameBut m H H' → MOk H' m c (q + 80) → TabR H' r B n → B.length = n → (∀ r ∈ B, ∀ x ∈ r, SmZ 110 x) → Q (.ref r) H'
section
variable {P : Program} {w : World} {K : PySem.W.Frag} {mg : Str → Option Value} {base : Heap}
theorem ok_table {f : Addr} {fd : FuncData} (F : Fun K "_law_table" "_law_table" s_table f fd) (C__law_draw : Cal P w K mg base 1 "_law_draw" ["m", "bound"] spDraw) (C__law_signed : Cal P w K mg base 2 "_law_signed" ["m", "most"] spSigned) (m_tuple : mg "tuple" = none) (m_range : mg "range" = none) : FnOk P w K mg base CX0 3 f fd ["m", "size_so"] spTable := by
  have sc := sc_table
  refine F.ok sc (fun vs H Q E h => ?_) (fun cdv A outer s H vs Q E hr h => ?_)
  · obtain ⟨m, c, q, n, rfl, _⟩ := h
    rfl
  · obtain ⟨m, c, q, n, rfl, hM, hq, hn, k⟩ := h
    refine ⟨_, (pss_cons (ps_par (i := 3) (j := 4) (by rfl) sc.nd rfl rfl (by decide) rfl rfl (pa_cons (call_ C__law_draw (hr.mono (by decide)) (by rfl) (pa_cons (pv 0) (pa_cons pe_int pa_nil))) (pa_cons (pe_lst pa_nil) pa_nil)) (by rfl))
    (pss_cons (ps_for PassesOwn.never rfl (pi_range1 rfl m_range (pa_cons (pv 1) pa_nil)) (pg_name (i := 2) sc.nd rfl (Or.inr rfl))
      (pss_cons (ps_set (i := 5) sc.nd rfl (Or.inr rfl) (pe_lc (own := [("j", 6)]) (g := gName 6) (by rfl) sc.nd (pi_range1 rfl m_range (pa_cons (pv 1) pa_nil)) (blkOk_by (own := [("j", 6)]) (N := ["m", "size_so", "i", "word", "rows", "row", "j", "x"]) (sc := defScope s_table) (by decide +kernel)) (fun _ _ _ _ _ => pg_name (i := 6) sc.nd rfl (Or.inl rfl)) (fun _ _ _ _ _ => pts_nil) (fun _ _ _ _ _ => (call_ C__law_signed (hr.mono (by decide)) (by rfl) (pa_cons (pv 0) (pa_cons pe_int pa_nil))))))
    (pss_cons (ps_if (pt_cmpR op_eq (pv 3) pe_int (nomark _))
      (pss_one (ps_set (i := 5) sc.nd rfl (Or.inr rfl) (pe_lc (own := [("x", 7)]) (g := gName 7) (by rfl) sc.nd (pi_list (pv 5)) (blkOk_by (own := [("x", 7)]) (N := ["m", "size_so", "i", "word", "rows", "row", "j", "x"]) (sc := defScope s_table) (by decide +kernel)) (fun _ _ _ _ _ => pg_name (i := 7) sc.nd rfl (Or.inl rfl)) (fun _ _ _ _ _ => pts_nil) (fun _ _ _ _ _ => (pe_op op_add (pe_op op_mulW (pv 7) (pe_op op_pow pe_int pe_int)) (call_ C__law_draw (hr.mono (by decide)) (by rfl) (pa_cons (pv 0) (pa_cons (pe_op op_pow pe_int pe_int) pa_nil))))))))
      pss_nil)
    (pss_cons (ps_if (pt_cmpR op_eq (pv 3) pe_int (nomark _))
      (pss_one (ps_set (i := 5) sc.nd rfl (Or.inr rfl) (pe_lc (own := [("j", 6)]) (g := gName 6) (by rfl) sc.nd (pi_range1 rfl m_range (pa_cons (pv 1) pa_nil)) (blkOk_by (own := [("j", 6)]) (N := ["m", "size_so", "i", "word", "rows", "row", "j", "x"]) (sc := defScope s_table) (by decide +kernel)) (fun _ _ _ _ _ => pg_name (i := 6) sc.nd rfl (Or.inl rfl)) (fun _ _ _ _ _ => pts_nil) (fun _ _ _ _ _ => (pe_ifExp (pt_cmpR op_le (pv 6) (pv 2) (nomark _)) (pe_ix (ix_listK (K := K) rfl) (pv 5) (pv 6) (fun _ _ => rfl)) pe_int)))))
      pss_nil)
    (pss_one (ps_expr (pe_bm PySem.F.plainAttrs_list PySem.F.slot_list_append PySem.F.type_list_append mt_append (pv 4) (pa_cons (pe_callTy call_tuple_of (by rfl) m_tuple (by decide +kernel) (pa_cons (pv 5) pa_nil)) pa_nil))))))))
    (pss_cons (ps_if (PW.pt (pw_and (pt_cmpR op_eq (pv 3) pe_int (nomark _)) (pw_and1 (pt_cmpR op_gt (pv 1) pe_int (nomark _)))))
      (pss_one (ps_asg (pe_ix ix_list (pv 4) pe_int (fun _ _ => rfl)) (pg_sub (pv 4) (pe_op op_sub (pv 1) pe_int) set_list)))
      pss_nil)
    (pss_cons (ps_if (PW.pt (pw_and (pt_cmpR op_eq (pv 3) pe_int (nomark _)) (pw_and1 (pt_cmpR op_gt (pv 1) pe_int (nomark _)))))
      (pss_one (ps_asg (pe_op (op_tmsK (K := K) rfl) (pe_tup (pa_cons pe_int pa_nil)) (pv 1)) (pg_sub (pv 4) (call_ C__law_draw (hr.mono (by decide)) (by rfl) (pa_cons (pv 0) (pa_cons (pv 1) pa_nil))) set_list)))
      pss_nil)
    (pss_one (ps_ret (pe_callTy call_tuple_of (by rfl) m_tuple (by decide +kernel) (pa_cons (pv 4) pa_nil)))))))), ?_⟩
    refine ⟨.ref m, rfl, m, c, q, 7, rfl, hM, by omega, by decide, by decide, fun H1 wv b1 M1 w0 w1 => ?_⟩
    refine ⟨by show 0 ≤ sizeLine; decide, fun R nR => ?_⟩
    obtain ⟨kv1, hm1⟩ := M1.m_some
    obtain ⟨ys1, hc1⟩ := M1.c_some
    have rm : R ≠ m := Ne.symm (ne_of_none hm1 nR)
    have rc : R ≠ c := Ne.symm (ne_of_none hc1 nR)
    have nR0 : H R = none := by
      cases h : H R with
      | none => rfl
      | some o => exact absurd (b1 R o rm h) (by rw [nR]; intro z; cases z)
    have s2 : Same H1 (upd H1 R (.lst [])) := same_new nR
    have g2 : upd H1 R (.lst []) R = some (.lst (([] : List Addr).map V.ref)) := upd_same
    generalize upd H1 R (.lst []) = H2 at s2 g2 ⊢
    refine ⟨_, _, rfl, ?_⟩
    refine ⟨.int n, rfl, (n : Int), rfl, by omega, by omega, ?_⟩
    rw [Int.toNat_natCast]
    refine for_range (lo := 0) (n := n) (fun i σ H' => ∃ ps B, (∃ y2 y5 y6 y7, σ = [some (.ref m), some (.int n), y2, some (.int wv), some (.ref R), y5, y6, y7]) ∧ SameBut m H H' ∧ MOk H' m c (q + 1 + 15 * i) ∧ H' R = some (.lst ((ps : List Addr).map V.ref)) ∧ RwS H' ps B n ∧ ps.length = i) ⟨[], [], ⟨none, none, none, none, rfl⟩, b1.trans (SameBut.of s2), M1.same s2, g2, ⟨⟨rfl, fun i p r e1 e2 => by cases e1⟩, fun r hr => by cases hr⟩, rfl⟩ ?_ ?_
    · rintro i σ H3 hi ⟨ps, B, ⟨y2, y5, y6, y7, rfl⟩, b3, M3, g3, W3, l3⟩
      refine ⟨.int n, rfl, (n : Int), rfl, by omega, by omega, fun D nD => ?_⟩
      rw [Int.toNat_natCast]
      obtain ⟨kv3, hm3⟩ := M3.m_some
      refine lc_dr (w := 2) (q := q + 1 + 15 * i) (m := m) (c := c) (fun _ x => -9 ≤ x ∧ x ≤ 9) (small (by omega)) M3 nD ?_ ?_
      · intro j H4 Qy hj _ M' hQ
        exact ⟨rfl, .ref m, rfl, m, c, q + 1 + 15 * i + 2 * j, 9, rfl, M', by omega, by decide, by decide, fun H5 v b5 M5 v0 v1 => hQ H5 _ b5 M5 ⟨v0, v1⟩⟩
      intro H4 xs b4 M4 d4 l4 bd
      have bd := all_of_get bd
      have nDR : D ≠ R := Ne.symm (ne_of_none g3 nD)
      have nDm : D ≠ m := Ne.symm (ne_of_none hm3 nD)
      have g4 := b4 _ _ rm g3
      have W4 : RwS H4 ps B n := ⟨W3.1.but hm3 b4, W3.2⟩
      have b34 := b3.trans b4
      have z9 : ∀ x ∈ xs, SmZ 5 x := fun x hx => by
        have := bd x hx
        exact Nat.lt_of_le_of_lt (show x.natAbs ≤ 9 by omega) (by decide)
      refine gname_ ?_
      dsimp only
      refine seq_ ?_
      refine tifs_rest (fun σ' H' => ∃ Lr zs y6 y7, σ' = [some (.ref m), some (.int n), some (.int (0 + i)), some (.int wv), some (.ref R), some (.ref Lr), y6, y7] ∧ SameBut m H H' ∧ MOk H' m c (q + 1 + 15 * i + 15) ∧ H' R = some (.lst (ps.map V.ref)) ∧ RwS H' ps B n ∧ H' Lr = some (.lst ((zs : List Int).map V.int)) ∧ zs.length = n ∧ (∀ x ∈ zs, SmZ 110 x) ∧ Lr ≠ m) ?_ ?_
      rotate_left
      · intro rest
        refine ⟨.int wv, rfl, rfl, _, rfl, ite2 (fun h => ?_) (fun h => rest _ _ ⟨D, xs, y6, y7, rfl, b34, M4.mono (by omega), g4, W4, d4, l4, fun x hx => smz_mono (z9 x hx) (by decide), nDm⟩)⟩
        refine ⟨.ref D, rfl, D, rfl, ⟨_, SqL.of d4⟩, fun D2 nD2 => ?_⟩
        obtain ⟨kv4, hm4⟩ := M4.m_some
        have nm2 : D2 ≠ m := Ne.symm (ne_of_none hm4 nD2)
        refine lc_drW (walk_list (K := K) (a := D) (xs := xs.map V.int)) (w := 1) (q := q + 1 + 15 * i + 2 * n) (m := m) (c := c) (fun _ x => SmZ 110 x) (by rw [List.length_map]; exact small (by omega)) M4 nD2 (fun H' b => SqL.of (b _ _ nDm d4)) ?_ ?_
        · rintro j x H5 H5' Qy hj b5 M5 ⟨rfl, hx⟩ hQ
          obtain ⟨v, hv, rfl⟩ := map_get hx
          have zv := z9 v (List.mem_of_getElem? hv)
          have zp : SmZ 100 ((10 : Int) ^ (29 : Int).toNat) := by decide
          rw [List.length_map] at hj
          refine ⟨rfl, .int v, rfl, 10, 29, rfl, rfl, ⟨by decide, by decide, by decide⟩, v, _, rfl, rfl, mulB (by decide) (by decide) zv zp (by decide), .ref m, rfl, 10, 9, rfl, rfl, ⟨by decide, by decide, by decide⟩, m, c, q + 1 + 15 * i + 2 * n + 1 * j, _, rfl, M5, by omega, by decide, by decide, fun H6 u b6 M6 u0 u1 => ⟨_, _, rfl, rfl, hQ H6 _ b6 M6 ?_⟩⟩
          have zu : SmZ 105 u := by
            have e : (10 : Int) ^ (9 : Int).toNat = 1000000000 := by decide
            rw [e] at u1
            exact Nat.lt_of_le_of_lt (show u.natAbs ≤ 1000000000 by omega) (by decide)
          exact smz_mono (smz_add (smz_mul zv zp) zu) (by decide)
        · intro H5 zs b5 M5 d5 l5 bd5
          rw [List.length_map] at l5 M5
          refine rest _ _ ⟨D2, zs, y6, y7, rfl, b34.trans b5, M5.mono (by omega), b5 _ _ rm g4, ⟨W4.1.but hm4 b5, W4.2⟩, d5, by omega, all_of_get bd5, nm2⟩
      · rintro σ' H5 ⟨Lr, zs, y6', y7', rfl, b5, M5, g5, W5, d5, l5, z5, nm5⟩
        dsimp only
        refine seq_ ?_
        refine tifs_rest (fun σ' H' => ∃ Lr zs y6 y7, σ' = [some (.ref m), some (.int n), some (.int (0 + i)), some (.int wv), some (.ref R), some (.ref Lr), y6, y7] ∧ SameBut m H H' ∧ MOk H' m c (q + 1 + 15 * i + 15) ∧ H' R = some (.lst (ps.map V.ref)) ∧ RwS H' ps B n ∧ H' Lr = some (.lst ((zs : List Int).map V.int)) ∧ zs.length = n ∧ (∀ x ∈ zs, SmZ 110 x) ∧ Lr ≠ m) ?_ ?_
        rotate_left
        · intro rest
          refine ⟨.int wv, rfl, rfl, _, rfl, ite2 (fun h => ?_) (fun h => rest _ _ ⟨Lr, zs, y6', y7', rfl, b5, M5, g5, W5, d5, l5, z5, nm5⟩)⟩
          refine ⟨.int n, rfl, (n : Int), rfl, by omega, by omega, fun D2 nD2 => ?_⟩
          rw [Int.toNat_natCast]
          obtain ⟨kv5, hm5⟩ := M5.m_some
          obtain ⟨ys5, hc5⟩ := M5.c_some
          have nm2 : D2 ≠ m := Ne.symm (ne_of_none hm5 nD2)
          refine lc_to (walk_range (lo := 0) (n := n)) (((List.range n).map fun j => if j ≤ i then zs.getD j 0 else 0).map V.int) (by rw [List.length_map, List.length_map, List.length_range]) (small (by omega)) nD2 (fun H' s => True.intro) ?_ ?_
          · rintro j x u H6 H6' Qy hu hj s6 ⟨rfl, rfl⟩ hq
            obtain ⟨v, hv, rfl⟩ := map_get hu
            rw [List.getElem?_map, List.getElem?_range hj] at hv
            have ev : v = if j ≤ i then zs.getD j 0 else 0 := (Option.some.inj hv).symm
            have ej : (0 + (j : Int)) = ((j : Nat) : Int) := by omega
            refine ⟨rfl, .int (0 + j), rfl, .int (0 + i), rfl, 0 + j, 0 + i, rfl, rfl, _, rfl, ite2 (fun h => ?_) (fun h => ?_)⟩
            · have h := of_decide_eq_true h
              rw [if_pos (by omega)] at ev
              refine ⟨.ref Lr, rfl, .int (0 + j), rfl, Lr, _, 0 + j, .int (zs.getD j 0), rfl, rfl, SqL.of (s6 _ _ d5), atI_at ej (get_map (Vk.getD_at (by omega))), ?_⟩
              rw [← ev]
              exact hq _ (Same.refl _)
            · have h : ¬ (0 + (j : Int) ≤ 0 + i) := fun z => h (decide_eq_true z)
              rw [if_neg (by omega)] at ev
              rw [ev] at hq
              exact hq _ (Same.refl _)
          · intro H6 s6 d6
            refine rest _ _ ⟨D2, _, y6', y7', rfl, b5.trans (SameBut.of s6), M5.same s6, s6 _ _ g5, ⟨W5.1.same s6, W5.2⟩, d6, by rw [List.length_map, List.length_range], fun x hx => ?_, nm2⟩
            obtain ⟨j, hj, rfl⟩ := List.mem_map.mp hx
            split
            · exact z5 _ (List.mem_of_getElem? (Vk.getD_at (by have := List.mem_range.mp hj; omega)))
            · decide
        · rintro σ' H6 ⟨Lr, zs, y6', y7', rfl, b6, M6, g6, W6, d6, l6, z6, nm6⟩
          refine ⟨.ref R, rfl, .inl ⟨rfl, _, SqL.of g6⟩, .ref Lr, rfl, Lr, _, rfl, .inl ⟨SqL.of d6, fun T nT => ?_⟩⟩
          have s7 : Same H6 (upd H6 T (.tup (zs.map V.int))) := same_new nT
          have g7 : Tp (upd H6 T (.tup (zs.map V.int))) T (zs.map V.int) := upd_same
          generalize upd H6 T (.tup (zs.map V.int)) = H7 at s7 g7 ⊢
          have gR := s7 _ _ g6
          have W7 := W6.1.same s7
          have lB : B.length = i := by rw [← W6.1.1, l3]
          have Rz : Row H7 T zs := ⟨g7, by omega, fun x hx => smz_mono (z6 x hx) (by decide)⟩
          refine ⟨R, _, _, rfl, rfl, gR, by rw [List.length_map, l3]; exact small (by omega), ps ++ [T], B ++ [zs], ⟨_, _, _, _, rfl⟩, sb_put nR0 (b6.trans (SameBut.of s7)), ((M6.same s7).put rm (c_ne M6 g6)).mono (by omega), by rw [upd_same, List.map_append]; rfl, ⟨rws_put (W7.snoc Rz l6) gR, fun r hr => ?_⟩, by rw [List.length_append, l3]; rfl⟩
          rcases List.mem_append.mp hr with h | h
          · exact W6.2 r h
          · obtain rfl := List.mem_singleton.mp h
            exact z6
    · rintro σ H3 ⟨ps, B, ⟨y2, y5, y6, y7, rfl⟩, b3, M3, g3, W3, l3⟩
      dsimp only
      refine seq_ ?_
      refine tifs_rest (fun σ' H' => ∃ ps B y2 y5 y6 y7, σ' = [some (.ref m), some (.int n), y2, some (.int wv), some (.ref R), y5, y6, y7] ∧ SameBut m H H' ∧ MOk H' m c (q + 79) ∧ H' R = some (.lst ((ps : List Addr).map V.ref)) ∧ RwS H' ps B n ∧ ps.length = n) ?_ ?_
      rotate_left
      · intro rest
        have base : ∀ y2 y5 y6 y7, ∃ ps' B' y2' y5' y6' y7', [some (V.ref m), some (V.int n), y2, some (V.int wv), some (V.ref R), y5, y6, y7] = [some (V.ref m), some (V.int n), y2', some (V.int wv), some (V.ref R), y5', y6', y7'] ∧ SameBut m H H3 ∧ MOk H3 m c (q + 79) ∧ H3 R = some (.lst ((ps' : List Addr).map V.ref)) ∧ RwS H3 ps' B' n ∧ ps'.length = n := fun y2 y5 y6 y7 => ⟨ps, B, y2, y5, y6, y7, rfl, b3, M3.mono (by omega), g3, W3, l3⟩
        refine ⟨.int wv, rfl, rfl, _, rfl, ite2 (fun h => ?_) (fun h => rest _ _ (base _ _ _ _))⟩
        refine ⟨.int n, rfl, n, 1, rfl, rfl, _, rfl, ite2 (fun h => ?_) (fun h => rest _ _ (base _ _ _ _))⟩
        have h := of_decide_eq_true h
        have hp0 : ps[0]? = some (ps[0]'(by omega)) := List.getElem?_eq_getElem _
        generalize ps[0]'(by omega) = p0 at hp0
        have hb0 : B[0]? = some (B[0]'(by have := W3.1.1; omega)) := List.getElem?_eq_getElem _
        generalize B[0]'(by have := W3.1.1; omega) = b0 at hb0
        obtain ⟨R0, l0⟩ := W3.1.2 0 p0 b0 hp0 hb0
        refine ⟨.ref R, rfl, R, _, 0, .ref p0, rfl, rfl, SqL.of g3, atI_nat (j := 0) (get_map hp0), .ref R, rfl, .int n, rfl, n, 1, rfl, rfl, R, _, (n : Int) - 1, n - 1, rfl, rfl, g3, ix_of (by omega) (by rw [List.length_map]; omega), rest _ _ ⟨ps.set (n - 1) p0, B.set (n - 1) b0, _, _, _, _, rfl, sb_put nR0 b3, (M3.put rm (c_ne M3 g3)).mono (by omega), by rw [upd_same, List.map_set], rwS_set W3 g3 R0 l0 (W3.2 b0 (List.mem_of_getElem? hb0)) _, by rw [List.length_set]; exact l3⟩⟩
      · rintro σ' H4 ⟨ps, B, y2, y5, y6, y7, rfl, b4, M4, g4, W4, l4⟩
        dsimp only
        refine seq_ ?_
        refine tifs_rest (fun σ' H' => ∃ ps B y2 y5 y6 y7, σ' = [some (.ref m), some (.int n), y2, some (.int wv), some (.ref R), y5, y6, y7] ∧ SameBut m H H' ∧ MOk H' m c (q + 80) ∧ H' R = some (.lst ((ps : List Addr).map V.ref)) ∧ RwS H' ps B n ∧ ps.length = n) ?_ ?_
        rotate_left
        · intro rest
          have base : ∀ y2 y5 y6 y7, ∃ ps' B' y2' y5' y6' y7', [some (V.ref m), some (V.int n), y2, some (V.int wv), some (V.ref R), y5, y6, y7] = [some (V.ref m), some (V.int n), y2', some (V.int wv), some (V.ref R), y5', y6', y7'] ∧ SameBut m H H4 ∧ MOk H4 m c (q + 80) ∧ H4 R = some (.lst ((ps' : List Addr).map V.ref)) ∧ RwS H4 ps' B' n ∧ ps'.length = n := fun y2 y5 y6 y7 => ⟨ps, B, y2, y5, y6, y7, rfl, b4, M4.mono (by omega), g4, W4, l4⟩
          refine ⟨.int wv, rfl, rfl, _, rfl, ite2 (fun h => ?_) (fun h => rest _ _ (base _ _ _ _))⟩
          refine ⟨.int n, rfl, n, 0, rfl, rfl, _, rfl, ite2 (fun h => ?_) (fun h => rest _ _ (base _ _ _ _))⟩
          have h := of_decide_eq_true h
          refine ⟨by show 1 ≤ sizeLine; decide, fun Z nZ => ?_⟩
          have sZ : Same H4 (upd H4 Z (.tup [.int 0])) := same_new nZ
          have gZ : Tp (upd H4 Z (.tup [.int 0])) Z [.int 0] := upd_same
          generalize upd H4 Z (.tup [.int 0]) = H5 at sZ gZ ⊢
          refine ⟨.int n, rfl, ?_⟩
          refine tms_tp (k := n) rfl gZ (by simp) (by omega) (by decide) fun zr H6 s6 g6 => ?_
          rw [show (List.replicate n [V.int 0]).flatten = (List.replicate n (0 : Int)).map V.int by simp] at g6
          have s46 := sZ.trans s6
          obtain ⟨kv6, hm6⟩ := (M4.same s46).m_some
          refine ⟨.ref R, rfl, .ref m, rfl, .int n, rfl, m, c, _, n, rfl, M4.same s46, by omega, by omega, Nat.lt_of_le_of_lt (show ((n : Int)).natAbs ≤ 5 by omega) (by decide), fun H7 v b7 M7 v0 v1 => ?_⟩
          have g7 := b7 _ _ rm (s46 _ _ g4)
          have Rz : Row H7 zr (List.replicate n 0) := Row.but ⟨g6, by rw [List.length_replicate]; omega, fun x hx => by obtain ⟨_, rfl⟩ := List.mem_replicate.mp hx; decide⟩ hm6 b7
          have W7 : RwS H7 ps B n := ⟨(W4.1.same s46).but hm6 b7, W4.2⟩
          refine ⟨R, _, v, v.toNat, rfl, rfl, g7, ix_of (by omega) (by rw [List.length_map]; omega), rest _ _ ⟨ps.set v.toNat zr, B.set v.toNat (List.replicate n 0), _, _, _, _, rfl, sb_put nR0 ((b4.trans (SameBut.of s46)).trans b7), (M7.put rm (c_ne M7 g7)).mono (by omega), by rw [upd_same, List.map_set], rwS_set W7 g7 Rz (List.length_replicate ..) (fun x hx => by obtain ⟨_, rfl⟩ := List.mem_replicate.mp hx; decide) _, by rw [List.length_set]; exact l4⟩⟩
        · rintro σ' H5 ⟨ps, B, y2, y5, y6, y7, rfl, b5, M5, g5, W5, l5⟩
          refine ⟨.ref R, rfl, R, _, rfl, .inl ⟨SqL.of g5, fun T nT => ?_⟩⟩
          have s6 := same_new (o := .tup (ps.map V.ref)) nT
          exact k _ T B (b5.trans (SameBut.of s6)) (M5.same s6) ⟨ps, upd_same, W5.1.same s6⟩ (by rw [← W5.1.1, l5]) W5.2
end
end K09
namespace K09
open PySem PySem.Spec PyProof.Rows L2 Vk Vd
abbrev s_moved : Stmt := topS 20
theorem sc_moved : FnScope ["m", "table", "det", "size_so", "i", "scaled", "told", "j", "times", "swapped", "added", "k", "x"] ["m", "table", "det"] (defScope s_moved) := ⟨rfl, rfl, rfl, by decide +kernel, rfl, by decide +kernel, by decide +kernel⟩
theorem mL_smk {k : Nat} {B : List (List Int)} (h : ∀ r ∈ B, ∀ x ∈ r, SmZ k x) (r c : Nat) : (mL B r c).natAbs ≤ 2 ^ k := by
  unfold mL
  by_cases hr : r < B.length
  · have e1 : B[r]? = some (B.getD r []) := by
      rw [List.getD_eq_getElem?_getD, List.getElem?_eq_getElem hr]
      rfl
    by_cases hc : c < (B.getD r []).length
    · exact Nat.le_of_lt (h _ (List.mem_of_getElem? e1) _ (List.mem_of_getElem? (Vk.getD_at hc)))
    · rw [List.getD_eq_getElem?_getD, List.getElem?_eq_none (by omega)]
      exact Nat.zero_le _
  · have : B.getD r [] = [] := by
      rw [List.getD_eq_getElem?_getD, List.getElem?_eq_none (by omega)]
      rfl
    rw [this]
    exact Nat.zero_le _
theorem mL_set {B : List (List Int)} {i : Nat} (hi : i < B.length) (r : List Int) (x c : Nat) : mL (B.set i r) x c = up (mL B) i (fun c => r.getD c 0) x c := by
  unfold mL up
  by_cases e : x = i
  · subst e
    rw [if_pos rfl, List.getD_eq_getElem?_getD (l := B.set x r), List.getElem?_set_self hi]
    rfl
  · rw [if_neg e, List.getD_eq_getElem?_getD (l := B.set i r), List.getElem?_set_ne (Ne.symm e), ← List.getD_eq_getElem?_getD]
theorem det_swap {B : List (List Int)} {i j : Nat} (hi : i < B.length) (hj : j < B.length) (ne : i ≠ j) {bi bj : List Int} (ei : B[i]? = some bi) (ej : B[j]? = some bj) : det B.length (mL ((B.set i bj).set j bi)) = - det B.length (mL B) := by
  have h := alt_det B.length
  have e1 : det B.length (mL ((B.set i bj).set j bi)) = det B.length (up (up (mL B) i (mL B j)) j (mL B i)) := det_congr _ fun x c _ _ => by
    rw [mL_set (by rw [List.length_set]; exact hj)]
    unfold up
    split
    · exact (mL_at ei).symm
    · rw [mL_set hi]
      unfold up
      split
      · exact (mL_at ej).symm
      · rfl
  rw [e1, h.neg _ hi hj ne, up_same, up_same]
theorem det_add {B : List (List Int)} {i j : Nat} (hi : i < B.length) (hj : j < B.length) (ne : i ≠ j) (t : Int) {r : List Int} (hr : ∀ c, c < B.length → r.getD c 0 = mL B i c + t * mL B j c) : det B.length (mL (B.set i r)) = det B.length (mL B) := by
  have h := alt_det B.length
  rw [← h.add (mL B) hi hj ne t]
  refine det_congr _ fun x c _ hc => ?_
  rw [mL_set hi]
  unfold up
  split
  · exact hr c hc
  · rfl
theorem det_scale {B : List (List Int)} {i : Nat} (hi : i < B.length) (t : Int) {r : List Int} (hr : ∀ c, c < B.length → r.getD c 0 = t * mL B i c) : det B.length (mL (B.set i r)) = t * det B.length (mL B) := by
  have h := alt_det B.length
  have e := h.scale (mL B) hi (mL B i) t
  rw [up_same] at e
  rw [← e]
  refine det_congr _ fun x c _ hc => ?_
  rw [mL_set hi]
  unfold up
  split
  · exact hr c hc
  · rfl
theorem rws_set0 {H : Hp} {p : Addr} {ps : List Addr} {B : List (List Int)} {n : Nat} {r : List Int} (h : Rws H ps B n) (hp : Row H p r) (lr : r.length = n) (j : Nat) : Rws H (ps.set j p) (B.set j r) n := by
  refine ⟨by rw [List.length_set, List.length_set]; exact h.1, fun i q x e1 e2 => ?_⟩
  by_cases e : j = i
  · subst e
    have il : j < ps.length := by
      have := (List.getElem?_eq_some_iff.mp e1).1
      rwa [List.length_set] at this
    rw [List.getElem?_set_self il] at e1
    rw [List.getElem?_set_self (by rw [← h.1]; exact il)] at e2
    obtain rfl := Option.some.inj e1
    obtain rfl := Option.some.inj e2
    exact ⟨hp, lr⟩
  · rw [List.getElem?_set_ne e] at e1 e2
    exact h.2 i q x e1 e2
/-- the determinant of a tuple of a list of rows -/
theorem det_call {H : Hp} {Q : VK} {E : XK} {T : Addr} {ps : List Addr} {B : List (List Int)} {n : Nat} {d : Int} (hT : Tp H T (ps.map V.ref)) (h : Rws H ps B n) (l : B.length = n) (h9 : n ≤ 9) (e : det n (mL B) = d) (q : ∀ H', Same H H' → Q (.int d) H') : spDet [.ref T] H Q E := by
  subst l
  refine ⟨T, B, rfl, ⟨ps, hT, h⟩, h9, fun H' s => ?_⟩
  rw [e]
  exact q H' s
def spMoved : Sp := fun vs H Q _ => ∃ (m c a : Addr) (q : Nat) (B : List (List Int)), vs = [.ref m, .ref a, .int (det B.length (mL B))] ∧ MOk H m c q ∧ q ≤ 4500 ∧ TabR H a B B.length ∧ B.length ≤ 5 ∧ (∀ r ∈ B, ∀ x ∈ r, SmZ 110 x) ∧ ∀ H', SameBut m H H' → MOk H' m c (q + 10) → Q (.bl true) H'
section
variable {P : Program} {w : World} {K : PySem.W.Frag} {mg : Str → Option Value} {base : Heap}
theorem ok_moved {f : Addr} {fd : FuncData} (F : Fun K "_law_moved_right" "_law_moved_right" s_moved f fd) (C__law_draw : Cal P w K mg base 1 "_law_draw" ["m", "bound"] spDraw) (C__law_signed : Cal P w K mg base 2 "_law_signed" ["m", "most"] spSigned) (C_determinant : Cal P w K mg base 3 "determinant" ["table"] spDet) (C__law_like : CalG P w K mg base 1 "_law_like" ["got", "due"] (spLike K))
    (m_tuple : mg "tuple" = none) (m_range : mg "range" = none) (m_len : mg "len" = none) (m_list : mg "list" = none) (m_int : mg "int" = none) : FnG P w K mg base 4 f fd ["m", "table", "det"] spMoved := by
  have sc := sc_moved
  refine okG F sc (fun vs H Q E h => ?_) (fun cdv A outer s H vs Q E hG0 hr h => ?_)
  · obtain ⟨m, c, a, q, B, rfl, _⟩ := h
    rfl
  · obtain ⟨m, c, a, q, B, rfl, hM, hq, hT, h5, zB, k⟩ := h
    have hG : Quiet (cxOf CX0 P w K mg base ["m", "table", "det", "size_so", "i", "scaled", "told", "j", "times", "swapped", "added", "k", "x"] "_law_moved_right" (defScope s_moved) f cdv A outer s H E).nox.A := hG0.deeper _
    refine ⟨_, (pss_cons (ps_set (i := 3) sc.nd rfl (Or.inl rfl) (pe_callB call_len_seq (by rfl) m_len (by decide +kernel) (pa_cons (pv 1) pa_nil)))
    (pss_cons (ps_if (pt_cmpR op_lt (pv 3) pe_int (nomark _))
      (pss_one (ps_ret pe_bl))
      pss_nil)
    (pss_cons (ps_set (i := 4) sc.nd rfl (Or.inr rfl) (call_ C__law_draw (hr.mono (by decide)) (by rfl) (pa_cons (pv 0) (pa_cons (pv 3) pa_nil))))
    (pss_cons (ps_asg (pe_tup (pa_cons (pe_op op_modN (pe_callTy call_int1 (by rfl) m_int (by decide +kernel) (pa_cons (pe_op op_add (pe_op op_add (pv 4) pe_int) (call_ C__law_draw (hr.mono (by decide)) (by rfl) (pa_cons (pv 0) (pa_cons (pe_op op_sub (pv 3) pe_int) pa_nil)))) pa_nil)) (pv 3)) (pa_cons (call_ C__law_signed (hr.mono (by decide)) (by rfl) (pa_cons (pv 0) (pa_cons pe_int pa_nil))) pa_nil))) (pg_tup (n := 2) (by rfl) (pgs_cons (pg_name (i := 7) sc.nd rfl (Or.inr rfl)) (pgs_cons (pg_name (i := 8) sc.nd rfl (Or.inr rfl)) pgs_nil))))
    (pss_cons (ps_par (i := 9) (j := 10) (by rfl) sc.nd rfl rfl (by decide) rfl rfl (pa_cons (pe_callTy call_list_of (by rfl) m_list (by decide +kernel) (pa_cons (pv 1) pa_nil)) (pa_cons (pe_callTy call_list_of (by rfl) m_list (by decide +kernel) (pa_cons (pv 1) pa_nil)) pa_nil)) (by rfl))
    (pss_cons (ps_asg (pe_tup (pa_cons (pe_ix ix_tup (pv 1) (pv 7) (fun _ _ => rfl)) (pa_cons (pe_ix ix_tup (pv 1) (pv 4) (fun _ _ => rfl)) pa_nil))) (pg_tup (n := 2) (by rfl) (pgs_cons (pg_sub (pv 9) (pv 4) set_list) (pgs_cons (pg_sub (pv 9) (pv 7) set_list) pgs_nil))))
    (pss_cons (ps_asg (pe_callTy call_tuple_of (by rfl) m_tuple (by decide +kernel) (pa_cons (pe_lc (own := [("k", 11)]) (g := gName 11) (by rfl) sc.nd (pi_range1 rfl m_range (pa_cons (pv 3) pa_nil)) (blkOk_by (own := [("k", 11)]) (N := ["m", "table", "det", "size_so", "i", "scaled", "told", "j", "times", "swapped", "added", "k", "x"]) (sc := defScope s_moved) (by decide +kernel)) (fun _ _ _ _ _ => pg_name (i := 11) sc.nd rfl (Or.inl rfl)) (fun _ _ _ _ _ => pts_nil) (fun _ _ _ _ _ => (pe_op op_add (pe_ix (ix_tupK (K := K) rfl) (pe_ix (ix_tupK (K := K) rfl) (pv 1) (pv 4) (fun _ _ => rfl)) (pv 11) (fun _ _ => rfl)) (pe_op op_mulW (pv 8) (pe_ix (ix_tupK (K := K) rfl) (pe_ix (ix_tupK (K := K) rfl) (pv 1) (pv 7) (fun _ _ => rfl)) (pv 11) (fun _ _ => rfl)))))) pa_nil)) (pg_sub (pv 10) (pv 4) set_list))
    (pss_cons (ps_set (i := 5) sc.nd rfl (Or.inl rfl) (pe_callTy call_list_of (by rfl) m_list (by decide +kernel) (pa_cons (pv 1) pa_nil)))
    (pss_cons (ps_asg (pe_callTy call_tuple_of (by rfl) m_tuple (by decide +kernel) (pa_cons (pe_lc (own := [("x", 12)]) (g := gName 12) (by rfl) sc.nd (pi_tup (pe_ix ix_tup (pv 1) (pv 4) (fun _ _ => rfl))) (blkOk_by (own := [("x", 12)]) (N := ["m", "table", "det", "size_so", "i", "scaled", "told", "j", "times", "swapped", "added", "k", "x"]) (sc := defScope s_moved) (by decide +kernel)) (fun _ _ _ _ _ => pg_name (i := 12) sc.nd rfl (Or.inl rfl)) (fun _ _ _ _ _ => pts_nil) (fun _ _ _ _ _ => (pe_op op_mulW (pv 8) (pv 12)))) pa_nil)) (pg_sub (pv 5) (pv 4) set_list))
    (pss_cons (ps_set (i := 6) sc.nd rfl (Or.inl rfl) (pe_lst (pa_cons (call_ C_determinant (hr.mono (by decide)) (by rfl) (pa_cons (pe_callTy call_tuple_of (by rfl) m_tuple (by decide +kernel) (pa_cons (pv 9) pa_nil)) pa_nil)) (pa_cons (call_ C_determinant (hr.mono (by decide)) (by rfl) (pa_cons (pe_callTy call_tuple_of (by rfl) m_tuple (by decide +kernel) (pa_cons (pv 10) pa_nil)) pa_nil)) (pa_cons (call_ C_determinant (hr.mono (by decide)) (by rfl) (pa_cons (pe_callTy call_tuple_of (by rfl) m_tuple (by decide +kernel) (pa_cons (pv 5) pa_nil)) pa_nil)) pa_nil)))))
    (pss_one (ps_ret (callG hG C__law_like (hr.mono (by decide)) (by rfl) (pa_cons (pv 6) (pa_cons (pe_lst (pa_cons (pe_un un_neg (pv 2)) (pa_cons (pv 2) (pa_cons (pe_op op_mulW (pv 8) (pv 2)) pa_nil)))) pa_nil))))))))))))))), ?_⟩
    have hT0 := hT
    obtain ⟨ps, ha, hR⟩ := hT
    have lp : ps.length = B.length := hR.1
    obtain ⟨n, hn⟩ : ∃ n, n = B.length := ⟨_, rfl⟩
    refine ⟨.ref a, rfl, a, _, rfl, .inr ha.t, ?_⟩
    rw [List.length_map, lp, ← hn]
    refine ⟨.int n, rfl, n, 2, rfl, rfl, _, rfl, ite2 (fun _ => k H (SameBut.refl _ _) (hM.mono (by omega))) (fun h => ?_)⟩
    have h2 : 2 ≤ n := by
      have : ¬ ((n : Int) < 2) := fun z => h (decide_eq_true z)
      omega
    clear h
    refine ⟨.ref m, rfl, .int n, rfl, m, c, q, n, rfl, hM, by omega, by omega, Nat.lt_of_le_of_lt (show ((n : Int)).natAbs ≤ 5 by omega) (by decide), fun H1 v b1 M1 v0 v1 => ?_⟩
    obtain ⟨i, rfl⟩ : ∃ i : Nat, v = i := ⟨v.toNat, by omega⟩
    refine ⟨.int i, rfl, (i : Int), 1, rfl, rfl, .ref m, rfl, .int n, rfl, n, 1, rfl, rfl, m, c, q + 1, (n : Int) - 1, rfl, M1, by omega, by omega, Nat.lt_of_le_of_lt (show ((n : Int) - 1).natAbs ≤ 5 by omega) (by decide), fun H2 u b2 M2 u0 u1 => ⟨_, _, rfl, rfl, .inl ⟨_, rfl, .int n, rfl, _, n, rfl, rfl, (show (n : Int) ≠ 0 by omega), ?_⟩⟩⟩
    obtain ⟨j, ej, hj, ne⟩ : ∃ j : Nat, ((i : Int) + 1 + u).fmod n = j ∧ j < n ∧ i ≠ j := by
      refine ⟨(((i : Int) + 1 + u).fmod n).toNat, ?_, ?_, ?_⟩
      · rw [Int.toNat_of_nonneg (Int.fmod_nonneg_of_pos _ (by omega))]
      · have := Int.fmod_lt_of_pos ((i : Int) + 1 + u) (show (0 : Int) < n by omega)
        have := Int.fmod_nonneg_of_pos ((i : Int) + 1 + u) (show (0 : Int) < n by omega)
        omega
      · rw [Int.fmod_eq_emod_of_nonneg _ (by omega)]
        by_cases l : (i : Int) + 1 + u < n
        · rw [Int.emod_eq_of_lt (by omega) l]
          omega
        · have e : ((i : Int) + 1 + u) % n = (i : Int) + 1 + u - n := by
            rw [← Int.sub_emod_right, Int.emod_eq_of_lt (by omega) (by omega)]
          rw [e]
          omega
    have hi : i < n := by omega
    refine ⟨.ref m, rfl, m, c, q + 1 + 1, 9, rfl, M2, by omega, by decide, by decide, fun H3 tm b3 M3 t0 t1 => ?_⟩
    dsimp only
    rw [ej]
    have b13 := (b1.trans b2).trans b3
    obtain ⟨kv0, hm0⟩ := hM.m_some
    have hT3 := hT0.but hm0 b13
    clear hT0 ha hR
    obtain ⟨ps, ha, hR⟩ := hT3
    rw [← hn] at hR
    have lp : ps.length = n := by rw [hR.1, hn]
    have rowN : ∀ x, x < n → ∃ p b, ps[x]? = some p ∧ B[x]? = some b ∧ Row H3 p b ∧ b.length = n := fun x hx => by
      have h1 : ps[x]? = some (ps[x]'(by omega)) := List.getElem?_eq_getElem _
      have h2 : B[x]? = some (B[x]'(by omega)) := List.getElem?_eq_getElem _
      obtain ⟨r1, r2⟩ := hR.2 x _ _ h1 h2
      exact ⟨_, _, h1, h2, r1, r2⟩
    obtain ⟨pi, bi, hpi, hbi, Ri, li⟩ := rowN i hi
    obtain ⟨pj, bj, hpj, hbj, Rj, lj⟩ := rowN j hj
    have zbi := zB bi (List.mem_of_getElem? hbi)
    have zbj := zB bj (List.mem_of_getElem? hbj)
    have zt : SmZ 5 tm := Nat.lt_of_le_of_lt (show tm.natAbs ≤ 9 by omega) (by decide)
    refine ⟨by show 2 ≤ sizeLine; decide, fun T nT => ?_⟩
    have s4 : Same H3 (upd H3 T (.tup [.int j, .int tm])) := same_new nT
    have g4 : Tp (upd H3 T (.tup [.int j, .int tm])) T [.int j, .int tm] := upd_same
    generalize upd H3 T (.tup [.int j, .int tm]) = H4 at s4 g4 ⊢
    refine ⟨T, _, rfl, g4.t, rfl, .int j, [.int tm], rfl, .int tm, [], rfl, rfl, ?_⟩
    refine ⟨.ref a, rfl, a, _, rfl, .inr (ha.same s4).t, fun S1 n1 => ?_⟩
    have s5 : Same H4 (upd H4 S1 (.lst (ps.map V.ref))) := same_new n1
    have g5 : upd H4 S1 (.lst (ps.map V.ref)) S1 = some (.lst (ps.map V.ref)) := upd_same
    generalize upd H4 S1 (.lst (ps.map V.ref)) = H5 at s5 g5 ⊢
    refine ⟨.ref a, rfl, a, _, rfl, .inr ((ha.same s4).same s5).t, fun S2 n2 => ?_⟩
    have n12 : S1 ≠ S2 := ne_of_none g5 n2
    have s6 : Same H5 (upd H5 S2 (.lst (ps.map V.ref))) := same_new n2
    have g6 : upd H5 S2 (.lst (ps.map V.ref)) S2 = some (.lst (ps.map V.ref)) := upd_same
    generalize upd H5 S2 (.lst (ps.map V.ref)) = H6 at s6 g6 ⊢
    have g56 := s6 _ _ g5
    have s36 := (s4.trans s5).trans s6
    have m1 : H3 S1 = none := s4.free n1
    have m2 : H3 S2 = none := (s4.trans s5).free n2
    refine ⟨_, _, rfl, ?_⟩
    have ha6 := ha.same s36
    refine ⟨.ref a, rfl, .int j, rfl, a, _, j, .ref pj, rfl, rfl, ha6.t, atI_nat (get_map hpj), .ref a, rfl, .int i, rfl, a, _, i, .ref pi, rfl, rfl, ha6.t, atI_nat (get_map hpi), by show 2 ≤ sizeLine; decide, fun T2 nT2 => ?_⟩
    have s7 : Same H6 (upd H6 T2 (.tup [.ref pj, .ref pi])) := same_new nT2
    have g7 : Tp (upd H6 T2 (.tup [.ref pj, .ref pi])) T2 [.ref pj, .ref pi] := upd_same
    generalize upd H6 T2 (.tup [.ref pj, .ref pi]) = H7 at s7 g7 ⊢
    have g57 := s7 _ _ g56
    have g67 := s7 _ _ g6
    have s37 := s36.trans s7
    have lm : (ps.map V.ref).length = n := by rw [List.length_map, lp]
    refine ⟨T2, _, rfl, g7.t, rfl, .ref pj, [.ref pi], rfl, .ref S1, rfl, .int i, rfl, S1, _, (i : Int), i, rfl, rfl, g57, ix_of rfl (by rw [lm]; exact hi), ?_⟩
    have s8 : Same H3 (upd H7 S1 (.lst ((ps.map V.ref).set i (.ref pj)))) := same_put s37 m1
    have g58 : upd H7 S1 (.lst ((ps.map V.ref).set i (.ref pj))) S1 = some (.lst ((ps.map V.ref).set i (.ref pj))) := upd_same
    have g68 : upd H7 S1 (.lst ((ps.map V.ref).set i (.ref pj))) S2 = some (.lst (ps.map V.ref)) := by rw [upd_ne (Ne.symm n12)]; exact g67
    generalize upd H7 S1 (.lst ((ps.map V.ref).set i (.ref pj))) = H8 at s8 g58 g68 ⊢
    refine ⟨.ref pi, [], rfl, .ref S1, rfl, .int j, rfl, S1, _, (j : Int), j, rfl, rfl, g58, ix_of rfl (by rw [List.length_set, lm]; exact hj), rfl, ?_⟩
    have s9 : Same H3 (upd H8 S1 (.lst (((ps.map V.ref).set i (.ref pj)).set j (.ref pi)))) := same_put s8 m1
    have g59 : upd H8 S1 (.lst (((ps.map V.ref).set i (.ref pj)).set j (.ref pi))) S1 = some (.lst (((ps.set i pj).set j pi).map V.ref)) := by
      rw [upd_same, List.map_set, List.map_set]
    have g69 : upd H8 S1 (.lst (((ps.map V.ref).set i (.ref pj)).set j (.ref pi))) S2 = some (.lst (ps.map V.ref)) := by rw [upd_ne (Ne.symm n12)]; exact g68
    generalize upd H8 S1 (.lst (((ps.map V.ref).set i (.ref pj)).set j (.ref pi))) = H9 at s9 g59 g69 ⊢
    clear s8 g58 g68 s7 g57 g67 g7 s6 g56 g6 s5 g5 s36 s37 ha6 nT2 n2 n1 g4
    have W0 : RwS H3 ps B n := ⟨hR, zB⟩
    have W1 : RwS H9 ((ps.set i pj).set j pi) ((B.set i bj).set j bi) n := (rwS_set0 (rwS_set0 W0 Rj lj zbj i) Ri li zbi j).same s9
    have W9 := W0.same s9
    have Ri9 := Ri.same s9
    have Rj9 := Rj.same s9
    have ha9 := ha.same s9
    obtain ⟨rA, erA⟩ : ∃ rA : List Int, rA = (List.range n).map fun c => bi.getD c 0 + tm * bj.getD c 0 := ⟨_, rfl⟩
    have lA : rA.length = n := by rw [erA, List.length_map, List.length_range]
    refine ⟨.int n, rfl, (n : Int), rfl, by omega, by omega, fun D nD => ?_⟩
    rw [Int.toNat_natCast]
    refine lc_to (walk_range (lo := 0) (n := n)) (rA.map V.int) (by rw [List.length_map, lA]) (small (by omega)) nD (fun H' s => True.intro) ?_ ?_
    · rintro x y z Ha Ha' Qy hz hx sa ⟨rfl, rfl⟩ hq
      obtain ⟨v, hv, rfl⟩ := map_get hz
      rw [erA, List.getElem?_map, List.getElem?_range hx] at hv
      obtain rfl := Option.some.inj hv
      have ex : (0 + (x : Int)) = ((x : Nat) : Int) := by omega
      have gi := Vk.getD_at (xs := bi) (i := x) (by omega)
      have gj := Vk.getD_at (xs := bj) (i := x) (by omega)
      exact ⟨rfl, .ref a, rfl, .int i, rfl, a, _, i, .ref pi, rfl, rfl, (ha9.same sa).t, atI_nat (get_map hpi), .int (0 + x), rfl, pi, _, 0 + x, .int (bi.getD x 0), rfl, rfl, (Ri9.same sa).1.t, atI_at ex (get_map gi), .int tm, rfl, .ref a, rfl, .int j, rfl, a, _, j, .ref pj, rfl, rfl, (ha9.same sa).t, atI_nat (get_map hpj), .int (0 + x), rfl, pj, _, 0 + x, .int (bj.getD x 0), rfl, rfl, (Rj9.same sa).1.t, atI_at ex (get_map gj), tm, bj.getD x 0, rfl, rfl, mulB (by decide) (by decide) zt (zbj _ (List.mem_of_getElem? gj)) (by decide), _, _, rfl, rfl, hq _ (Same.refl _)⟩
    intro HA sA dA
    refine ⟨D, _, rfl, .inl ⟨SqL.of dA, fun T3 nT3 => ?_⟩⟩
    have sB : Same HA (upd HA T3 (.tup (rA.map V.int))) := same_new nT3
    have gB : Tp (upd HA T3 (.tup (rA.map V.int))) T3 (rA.map V.int) := upd_same
    generalize upd HA T3 (.tup (rA.map V.int)) = HB at sB gB ⊢
    have s9B := sA.trans sB
    have zA : ∀ x ∈ rA, SmZ 300 x := fun x hx => by
      rw [erA] at hx
      obtain ⟨c, hc, rfl⟩ := List.mem_map.mp hx
      have hc := List.mem_range.mp hc
      exact smz_mono (smz_add (smz_mono (zbi _ (List.mem_of_getElem? (Vk.getD_at (by omega)))) (show 110 ≤ 115 by decide)) (smz_mul zt (zbj _ (List.mem_of_getElem? (Vk.getD_at (by omega)))))) (by decide)
    have g59 := s9B _ _ g59
    have g69 := s9B _ _ g69
    refine ⟨.ref S2, rfl, .int i, rfl, S2, _, (i : Int), i, rfl, rfl, g69, ix_of rfl (by rw [lm]; exact hi), ?_⟩
    have s3C : Same H3 (upd HB S2 (.lst ((ps.map V.ref).set i (.ref T3)))) := same_put (s9.trans s9B) m2
    have gC2 : upd HB S2 (.lst ((ps.map V.ref).set i (.ref T3))) S2 = some (.lst ((ps.set i T3).map V.ref)) := by
      rw [upd_same, List.map_set]
    have gC1 : upd HB S2 (.lst ((ps.map V.ref).set i (.ref T3))) S1 = some (.lst (((ps.set i pj).set j pi).map V.ref)) := by rw [upd_ne n12]; exact g59
    have WC1 : Rws (upd HB S2 (.lst ((ps.map V.ref).set i (.ref T3)))) ((ps.set i pj).set j pi) ((B.set i bj).set j bi) n := rws_put (W1.1.same s9B) g69
    have WC2 : Rws (upd HB S2 (.lst ((ps.map V.ref).set i (.ref T3)))) (ps.set i T3) (B.set i rA) n := rws_put (rws_set0 (W9.1.same s9B) ⟨gB, by omega, zA⟩ lA i) g69
    generalize upd HB S2 (.lst ((ps.map V.ref).set i (.ref T3))) = HC at s3C gC2 gC1 WC1 WC2 ⊢
    clear g59 g69 s9B gB sB nT3 dA sA nD W1 W9 Ri9 Rj9 ha9 s9
    have haC := ha.same s3C
    have RiC := Ri.same s3C
    refine ⟨.ref a, rfl, a, _, rfl, .inr haC.t, fun S3 n3 => ?_⟩
    have m3 : H3 S3 = none := s3C.free n3
    have sD : Same HC (upd HC S3 (.lst (ps.map V.ref))) := same_new n3
    have gD : upd HC S3 (.lst (ps.map V.ref)) S3 = some (.lst (ps.map V.ref)) := upd_same
    have n13 : S1 ≠ S3 := ne_of_none gC1 n3
    have n23 : S2 ≠ S3 := ne_of_none gC2 n3
    generalize upd HC S3 (.lst (ps.map V.ref)) = HD at sD gD ⊢
    have RiD := RiC.same sD
    have haD := haC.same sD
    refine ⟨.ref a, rfl, .int i, rfl, a, _, i, .ref pi, rfl, rfl, haD.t, atI_nat (get_map hpi), pi, rfl, ⟨_, RiD.1.t⟩, fun D2 nD2 => ?_⟩
    have lB : (bi.map (tm * ·)).length = n := by rw [List.length_map, li]
    refine lc_to (walk_tup (K := K) (a := pi) (xs := bi.map V.int)) ((bi.map (tm * ·)).map V.int) (by rw [List.length_map, List.length_map, List.length_map]) (by rw [List.length_map]; exact small (by omega)) nD2 (fun H' s => (RiD.same s).1.t) ?_ ?_
    · rintro x y z Ha Ha' Qy hz hx sa ⟨rfl, hy⟩ hq
      obtain ⟨v, hv, rfl⟩ := map_get hz
      obtain ⟨u1', hu1, rfl⟩ := map_get hv
      obtain ⟨u2', hu2, rfl⟩ := map_get hy
      obtain rfl := Option.some.inj (hu1.symm.trans hu2)
      exact ⟨rfl, .int tm, rfl, .int u1', rfl, tm, u1', rfl, rfl, mulB (by decide) (by decide) zt (zbi _ (List.mem_of_getElem? hu1)) (by decide), hq _ (Same.refl _)⟩
    intro HE sE dE
    refine ⟨D2, _, rfl, .inl ⟨SqL.of dE, fun T4 nT4 => ?_⟩⟩
    have sF : Same HE (upd HE T4 (.tup ((bi.map (tm * ·)).map V.int))) := same_new nT4
    have gF : Tp (upd HE T4 (.tup ((bi.map (tm * ·)).map V.int))) T4 ((bi.map (tm * ·)).map V.int) := upd_same
    generalize upd HE T4 (.tup ((bi.map (tm * ·)).map V.int)) = HF at sF gF ⊢
    have sDF := sE.trans sF
    have sCF := sD.trans sDF
    have zS : ∀ x ∈ bi.map (tm * ·), SmZ 300 x := fun x hx => by
      obtain ⟨c, hc, rfl⟩ := List.mem_map.mp hx
      exact smz_mono (smz_mul zt (zbi _ hc)) (by decide)
    have gD := sDF _ _ gD
    have gC1 := sCF _ _ gC1
    have gC2 := sCF _ _ gC2
    refine ⟨.ref S3, rfl, .int i, rfl, S3, _, (i : Int), i, rfl, rfl, gD, ix_of rfl (by rw [lm]; exact hi), ?_⟩
    have s3G : Same H3 (upd HF S3 (.lst ((ps.map V.ref).set i (.ref T4)))) := same_put (s3C.trans sCF) m3
    have gG3 : upd HF S3 (.lst ((ps.map V.ref).set i (.ref T4))) S3 = some (.lst ((ps.set i T4).map V.ref)) := by
      rw [upd_same, List.map_set]
    have gG1 : upd HF S3 (.lst ((ps.map V.ref).set i (.ref T4))) S1 = some (.lst (((ps.set i pj).set j pi).map V.ref)) := by rw [upd_ne n13]; exact gC1
    have gG2 : upd HF S3 (.lst ((ps.map V.ref).set i (.ref T4))) S2 = some (.lst ((ps.set i T3).map V.ref)) := by rw [upd_ne n23]; exact gC2
    have WG1 : Rws (upd HF S3 (.lst ((ps.map V.ref).set i (.ref T4)))) ((ps.set i pj).set j pi) ((B.set i bj).set j bi) n := rws_put (WC1.same sCF) gD
    have WG2 : Rws (upd HF S3 (.lst ((ps.map V.ref).set i (.ref T4)))) (ps.set i T3) (B.set i rA) n := rws_put (WC2.same sCF) gD
    have WG3 : Rws (upd HF S3 (.lst ((ps.map V.ref).set i (.ref T4)))) (ps.set i T4) (B.set i (bi.map (tm * ·))) n := rws_put (rws_set0 (W0.1.same (s3C.trans sCF)) ⟨gF, by omega, zS⟩ lB i) gD
    generalize upd HF S3 (.lst ((ps.map V.ref).set i (.ref T4))) = HG at s3G gG3 gG1 gG2 WG1 WG2 WG3 ⊢
    clear gD gC1 gC2 sCF sDF gF sF nT4 dE sE nD2 RiD haD sD n3 haC RiC WC1 WC2
    have hiB : i < B.length := by omega
    have hjB : j < B.length := by omega
    obtain ⟨dd, hdd⟩ : ∃ dd, dd = det B.length (mL B) := ⟨_, rfl⟩
    have d1 : det n (mL ((B.set i bj).set j bi)) = - dd := by
      rw [hn, hdd]
      exact det_swap hiB hjB ne hbi hbj
    have d2 : det n (mL (B.set i rA)) = dd := by
      rw [hn, hdd]
      refine det_add hiB hjB ne tm fun c hc => ?_
      rw [mL_at hbi, mL_at hbj, erA, List.getD_eq_getElem?_getD, List.getElem?_map, List.getElem?_range (by omega)]
      rfl
    have d3 : det n (mL (B.set i (bi.map (tm * ·)))) = tm * dd := by
      rw [hn, hdd]
      refine det_scale hiB tm fun c hc => ?_
      rw [mL_at hbi, List.getD_eq_getElem?_getD, List.getElem?_map, Vk.getD_at (xs := bi) (i := c) (by omega)]
      rfl
    have ld : SmZ 600 dd := by
      rw [hdd]
      have h := det_abs (k := 110) B.length (mL B) (by omega) (mL_smk zB)
      refine Nat.lt_of_le_of_lt h (Nat.pow_lt_pow_right (by decide) ?_)
      have : B.length * (110 + 4) ≤ 5 * 114 := Nat.mul_le_mul (by omega) (by omega)
      omega
    refine ⟨.ref S1, rfl, S1, _, rfl, .inl ⟨SqL.of gG1, fun T5 n5 => ?_⟩⟩
    have sH : Same HG (upd HG T5 (.tup (((ps.set i pj).set j pi).map V.ref))) := same_new n5
    have gH : Tp (upd HG T5 (.tup (((ps.set i pj).set j pi).map V.ref))) T5 (((ps.set i pj).set j pi).map V.ref) := upd_same
    generalize upd HG T5 (.tup (((ps.set i pj).set j pi).map V.ref)) = HH at sH gH ⊢
    unfold tNil
    refine det_call gH (WG1.same sH) (by rw [List.length_set, List.length_set, hn]) (by omega) d1 fun HI sI => ?_
    have sGI := sH.trans sI
    refine ⟨.ref S2, rfl, S2, _, rfl, .inl ⟨SqL.of (sGI _ _ gG2), fun T6 n6 => ?_⟩⟩
    have sJ : Same HI (upd HI T6 (.tup ((ps.set i T3).map V.ref))) := same_new n6
    have gJ : Tp (upd HI T6 (.tup ((ps.set i T3).map V.ref))) T6 ((ps.set i T3).map V.ref) := upd_same
    generalize upd HI T6 (.tup ((ps.set i T3).map V.ref)) = HJ at sJ gJ ⊢
    refine det_call gJ (WG2.same (sGI.trans sJ)) (by rw [List.length_set, hn]) (by omega) d2 fun HK sK => ?_
    have sGK := (sGI.trans sJ).trans sK
    refine ⟨.ref S3, rfl, S3, _, rfl, .inl ⟨SqL.of (sGK _ _ gG3), fun T7 n7 => ?_⟩⟩
    have sL : Same HK (upd HK T7 (.tup ((ps.set i T4).map V.ref))) := same_new n7
    have gL : Tp (upd HK T7 (.tup ((ps.set i T4).map V.ref))) T7 ((ps.set i T4).map V.ref) := upd_same
    generalize upd HK T7 (.tup ((ps.set i T4).map V.ref)) = HL at sL gL ⊢
    refine det_call gL (WG3.same (sGK.trans sL)) (by rw [List.length_set, hn]) (by omega) d3 fun HM sM => ?_
    have sGM := (sGK.trans sL).trans sM
    refine ⟨by show 3 ≤ sizeLine; decide, fun L nL => ?_⟩
    have sN : Same HM (upd HM L (.lst [.int (-dd), .int dd, .int (tm * dd)])) := same_new nL
    have gN : upd HM L (.lst [.int (-dd), .int dd, .int (tm * dd)]) L = some (.lst ([-dd, dd, tm * dd].map V.int)) := upd_same
    generalize upd HM L (.lst [.int (-dd), .int dd, .int (tm * dd)]) = HN at sN gN ⊢
    rw [show det n (mL B) = dd by rw [hdd, ← hn]]
    refine ⟨.ref L, rfl, .int dd, rfl, dd, rfl, .int dd, rfl, .int tm, rfl, .int dd, rfl, tm, dd, rfl, rfl, mulB (by decide) (by decide) zt ld (by decide), by show 3 ≤ sizeLine; decide, fun L2 nL2 => ?_⟩
    have sO : Same HN (upd HN L2 (.lst [.int (-dd), .int dd, .int (tm * dd)])) := same_new nL2
    have gO : upd HN L2 (.lst [.int (-dd), .int dd, .int (tm * dd)]) L2 = some (.lst ([-dd, dd, tm * dd].map V.int)) := upd_same
    generalize upd HN L2 (.lst [.int (-dd), .int dd, .int (tm * dd)]) = HO' at sO gO ⊢
    have s3O := s3G.trans ((sGM.trans sN).trans sO)
    have lz : ∀ x ∈ [-dd, dd, tm * dd], SmZ 700 x := fun x hx => by
      rcases List.mem_cons.mp hx with rfl | hx
      · exact smz_mono (show SmZ 600 (-dd) by unfold SmZ; rw [Int.natAbs_neg]; exact ld) (by decide)
      rcases List.mem_cons.mp hx with rfl | hx
      · exact smz_mono ld (by decide)
      rcases List.mem_cons.mp hx with rfl | hx
      · exact smz_mono (smz_mul zt ld) (by decide)
      cases hx
    refine ⟨.ref L, .ref L2, .list ([-dd, dd, tm * dd].map PyData.int), rfl, .lst (SqL.of (sO _ _ gN)) (dp_ints _), .lst (SqL.of gO) (dp_ints _), ?_, k _ (b13.trans (SameBut.of s3O)) ((M3.same s3O).mono (by omega))⟩
    exact FitN.mono (FitN.list (fit_all (k := 1) (a := 0) 3 _ (fun d hd => by
      obtain ⟨x, hx, rfl⟩ := List.mem_map.mp hd
      exact FitN.int (Nat.lt_of_lt_of_le (lz x hx) (Nat.pow_le_pow_right (by decide) (by decide)))) (Nat.le_refl 3))) (by decide) (by decide)
end
end K09
namespace K09
open PySem PySem.Spec PyProof.Rows L2 Vk Vd
abbrev s_right : Stmt := topS 21
theorem sc_right : FnScope ["m", "size_so", "both", "told", "row", "due", "one", "other", "det", "far", "k", "j", "i"] ["m", "size_so"] (defScope s_right) := ⟨rfl, rfl, rfl, by decide +kernel, rfl, by decide +kernel, by decide +kernel⟩
theorem dot_S : ∀ (xs ys : List Int) (n : Nat), min xs.length ys.length ≤ n → dot xs ys = S n fun j => xs.getD j 0 * ys.getD j 0
  | [], ys, n, _ => by
    have e : (fun j => ([] : List Int).getD j 0 * ys.getD j 0) = fun _ => 0 := funext fun j => by
      show (0 : Int) * _ = 0
      rw [Int.zero_mul]
    rw [e, S_zero]
    rfl
  | x :: xs, [], n, _ => by
    have e : (fun j => (x :: xs).getD j 0 * ([] : List Int).getD j 0) = fun _ => 0 := funext fun j => by
      show _ * (0 : Int) = 0
      rw [Int.mul_zero]
    rw [e, S_zero]
    rfl
  | x :: xs, y :: ys, n, h => by
    obtain ⟨k, rfl⟩ : ∃ k, n = k + 1 := ⟨n - 1, by simp only [List.length_cons] at h; omega⟩
    rw [S_head]
    have e : dot (x :: xs) (y :: ys) = x * y + dot xs ys := by
      unfold dot
      rw [List.zipWith_cons_cons, List.sum_cons]
    rw [e, dot_S xs ys k (by simp only [List.length_cons] at h; omega)]
    rfl
theorem mul_det {X B : List (List Int)} (lX : X.length = B.length) (wX : ∀ r ∈ X, r.length = B.length) : det B.length (mL (mulI X B)) = det B.length (mL X) * det B.length (mL B) := by
  rw [← det_mul]
  refine det_congr _ fun r c hr hc => ?_
  have hx : X[r]? = some (X[r]'(by omega)) := List.getElem?_eq_getElem _
  generalize X[r]'(by omega) = x at hx
  have hm : (mulI X B)[r]? = some ((colsI B B.length).map fun b => dot b x) := by
    unfold mulI
    rw [List.getElem?_map, hx]
    rfl
  rw [mL_at hm, List.getD_eq_getElem?_getD, List.getElem?_map, colsI_at hc]
  show dot (B.map fun r => r.getD c 0) x = S B.length fun j => mL X r j * mL B j c
  rw [dot_comm, dot_S x _ B.length (by rw [wX x (List.mem_of_getElem? hx)]; exact Nat.min_le_left _ _)]
  refine S_congr _ fun j hj => ?_
  rw [mL_at hx]
  congr 1
  rw [List.getD_eq_getElem?_getD, List.getElem?_map]
  unfold mL
  rw [List.getD_eq_getElem?_getD (l := B), List.getElem?_eq_getElem hj]
  rfl
theorem turn_det {X : List (List Int)} : det X.length (mL (colsI X X.length)) = det X.length (mL X) := by
  rw [← det_tr]
  refine det_congr _ fun r c hr hc => ?_
  rw [mL_at (colsI_at hc), List.getD_eq_getElem?_getD, List.getElem?_map]
  unfold mL
  rw [List.getD_eq_getElem?_getD (l := X), List.getElem?_eq_getElem hr]
  rfl
def spRight : Sp := fun vs H Q _ => ∃ (m c : Addr) (q n : Nat), vs = [.ref m, .int n] ∧ MOk H m c q ∧ q ≤ 3500 ∧ n ≤ 5 ∧ ∀ H', SameBut m H H' → MOk H' m c (q + 200) → Q (.bl true) H'
section
variable {P : Program} {w : World} {K : PySem.W.Frag} {mg : Str → Option Value} {base : Heap}
theorem ok_right {f : Addr} {fd : FuncData} (F : Fun K "_law_right" "_law_right" s_right f fd) (C__law_table : Cal P w K mg base 3 "_law_table" ["m", "size_so"] spTable) (C__law_det : Cal P w K mg base 7 "_law_det" ["table"] (spLd 6)) (C__law_times : Cal P w K mg base 1 "_law_times" ["one", "other"] spLtimes) (C_determinant : Cal P w K mg base 3 "determinant" ["table"] spDet) (C__law_turned_over : Cal P w K mg base 1 "_law_turned_over" ["table"] spLturned) (C_times_table : Cal P w K mg base 4 "times_table" ["one", "other"] spTtab) (C__law_like : CalG P w K mg base 1 "_law_like" ["got", "due"] (spLike K)) (C__law_moved_right : CalG P w K mg base 4 "_law_moved_right" ["m", "table", "det"] spMoved)
    (C__law_signed : Cal P w K mg base 2 "_law_signed" ["m", "most"] spSigned) (C_times_row : Cal P w K mg base 3 "times_row" ["row", "table"] spTrow) (C_times_column : Cal P w K mg base 2 "times_column" ["table", "column"] spTcol) (m_tuple : mg "tuple" = none) (m_range : mg "range" = none) (m_sum : mg "sum" = none) : FnG P w K mg base 8 f fd ["m", "size_so"] spRight := by
  have sc := sc_right
  refine okG F sc (fun vs H Q E h => ?_) (fun cdv A outer s H vs Q E hG0 hr h => ?_)
  · obtain ⟨m, c, q, n, rfl, _⟩ := h
    rfl
  · obtain ⟨m, c, q, n, rfl, hM, hq, hn, k⟩ := h
    have hG : Quiet (cxOf CX0 P w K mg base ["m", "size_so", "both", "told", "row", "due", "one", "other", "det", "far", "k", "j", "i"] "_law_right" (defScope s_right) f cdv A outer s H E).nox.A := hG0.deeper _
    refine ⟨_, (pss_cons (ps_asg (pe_tup (pa_cons (call_ C__law_table (hr.mono (by decide)) (by rfl) (pa_cons (pv 0) (pa_cons (pv 1) pa_nil))) (pa_cons (call_ C__law_table (hr.mono (by decide)) (by rfl) (pa_cons (pv 0) (pa_cons (pv 1) pa_nil))) pa_nil))) (pg_tup (n := 2) (by rfl) (pgs_cons (pg_name (i := 6) sc.nd rfl (Or.inr rfl)) (pgs_cons (pg_name (i := 7) sc.nd rfl (Or.inl rfl)) pgs_nil))))
    (pss_cons (ps_par (i := 8) (j := 9) (by rfl) sc.nd rfl rfl (by decide) rfl rfl (pa_cons (call_ C__law_det (hr.mono (by decide)) (by rfl) (pa_cons (pv 6) pa_nil)) (pa_cons (call_ C__law_det (hr.mono (by decide)) (by rfl) (pa_cons (pv 7) pa_nil)) pa_nil)) (by rfl))
    (pss_cons (ps_set (i := 2) sc.nd rfl (Or.inl rfl) (call_ C__law_times (hr.mono (by decide)) (by rfl) (pa_cons (pv 6) (pa_cons (pv 7) pa_nil))))
    (pss_cons (ps_set (i := 3) sc.nd rfl (Or.inl rfl) (pe_lst (pa_cons (call_ C_determinant (hr.mono (by decide)) (by rfl) (pa_cons (pv 6) pa_nil)) (pa_cons (call_ C_determinant (hr.mono (by decide)) (by rfl) (pa_cons (call_ C__law_turned_over (hr.mono (by decide)) (by rfl) (pa_cons (pv 6) pa_nil)) pa_nil)) (pa_cons (call_ C_times_table (hr.mono (by decide)) (by rfl) (pa_cons (pv 6) (pa_cons (pv 7) pa_nil))) (pa_cons (call_ C_determinant (hr.mono (by decide)) (by rfl) (pa_cons (pv 2) pa_nil)) pa_nil))))))
    (pss_cons (ps_if (PW.pt (pw_or (pt_not (pt_val (callG hG C__law_like (hr.mono (by decide)) (by rfl) (pa_cons (pv 3) (pa_cons (pe_lst (pa_cons (pv 8) (pa_cons (pv 8) (pa_cons (pv 2) (pa_cons (pe_op op_mulW (pv 8) (pv 9)) pa_nil))))) pa_nil))))) (pw_or1 (pt_not (pt_val (callG hG C__law_moved_right (hr.mono (by decide)) (by rfl) (pa_cons (pv 0) (pa_cons (pv 6) (pa_cons (pv 8) pa_nil)))))))))
      (pss_one (ps_ret pe_bl))
      pss_nil)
    (pss_cons (ps_set (i := 4) sc.nd rfl (Or.inr rfl) (pe_callTy call_tuple_of (by rfl) m_tuple (by decide +kernel) (pa_cons (pe_lc (own := [("k", 10)]) (g := gName 10) (by rfl) sc.nd (pi_range1 rfl m_range (pa_cons (pv 1) pa_nil)) (blkOk_by (own := [("k", 10)]) (N := ["m", "size_so", "both", "told", "row", "due", "one", "other", "det", "far", "k", "j", "i"]) (sc := defScope s_right) (by decide +kernel)) (fun _ _ _ _ _ => pg_name (i := 10) sc.nd rfl (Or.inl rfl)) (fun _ _ _ _ _ => pts_nil) (fun _ _ _ _ _ => (call_ C__law_signed (hr.mono (by decide)) (by rfl) (pa_cons (pv 0) (pa_cons pe_int pa_nil))))) pa_nil)))
    (pss_cons (ps_set (i := 5) sc.nd rfl (Or.inl rfl) (pe_callTy call_tuple_of (by rfl) m_tuple (by decide +kernel) (pa_cons (pe_lc (own := [("j", 11)]) (g := gName 11) (by rfl) sc.nd (pi_range1 rfl m_range (pa_cons (pv 1) pa_nil)) (blkOk_by (own := [("j", 11)]) (N := ["m", "size_so", "both", "told", "row", "due", "one", "other", "det", "far", "k", "j", "i"]) (sc := defScope s_right) (by decide +kernel)) (fun _ _ _ _ _ => pg_name (i := 11) sc.nd rfl (Or.inr rfl)) (fun _ _ _ _ _ => pts_nil) (fun _ _ _ _ _ => (pe_callB (cr_sumK (K := K) rfl rfl) (by rfl) m_sum (by decide +kernel) (pa_cons (pe_lc (own := [("i", 12)]) (g := gName 12) (by rfl) sc.nd (pi_range1 rfl m_range (pa_cons (pv 1) pa_nil)) (blkOk_by (own := [("i", 12)]) (N := ["m", "size_so", "both", "told", "row", "due", "one", "other", "det", "far", "k", "j", "i"]) (sc := { kind := .function, names := [(".0", .local), ("j", .cell), ("sum", .globalImplicit), ("range", .globalImplicit), ("one", .cell), ("row", .cell), ("size_so", .cell)], isGenerator := false, isCoroutine := false }) (by decide +kernel)) (fun _ _ _ _ _ => pg_name (i := 12) sc.nd rfl (Or.inl rfl)) (fun _ _ _ _ _ => pts_nil) (fun _ _ _ _ _ => (pe_op op_mulW (pe_ix (ix_tupK (K := K) rfl) (pv 4) (pv 12) (fun _ _ => rfl)) (pe_ix (ix_tupK (K := K) rfl) (pe_ix (ix_tupK (K := K) rfl) (pv 6) (pv 12) (fun _ _ => rfl)) (pv 11) (fun _ _ => rfl))))) pa_nil)))) pa_nil)))
    (pss_cons (ps_if (pt_not (pt_val (callG hG C__law_like (hr.mono (by decide)) (by rfl) (pa_cons (call_ C_times_row (hr.mono (by decide)) (by rfl) (pa_cons (pv 4) (pa_cons (pv 6) pa_nil))) (pa_cons (pv 5) pa_nil)))))
      (pss_one (ps_ret pe_bl))
      pss_nil)
    (pss_cons (ps_set (i := 5) sc.nd rfl (Or.inl rfl) (pe_callTy call_tuple_of (by rfl) m_tuple (by decide +kernel) (pa_cons (pe_lc (own := [("i", 12)]) (g := gName 12) (by rfl) sc.nd (pi_range1 rfl m_range (pa_cons (pv 1) pa_nil)) (blkOk_by (own := [("i", 12)]) (N := ["m", "size_so", "both", "told", "row", "due", "one", "other", "det", "far", "k", "j", "i"]) (sc := defScope s_right) (by decide +kernel)) (fun _ _ _ _ _ => pg_name (i := 12) sc.nd rfl (Or.inr rfl)) (fun _ _ _ _ _ => pts_nil) (fun _ _ _ _ _ => (pe_callB (cr_sumK (K := K) rfl rfl) (by rfl) m_sum (by decide +kernel) (pa_cons (pe_lc (own := [("j", 11)]) (g := gName 11) (by rfl) sc.nd (pi_range1 rfl m_range (pa_cons (pv 1) pa_nil)) (blkOk_by (own := [("j", 11)]) (N := ["m", "size_so", "both", "told", "row", "due", "one", "other", "det", "far", "k", "j", "i"]) (sc := { kind := .function, names := [(".0", .local), ("i", .cell), ("sum", .globalImplicit), ("range", .globalImplicit), ("one", .cell), ("row", .cell), ("size_so", .cell)], isGenerator := false, isCoroutine := false }) (by decide +kernel)) (fun _ _ _ _ _ => pg_name (i := 11) sc.nd rfl (Or.inl rfl)) (fun _ _ _ _ _ => pts_nil) (fun _ _ _ _ _ => (pe_op op_mulW (pe_ix (ix_tupK (K := K) rfl) (pe_ix (ix_tupK (K := K) rfl) (pv 6) (pv 12) (fun _ _ => rfl)) (pv 11) (fun _ _ => rfl)) (pe_ix (ix_tupK (K := K) rfl) (pv 4) (pv 11) (fun _ _ => rfl))))) pa_nil)))) pa_nil)))
    (pss_one (ps_ret (callG hG C__law_like (hr.mono (by decide)) (by rfl) (pa_cons (call_ C_times_column (hr.mono (by decide)) (by rfl) (pa_cons (pv 6) (pa_cons (pv 4) pa_nil))) (pa_cons (pv 5) pa_nil)))))))))))))), ?_⟩
    refine ⟨.ref m, rfl, .int n, rfl, m, c, q, n, rfl, hM, by omega, hn, fun H1 a1 X b1 M1 TX1 lX zX => ?_⟩
    obtain ⟨kv1, hm1⟩ := M1.m_some
    refine ⟨.ref m, rfl, .int n, rfl, m, c, _, n, rfl, M1, by omega, hn, fun H2 a2 B b2 M2 TB2 lB zB => ?_⟩
    have TX2 := TX1.but hm1 b2
    have b12 := b1.trans b2
    refine ⟨by show 2 ≤ sizeLine; decide, fun T nT => ?_⟩
    have s3 : Same H2 (upd H2 T (.tup [.ref a1, .ref a2])) := same_new nT
    have g3 : Tp (upd H2 T (.tup [.ref a1, .ref a2])) T [.ref a1, .ref a2] := upd_same
    generalize upd H2 T (.tup [.ref a1, .ref a2]) = H3 at s3 g3 ⊢
    refine ⟨T, _, rfl, g3.t, rfl, .ref a1, [.ref a2], rfl, .ref a2, [], rfl, rfl, ?_⟩
    have TXn : ∀ {H' : Hp}, Same H2 H' → TabR H' a1 X X.length := fun s => by rw [lX]; exact TX2.same s
    have TBn : ∀ {H' : Hp}, Same H2 H' → TabR H' a2 B B.length := fun s => by rw [lB]; exact TB2.same s
    have TXb : ∀ {H' : Hp}, Same H2 H' → TabR H' a1 X B.length := fun s => by rw [lB]; exact TX2.same s
    obtain ⟨dx, hdx⟩ : ∃ dx, dx = det X.length (mL X) := ⟨_, rfl⟩
    obtain ⟨db, hdb⟩ : ∃ db, db = det B.length (mL B) := ⟨_, rfl⟩
    have sm : ∀ {Y : List (List Int)} {d : Int}, d = det Y.length (mL Y) → Y.length = n → (∀ r ∈ Y, ∀ x ∈ r, SmZ 110 x) → SmZ 600 d := fun {Y d} e l z => by
      rw [e]
      have h := det_abs (k := 110) Y.length (mL Y) (by omega) (mL_smk z)
      refine Nat.lt_of_le_of_lt h (Nat.pow_lt_pow_right (by decide) ?_)
      have : Y.length * (110 + 4) ≤ 5 * 114 := Nat.mul_le_mul (by omega) (by omega)
      omega
    have zdx := sm hdx lX zX
    have zdb := sm hdb lB zB
    refine ⟨.ref a1, rfl, a1, X, rfl, TXn s3, by omega, fun H4 s4 => ?_⟩
    refine ⟨.ref a2, rfl, a2, B, rfl, TBn (s3.trans s4), by omega, fun H5 s5 => ?_⟩
    rw [← hdx, ← hdb]
    refine ⟨_, _, rfl, ?_⟩
    have s25 := (s3.trans s4).trans s5
    refine ⟨.ref a1, rfl, .ref a2, rfl, a1, a2, X, B, rfl, TXb s25, TBn s25, by omega, by omega, zX, zB, fun rb H6 s6 Tb6 => ?_⟩
    have s26 := s25.trans s6
    refine ⟨.ref a1, rfl, a1, X, rfl, TXn s26, by omega, fun H7 s7 => ?_⟩
    have s27 := s26.trans s7
    refine ⟨.ref a1, rfl, a1, X, rfl, TXn s27, by omega, fun rt H8 s8 Tt8 => ?_⟩
    have s28 := s27.trans s8
    refine ⟨rt, colsI X X.length, rfl, by rw [colsI_len]; exact Tt8, by rw [colsI_len]; omega, fun H9 s9 => ?_⟩
    have s29 := s28.trans s9
    refine ⟨.ref a1, rfl, .ref a2, rfl, a1, a2, X, B, rfl, TXb s29, TBn s29, by omega, by omega, fun rm ps H10 s10 gm W10 => ?_⟩
    have s210 := s29.trans s10
    have s610 := ((s7.trans s8).trans s9).trans s10
    have lM : (mulI X B).length = B.length := by
      unfold mulI
      rw [List.length_map]
      omega
    refine ⟨.ref rb, rfl, rb, mulI X B, rfl, by rw [lM]; exact Tb6.same s610, by omega, fun H11 s11 => ?_⟩
    have wX2 := TX2.w
    rw [← hdx, colsI_len, turn_det, ← hdx, lM, mul_det (by omega) (fun r hr => by rw [lB]; exact (wX2 r hr).1), show det B.length (mL X) = dx by rw [hdx, lX, lB], ← hdb]
    have s211 := s210.trans s11
    refine ⟨by show 4 ≤ sizeLine; decide, fun L nL => ?_⟩
    have s12 : Same H11 (upd H11 L (.lst [.int dx, .int dx, .ref rm, .int (dx * db)])) := same_new nL
    have g12 : upd H11 L (.lst [.int dx, .int dx, .ref rm, .int (dx * db)]) L = some (.lst [.int dx, .int dx, .ref rm, .int (dx * db)]) := upd_same
    generalize upd H11 L (.lst [.int dx, .int dx, .ref rm, .int (dx * db)]) = H12 at s12 g12 ⊢
    refine ⟨.ref L, rfl, .int dx, rfl, .int dx, rfl, .ref rb, rfl, .int dx, rfl, .int db, rfl, dx, db, rfl, rfl, mulB (by decide) (by decide) zdx zdb (by decide), by show 4 ≤ sizeLine; decide, fun L2 nL2 => ?_⟩
    have s13 : Same H12 (upd H12 L2 (.lst [.int dx, .int dx, .ref rb, .int (dx * db)])) := same_new nL2
    have g13 : upd H12 L2 (.lst [.int dx, .int dx, .ref rb, .int (dx * db)]) L2 = some (.lst [.int dx, .int dx, .ref rb, .int (dx * db)]) := upd_same
    generalize upd H12 L2 (.lst [.int dx, .int dx, .ref rb, .int (dx * db)]) = H13 at s13 g13 ⊢
    have s1013 := (s11.trans s12).trans s13
    have s213 := s210.trans s1013
    have Tb13 := Tb6.same (s610.trans s1013)
    have wM := Tb6.w
    have dm : Dp K H13 (.ref rm) (.tuple ((mulI X B).map dRow)) := .tup (gm.same s1013).t (dp_all ps _ (by rw [List.length_map, W10.1]) fun i q d e1 e2 => by
      obtain ⟨z, hz, rfl⟩ := map_get e2
      exact dp_row ((W10.2 i q z e1 hz).same s1013))
    have zdd : SmZ 1200 (dx * db) := smz_mono (smz_mul zdx zdb) (by decide)
    have fi : ∀ {z : Int} {a b : Nat}, SmZ a z → a ≤ 1900 → FitN 2 b (.int z) := fun h l => FitN.int (Nat.lt_of_lt_of_le h (Nat.pow_le_pow_right (by decide) l))
    have M13 := M2.same s213
    refine ⟨.ref L, .ref L2, .list [.int dx, .int dx, .tuple ((mulI X B).map dRow), .int (dx * db)], rfl, .lst (SqL.of (s13 _ _ g12)) (.cons (.int _) (.cons (.int _) (.cons dm (.cons (.int _) .nil)))), .lst (SqL.of g13) (.cons (.int _) (.cons (.int _) (.cons (dp_rows Tb13) (.cons (.int _) .nil)))), ?_, _, rfl, iteF ?_⟩
    · have fr : ∀ d ∈ (mulI X B).map dRow, FitN 1 9 d := fun d hd => by
        obtain ⟨z, hz, rfl⟩ := List.mem_map.mp hd
        exact fit_ints (k := 0) 9 _ (wM z hz).2 (by rw [(wM z hz).1]; omega)
      have f1 : FitN 2 90 (.tuple ((mulI X B).map dRow)) := .tup (fit_all (k := 1) (a := 9) 9 _ fr (by rw [List.length_map]; omega))
      exact FitN.mono (FitN.list (k := 2) (n := 200) (.cons (n := 200) (a := 0) (fi zdx (by decide)) (.cons (n := 190) (a := 0) (fi zdx (by decide)) (.cons (n := 180) f1 (.cons (n := 10) (a := 0) (fi zdd (by decide)) (.nil (n := 0)) (by decide)) (by decide)) (by decide)) (by decide))) (by decide) (by decide)
    clear g13 g12 nL2 nL Tb13 dm gm W10 Tt8 s610 s1013 s12 s11
    refine ⟨.ref m, rfl, .ref a1, rfl, .int dx, rfl, m, c, a1, _, X, by rw [hdx], M13, by omega, TXn s213, by omega, zX, fun H14 b14 M14 => ⟨_, rfl, iteF ?_⟩⟩
    obtain ⟨kv13, hm13⟩ := M13.m_some
    have TX14 := (TX2.same s213).but hm13 b14
    have b014 := (b12.trans (SameBut.of s213)).trans b14
    refine ⟨.int n, rfl, (n : Int), rfl, by omega, by omega, fun D nD => ?_⟩
    rw [Int.toNat_natCast]
    obtain ⟨kv14, hm14⟩ := M14.m_some
    refine lc_dr (w := 2) (q := q + 80 + 80 + 10) (m := m) (c := c) (fun _ x => -30 ≤ x ∧ x ≤ 30) (small (by omega)) M14 nD ?_ ?_
    · intro j H4 Qy hj _ M' hQ
      exact ⟨rfl, .ref m, rfl, m, c, q + 80 + 80 + 10 + 2 * j, 30, rfl, M', by omega, by decide, by decide, fun H5 v b5 M5 v0 v1 => hQ H5 _ b5 M5 ⟨v0, v1⟩⟩
    intro H15 xs b15 M15 d15 l15 bd
    have bd := all_of_get bd
    have zx : ∀ x ∈ xs, SmZ 6 x := fun x hx => by
      have := bd x hx
      exact Nat.lt_of_le_of_lt (show x.natAbs ≤ 30 by omega) (by decide)
    refine ⟨D, _, rfl, .inl ⟨SqL.of d15, fun Tr nTr => ?_⟩⟩
    have s16 : Same H15 (upd H15 Tr (.tup (xs.map V.int))) := same_new nTr
    have g16 : Tp (upd H15 Tr (.tup (xs.map V.int))) Tr (xs.map V.int) := upd_same
    generalize upd H15 Tr (.tup (xs.map V.int)) = H16 at s16 g16 ⊢
    have Rx : Row H16 Tr xs := ⟨g16, by omega, fun x hx => smz_mono (zx x hx) (by decide)⟩
    have TX16 := (TX14.but hm14 b15).same s16
    have b016 := (b014.trans b15).trans (SameBut.of s16)
    have M16 := M15.same s16
    have wX := TX16.w
    obtain ⟨qs, hX, RX⟩ := id TX16
    have zc : ∀ b ∈ colsI X n, SmZ 300 (dot b xs) := fun b hb => by
      obtain ⟨j, hj⟩ := List.getElem?_of_mem hb
      have jl := (List.getElem?_eq_some_iff.mp hj).1
      rw [colsI_len] at jl
      obtain rfl := colsI_get hj
      refine smz_mono (dot_sm (k := 110) (j := 6) (fun y hy => ?_) zx) ?_
      · obtain ⟨b, hb, rfl⟩ := List.mem_map.mp hy
        exact zX b hb _ (List.mem_of_getElem? (Vk.getD_at (by rw [(wX b hb).1]; exact jl)))
      · rw [List.length_map]
        omega
    refine ⟨.int n, rfl, (n : Int), rfl, by omega, by omega, fun D1 nD1 => ?_⟩
    rw [Int.toNat_natCast]
    refine lc_to (walk_range (lo := 0) (n := n)) (((colsI X n).map fun b => dot b xs).map V.int) (by rw [List.length_map, List.length_map, colsI_len]) (small (by omega)) nD1 (fun H' s => True.intro) ?_ ?_
    · rintro i x z H3 H3' Qy hz hi s3 ⟨rfl, rfl⟩ hq
      obtain ⟨v, hv, rfl⟩ := map_get hz
      obtain ⟨b, hb, rfl⟩ := map_get hv
      obtain rfl := colsI_get hb
      have ei : (0 + (i : Int)) = ((i : Nat) : Int) := by omega
      refine ⟨rfl, .int n, rfl, (n : Int), rfl, by omega, by omega, fun D2 nD2 => ?_⟩
      rw [Int.toNat_natCast]
      refine lc_to (walk_range (lo := 0) (n := n)) ((List.zipWith (· * ·) xs (X.map fun r => r.getD i 0)).map V.int) (by rw [List.length_map, List.length_zipWith, List.length_map]; omega) (small (by omega)) nD2 (fun H' s => True.intro) ?_ ?_
      · rintro k x u H4 H4' Qy hu hk s4 ⟨rfl, rfl⟩ hq
        obtain ⟨v, hv, rfl⟩ := map_get hu
        obtain ⟨a1', b1', ha1, hb1, rfl⟩ := zipW_get hv
        obtain ⟨br, hbr, rfl⟩ := map_get hb1
        have ek : (0 + (k : Int)) = ((k : Nat) : Int) := by omega
        have hpk : qs[k]? = some (qs[k]'(by rw [RX.1]; omega)) := List.getElem?_eq_getElem _
        obtain ⟨Rk, lk⟩ := RX.2 k _ br hpk hbr
        have s04 := s3.trans s4
        have gb := Vk.getD_at (xs := br) (i := i) (by omega)
        exact ⟨rfl, .ref Tr, rfl, .int (0 + k), rfl, Tr, _, 0 + k, .int a1', rfl, rfl, (Rx.same s04).1.t, atI_at ek (get_map ha1), .ref a1, rfl, .int (0 + k), rfl, a1, _, 0 + k, .ref (qs[k]'(by rw [RX.1]; omega)), rfl, rfl, (hX.same s04).t, atI_at ek (get_map hpk), .int (0 + i), rfl, _, _, 0 + i, .int (br.getD i 0), rfl, rfl, (Rk.same s04).1.t, atI_at ei (get_map gb), a1', br.getD i 0, rfl, rfl, mulB (by decide) (by decide) (Rx.2.2 _ (List.mem_of_getElem? ha1)) (Rk.2.2 _ (List.mem_of_getElem? gb)) (by decide), hq _ (Same.refl _)⟩
      · intro H4 s4 d4
        refine ⟨D2, List.zipWith (· * ·) xs (X.map fun r => r.getD i 0), rfl, SqL.of d4, ?_⟩
        have e : (List.zipWith (· * ·) xs (X.map fun r => r.getD i 0)).sum = dot (X.map fun r => r.getD i 0) xs := dot_comm xs _
        rw [e]
        exact hq H4 s4
    intro H17 s17 d17
    refine ⟨D1, _, rfl, .inl ⟨SqL.of d17, fun T1 nT1 => ?_⟩⟩
    have s18 : Same H17 (upd H17 T1 (.tup (((colsI X n).map fun b => dot b xs).map V.int))) := same_new nT1
    have g18 : Tp (upd H17 T1 (.tup (((colsI X n).map fun b => dot b xs).map V.int))) T1 (((colsI X n).map fun b => dot b xs).map V.int) := upd_same
    generalize upd H17 T1 (.tup (((colsI X n).map fun b => dot b xs).map V.int)) = H18 at s18 g18 ⊢
    have s1618 := s17.trans s18
    refine ⟨.ref Tr, rfl, .ref a1, rfl, Tr, a1, X, xs, rfl, by rw [lX]; exact TX16.same s1618, Rx.same s1618, by omega, by omega, fun r1 H19 s19 g19 => ?_⟩
    rw [lX] at g19
    refine ⟨.ref T1, rfl, .ref r1, .ref T1, dRow ((colsI X n).map fun b => dot b xs), rfl, dp_row g19, dp_row (g18.same s19), FitN.mono (fit_ints (k := 0) 9 _ (fun z hz => by obtain ⟨b, hb, rfl⟩ := List.mem_map.mp hz; exact zc b hb) (by rw [List.length_map, colsI_len]; omega)) (by decide) (by decide), _, rfl, iteF ?_⟩
    have s1619 := s1618.trans s19
    refine ⟨.int n, rfl, (n : Int), rfl, by omega, by omega, fun D3 nD3 => ?_⟩
    rw [Int.toNat_natCast]
    refine lc_to (walk_range (lo := 0) (n := n)) ((X.map fun b => dot b xs).map V.int) (by rw [List.length_map, List.length_map, lX]) (small (by omega)) nD3 (fun H' s => True.intro) ?_ ?_
    · rintro i x z H3 H3' Qy hz hi s3 ⟨rfl, rfl⟩ hq
      obtain ⟨v, hv, rfl⟩ := map_get hz
      obtain ⟨b, hb, rfl⟩ := map_get hv
      have ei : (0 + (i : Int)) = ((i : Nat) : Int) := by omega
      have hpi : qs[i]? = some (qs[i]'(by rw [RX.1]; omega)) := List.getElem?_eq_getElem _
      obtain ⟨Ri, li⟩ := RX.2 i _ b hpi hb
      refine ⟨rfl, .int n, rfl, (n : Int), rfl, by omega, by omega, fun D2 nD2 => ?_⟩
      rw [Int.toNat_natCast]
      refine lc_to (walk_range (lo := 0) (n := n)) ((List.zipWith (· * ·) b xs).map V.int) (by rw [List.length_map, List.length_zipWith]; omega) (small (by omega)) nD2 (fun H' s => True.intro) ?_ ?_
      · rintro k x u H4 H4' Qy hu hk s4 ⟨rfl, rfl⟩ hq
        obtain ⟨v, hv, rfl⟩ := map_get hu
        obtain ⟨a1', b1', ha1, hb1, rfl⟩ := zipW_get hv
        have ek : (0 + (k : Int)) = ((k : Nat) : Int) := by omega
        have s04 := (s1619.trans s3).trans s4
        exact ⟨rfl, .ref a1, rfl, .int (0 + i), rfl, a1, _, 0 + i, .ref (qs[i]'(by rw [RX.1]; omega)), rfl, rfl, (hX.same s04).t, atI_at ei (get_map hpi), .int (0 + k), rfl, _, _, 0 + k, .int a1', rfl, rfl, (Ri.same s04).1.t, atI_at ek (get_map ha1), .ref Tr, rfl, .int (0 + k), rfl, Tr, _, 0 + k, .int b1', rfl, rfl, (Rx.same s04).1.t, atI_at ek (get_map hb1), a1', b1', rfl, rfl, mulB (by decide) (by decide) (Ri.2.2 _ (List.mem_of_getElem? ha1)) (Rx.2.2 _ (List.mem_of_getElem? hb1)) (by decide), hq _ (Same.refl _)⟩
      · intro H4 s4 d4
        exact ⟨D2, List.zipWith (· * ·) b xs, rfl, SqL.of d4, hq H4 s4⟩
    intro H20 s20 d20
    refine ⟨D3, _, rfl, .inl ⟨SqL.of d20, fun T2 nT2 => ?_⟩⟩
    have s21 : Same H20 (upd H20 T2 (.tup ((X.map fun b => dot b xs).map V.int))) := same_new nT2
    have g21 : Tp (upd H20 T2 (.tup ((X.map fun b => dot b xs).map V.int))) T2 ((X.map fun b => dot b xs).map V.int) := upd_same
    generalize upd H20 T2 (.tup ((X.map fun b => dot b xs).map V.int)) = H21 at s21 g21 ⊢
    have s1621 := (s1619.trans s20).trans s21
    refine ⟨.ref a1, rfl, .ref Tr, rfl, a1, Tr, X, n, xs, rfl, TX16.same s1621, Rx.same s1621, l15, by omega, fun r2 H22 s22 g22 => ?_⟩
    refine ⟨.ref T2, rfl, .ref r2, .ref T2, dRow (X.map fun b => dot b xs), rfl, dp_row g22, dp_row (g21.same s22), FitN.mono (fit_ints (k := 0) 9 _ (fun z hz => by
      obtain ⟨b, hb, rfl⟩ := List.mem_map.mp hz
      refine smz_mono (dot_sm (k := 110) (j := 6) (zX b hb) zx) ?_
      rw [(wX b hb).1]
      omega) (by rw [List.length_map]; omega)) (by decide) (by decide), k _ (b016.trans (SameBut.of (s1621.trans s22))) ((M16.same (s1621.trans s22)).mono (by omega))⟩
end
end K09
namespace K09
open PySem PySem.Spec PyProof.Rows L2 Vk Vd
abbrev s_law : Stmt := topS 22
theorem sc_law : FnScope ["script", "turn", "wide", "told", "m", "size_so", "i", "j"] ["script"] (defScope s_law) := ⟨rfl, rfl, rfl, by decide +kernel, rfl, by decide +kernel, by decide +kernel⟩
def unitR (n i : Nat) : List Int := (List.range n).map fun j => if i = j then 1 else 0
theorem unitR_len (n i : Nat) : (unitR n i).length = n := by
  unfold unitR
  rw [List.length_map, List.length_range]
theorem unitR_sm (n i : Nat) : ∀ x ∈ unitR n i, SmZ 4 x := fun x hx => by
  obtain ⟨j, _, rfl⟩ := List.mem_map.mp hx
  split <;> decide
theorem wide_det : det ((List.range 9).map (unitR 9)).length (mL ((List.range 9).map (unitR 9))) = 1 := by
  rw [List.length_map, List.length_range, ← det_one 9]
  refine det_congr 9 fun r c hr hc => ?_
  rw [mL_at (b := unitR 9 r) (by rw [List.getElem?_map, List.getElem?_range hr]; rfl)]
  unfold unitR
  rw [List.getD_eq_getElem?_getD, List.getElem?_map, List.getElem?_range hc]
  rfl
def spLaw (K : PySem.W.Frag) : Sp := fun vs H Q _ => ∃ (a : Addr) (ns : List Int), vs = [.ref a] ∧ SqL K H a (ns.map V.int) ∧ ns.length ≤ 63 ∧ ∀ H', Q (.bl true) H'
section
variable {P : Program} {w : World} {K : PySem.W.Frag} {mg : Str → Option Value} {base : Heap}
theorem ok_ldetB {f : Addr} {fd : FuncData} (F : Fun K "_law_det" "_law_det" s_ldet f fd) : FnOk P w K mg base CX0 1 f fd ["table"] (spLd 0) := by
  refine F.ok sc_ldet (fun vs H Q E h => ?_) (fun cdv A outer s H vs Q E hr h => ?_)
  · obtain ⟨a, B, rfl, _⟩ := h
    rfl
  · obtain ⟨a, B, rfl, _, l, _⟩ := h
    exact absurd l (Nat.not_lt_zero _)
theorem ok_law {f : Addr} {fd : FuncData} (F : Fun K "law" "law" s_law f fd) (C__law_begun : Cal P w K mg base 1 "_law_begun" ["script", "k_so"] (spBegun K)) (C__law_draw : Cal P w K mg base 1 "_law_draw" ["m", "bound"] spDraw) (C__law_right : CalG P w K mg base 8 "_law_right" ["m", "size_so"] spRight) (C_determinant : Cal P w K mg base 3 "determinant" ["table"] spDet) (C_times_table : Cal P w K mg base 4 "times_table" ["one", "other"] spTtab) (C_times_row : Cal P w K mg base 3 "times_row" ["row", "table"] spTrow) (C__law_like : CalG P w K mg base 1 "_law_like" ["got", "due"] (spLike K))
    (m_range : mg "range" = none) (m_tuple : mg "tuple" = none) : FnG P w K mg base 9 f fd ["script"] (spLaw K) := by
  have sc := sc_law
  refine okG F sc (fun vs H Q E h => ?_) (fun cdv A outer s H vs Q E hG0 hr h => ?_)
  · obtain ⟨a, ns, rfl, _⟩ := h
    rfl
  · obtain ⟨a0, ns, rfl, hS, hl, k⟩ := h
    have hG := hG0.deeper (envOfC "law" (defScope s_law) s.heap.objs.size f cdv)
    refine ⟨_, (pss_cons (ps_for PassesOwn.never rfl (pi_range1 rfl m_range (pa_cons pe_int pa_nil)) (pg_name (i := 1) sc.nd rfl (Or.inl rfl))
      (pss_cons (ps_set (i := 4) sc.nd rfl (Or.inl rfl) (call_ C__law_begun (hr.mono (by decide)) (by rfl) (pa_cons (pv 0) (pa_cons (pv 1) pa_nil))))
    (pss_one (ps_for PassesOwn.never rfl (pi_list (pe_lst (pa_cons (call_ C__law_draw (hr.mono (by decide)) (by rfl) (pa_cons (pv 4) (pa_cons pe_int pa_nil))) (pa_cons (pe_op op_add pe_int (call_ C__law_draw (hr.mono (by decide)) (by rfl) (pa_cons (pv 4) (pa_cons pe_int pa_nil)))) (pa_cons (pe_ifExp (pt_cmpR op_eq (call_ C__law_draw (hr.mono (by decide)) (by rfl) (pa_cons (pv 4) (pa_cons pe_int pa_nil))) pe_int (nomark _)) pe_int pe_int) pa_nil))))) (pg_name (i := 5) sc.nd rfl (Or.inl rfl))
      (pss_one (ps_if (pt_not (pt_val (callG hG C__law_right (hr.mono (by decide)) (by rfl) (pa_cons (pv 4) (pa_cons (pv 5) pa_nil)))))
      (pss_one (ps_ret pe_bl))
      pss_nil))))))
    (pss_cons (ps_set (i := 2) sc.nd rfl (Or.inl rfl) (pe_callTy call_tuple_of (by rfl) m_tuple (by decide +kernel) (pa_cons (pe_lc (own := [("i", 6)]) (g := gName 6) (by rfl) sc.nd (pi_range1 rfl m_range (pa_cons pe_int pa_nil)) (blkOk_by (own := [("i", 6)]) (N := ["script", "turn", "wide", "told", "m", "size_so", "i", "j"]) (sc := defScope s_law) (by decide +kernel)) (fun _ _ _ _ _ => pg_name (i := 6) sc.nd rfl (Or.inr rfl)) (fun _ _ _ _ _ => pts_nil) (fun _ _ _ _ _ => (pe_callTy (call_tuple_ofK (K := K) rfl) (by rfl) m_tuple (by decide +kernel) (pa_cons (pe_lc (own := [("j", 7)]) (g := gName 7) (by rfl) sc.nd (pi_range1 rfl m_range (pa_cons pe_int pa_nil)) (blkOk_by (own := [("j", 7)]) (N := ["script", "turn", "wide", "told", "m", "size_so", "i", "j"]) (sc := { kind := .function, names := [(".0", .local), ("i", .cell), ("tuple", .globalImplicit), ("range", .globalImplicit)], isGenerator := false, isCoroutine := false }) (by decide +kernel)) (fun _ _ _ _ _ => pg_name (i := 7) sc.nd rfl (Or.inl rfl)) (fun _ _ _ _ _ => pts_nil) (fun _ _ _ _ _ => (pe_ifExp (pt_cmpR op_eq (pv 6) (pv 7) (nomark _)) pe_int pe_int))) pa_nil)))) pa_nil)))
    (pss_cons (ps_set (i := 3) sc.nd rfl (Or.inl rfl) (pe_lst (pa_cons (call_ C_determinant (hr.mono (by decide)) (by rfl) (pa_cons (pe_tup pa_nil) pa_nil)) (pa_cons (call_ C_times_table (hr.mono (by decide)) (by rfl) (pa_cons (pe_tup pa_nil) (pa_cons (pe_tup pa_nil) pa_nil))) (pa_cons (call_ C_times_row (hr.mono (by decide)) (by rfl) (pa_cons (pe_tup pa_nil) (pa_cons (pe_tup pa_nil) pa_nil))) (pa_cons (call_ C_determinant (hr.mono (by decide)) (by rfl) (pa_cons (pv 2) pa_nil)) pa_nil))))))
    (pss_one (ps_ret (callG hG C__law_like (hr.mono (by decide)) (by rfl) (pa_cons (pe_op op_cat (pv 3) (pe_lst (pa_cons (call_ C_determinant (hr.mono (by decide)) (by rfl) (pa_cons (pe_tup (pa_cons (pe_tup (pa_cons pe_int (pa_cons pe_int pa_nil))) (pa_cons (pe_tup (pa_cons pe_int (pa_cons pe_int pa_nil))) pa_nil))) pa_nil)) pa_nil))) (pa_cons (pe_lst (pa_cons pe_int (pa_cons (pe_tup pa_nil) (pa_cons (pe_tup pa_nil) (pa_cons pe_int (pa_cons (pe_un un_neg pe_int) pa_nil)))))) pa_nil)))))))), ?_⟩
    refine ⟨2, rfl, by decide, by decide, for_range (lo := 0) (n := 2) (fun i σ H' => (∃ y1 y2 y3 y4 y5 y6 y7, σ = [some (.ref a0), y1, y2, y3, y4, y5, y6, y7]) ∧ SqL K H' a0 (ns.map V.int)) ⟨⟨none, none, none, none, none, none, none, rfl⟩, hS⟩ ?_ ?_⟩
    · rintro i σ H0 hi ⟨⟨y1, y2, y3, y4, y5, y6, y7, rfl⟩, hS0⟩
      refine ⟨.ref a0, rfl, .int (0 + i), rfl, a0, 0 + i, ns, rfl, hS0, hl, by omega, by omega, fun H1 m cc s1 nm M1 => ?_⟩
      refine ⟨.ref m, rfl, m, cc, 0, 4, rfl, M1, by decide, by decide, by decide, fun H2 v1 b2 M2 v10 v11 => ?_⟩
      refine ⟨.ref m, rfl, m, cc, _, 2, rfl, M2, by decide, by decide, by decide, fun H3 v2 b3 M3 v20 v21 => ⟨2, v2, rfl, rfl, ?_⟩⟩
      refine ⟨.ref m, rfl, m, cc, _, 4, rfl, M3, by decide, by decide, by decide, fun H4 v3 b4 M4 v30 v31 => ⟨rfl, _, rfl, ?_⟩⟩
      refine tif_both (fun v => ∃ n : Nat, n ≤ 5 ∧ v = .int n) (fun x3 hx3 => ?_) (fun _ hq => hq _ ⟨5, by decide, rfl⟩) (fun _ hq => hq _ ⟨3, by decide, rfl⟩)
      refine ⟨by show 3 ≤ sizeLine; decide, fun L nL => ?_⟩
      have s5 : Same H4 (upd H4 L (.lst [.int v1, .int (2 + v2), x3])) := same_new nL
      have g5 : upd H4 L (.lst [.int v1, .int (2 + v2), x3]) L = some (.lst [.int v1, .int (2 + v2), x3]) := upd_same
      obtain ⟨kv4, hm4⟩ := M4.m_some
      have Lm : L ≠ m := Ne.symm (ne_of_none hm4 nL)
      generalize upd H4 L (.lst [.int v1, .int (2 + v2), x3]) = H5 at s5 g5 ⊢
      have M5 := M4.same s5
      have b15 := ((b2.trans b3).trans b4).trans (SameBut.of s5)
      refine ⟨L, rfl, ⟨_, SqL.of g5⟩, ?_⟩
      refine for_it (walk_list (K := K) (a := L) (xs := [.int v1, .int (2 + v2), x3])) (fun j σ H' => (∃ y2 y3 y5 y6 y7, σ = [some (.ref a0), some (.int (0 + i)), y2, y3, some (.ref m), y5, y6, y7]) ∧ SameBut m H5 H' ∧ MOk H' m cc (3 + 200 * j)) ⟨⟨_, _, _, _, _, rfl⟩, SameBut.refl _ _, M5⟩ (fun j σ H' _ p => SqL.of (p.2.1 _ _ Lm g5)) ?_ ?_
      · rintro j x σ H6 H6' hj ⟨⟨y2, y3, y5, y6, y7, rfl⟩, b6, M6⟩ ⟨rfl, hx⟩
        have hj : j < 3 := hj
        obtain ⟨n, hn, rfl⟩ : ∃ n : Nat, n ≤ 5 ∧ x = .int n := by
          match j, hj, hx with
          | 0, _, hx => exact ⟨v1.toNat, by omega, by rw [← Option.some.inj hx, Int.toNat_of_nonneg v10]⟩
          | 1, _, hx => exact ⟨(2 + v2).toNat, by omega, by rw [← Option.some.inj hx, Int.toNat_of_nonneg (by omega)]⟩
          | 2, _, hx =>
            obtain ⟨n, hn, e⟩ := hx3
            exact ⟨n, hn, by rw [← Option.some.inj hx, e]⟩
        refine ⟨.ref m, rfl, .int n, rfl, m, cc, _, n, rfl, M6, by omega, hn, fun H7 b7 M7 => ⟨_, rfl, iteF ⟨⟨_, _, _, _, _, rfl⟩, b6.trans b7, M7.mono (by omega)⟩⟩⟩
      · rintro σ H6 ⟨⟨y2, y3, y5, y6, y7, rfl⟩, b6, M6⟩
        exact ⟨⟨_, _, _, _, _, _, _, rfl⟩, sql_same hS0 (sm_but nm s1 (b15.trans b6))⟩
    · rintro σ H0 ⟨⟨y1, y2, y3, y4, y5, y6, y7, rfl⟩, hS0⟩
      clear hS hS0
      refine ⟨9, rfl, by decide, by decide, fun D nD => ?_⟩
      refine lc_objs (walk_range (lo := 0) (n := 9)) (fun i => .tup ((unitR 9 i).map V.int)) (small (by decide)) nD (fun H' s => True.intro) ?_ ?_
      · rintro i x H8 H8' Qy hi s8 ⟨rfl, rfl⟩ hq
        refine ⟨rfl, 9, rfl, by decide, by decide, fun D3 nD3 => ?_⟩
        refine lc_to (walk_range (lo := 0) (n := 9)) ((unitR 9 i).map V.int) (by rw [List.length_map, unitR_len]) (small (by decide)) nD3 (fun H' s => True.intro) ?_ ?_
        · rintro j x v9 H9 H9' Qy hv9 hj s9 ⟨rfl, rfl⟩ hq
          obtain ⟨u9, hu9, rfl⟩ := map_get hv9
          have eu : u9 = if i = j then 1 else 0 := by
            unfold unitR at hu9
            rw [List.getElem?_map, List.getElem?_range hj] at hu9
            exact (Option.some.inj hu9).symm
          refine ⟨rfl, .int (0 + i), rfl, .int (0 + j), rfl, rfl, _, rfl, ite2 (fun z => ?_) (fun z => ?_)⟩
          · have z := V.int.inj (of_decide_eq_true z)
            rw [if_pos (by omega)] at eu
            rw [eu] at hq
            exact hq _ (Same.refl _)
          · have z : ¬ (0 + (i : Int) = 0 + j) := fun y => z (decide_eq_true (by rw [y]))
            rw [if_neg (by omega)] at eu
            rw [eu] at hq
            exact hq _ (Same.refl _)
        · intro H9 s9 d9
          exact ⟨D3, _, rfl, .inl ⟨SqL.of d9, fun T nT => hq T _ (s9.trans (same_new nT)) (s9.free nT) upd_same⟩⟩
      intro H1 us s1 d1 lus _ _ obu
      refine ⟨D, _, rfl, .inl ⟨SqL.of d1, fun W nW => ?_⟩⟩
      have sW : Same H1 (upd H1 W (.tup (us.map V.ref))) := same_new nW
      have gW : Tp (upd H1 W (.tup (us.map V.ref))) W (us.map V.ref) := upd_same
      generalize upd H1 W (.tup (us.map V.ref)) = H2 at sW gW ⊢
      have TW : TabR H2 W ((List.range 9).map (unitR 9)) ((List.range 9).map (unitR 9)).length := by
        refine ⟨us, gW, lus, fun i p r e1 e2 => ?_⟩
        have hi : i < 9 := by
          have := (List.getElem?_eq_some_iff.mp e1).1
          omega
        rw [List.getElem?_map, List.getElem?_range hi] at e2
        obtain rfl := Option.some.inj e2
        exact ⟨⟨sW _ _ (obu i p e1), by rw [unitR_len]; decide, fun x hx => smz_mono (unitR_sm 9 i x hx) (by decide)⟩, by rw [unitR_len]; rfl⟩
      refine ⟨by show 0 ≤ sizeLine; decide, fun e1 ne1 => ?_⟩
      have se1 : Same H2 (upd H2 e1 (.tup [])) := same_new ne1
      have ge1 : upd H2 e1 (.tup []) e1 = some (.tup []) := upd_same
      generalize upd H2 e1 (.tup []) = H3 at se1 ge1 ⊢
      have tn : ∀ {H : Hp} {a : Addr}, H a = some (.tup []) → TabR H a [] 0 := fun h => ⟨[], h, rfl, fun i p r e1 _ => by cases e1⟩
      have rn : ∀ {H : Hp} {a : Addr}, H a = some (.tup []) → Row H a [] := fun h => ⟨h, by decide, fun x hx => by cases hx⟩
      refine ⟨e1, [], rfl, tn ge1, by decide, fun H4 s4 => ?_⟩
      have v1 : det ([] : List (List Int)).length (mL []) = 1 := rfl
      rw [v1]
      refine ⟨by show 0 ≤ sizeLine; decide, fun e2 ne2 => ?_⟩
      have se2 : Same H4 (upd H4 e2 (.tup [])) := same_new ne2
      have ge2 : upd H4 e2 (.tup []) e2 = some (.tup []) := upd_same
      generalize upd H4 e2 (.tup []) = H5 at se2 ge2 ⊢
      refine ⟨by show 0 ≤ sizeLine; decide, fun e3 ne3 => ?_⟩
      have se3 : Same H5 (upd H5 e3 (.tup [])) := same_new ne3
      have ge3 : upd H5 e3 (.tup []) e3 = some (.tup []) := upd_same
      generalize upd H5 e3 (.tup []) = H6 at se3 ge3 ⊢
      refine ⟨e2, e3, [], [], rfl, tn (se3 _ _ ge2), tn ge3, by decide, by decide, fun r1 ps1 H7 s7 g7 W7 => ?_⟩
      obtain rfl := List.eq_nil_of_length_eq_zero W7.1
      have g7 : H7 r1 = some (.tup []) := g7
      refine ⟨by show 0 ≤ sizeLine; decide, fun e4 ne4 => ?_⟩
      have se4 : Same H7 (upd H7 e4 (.tup [])) := same_new ne4
      have ge4 : upd H7 e4 (.tup []) e4 = some (.tup []) := upd_same
      generalize upd H7 e4 (.tup []) = H8 at se4 ge4 ⊢
      refine ⟨by show 0 ≤ sizeLine; decide, fun e5 ne5 => ?_⟩
      have se5 : Same H8 (upd H8 e5 (.tup [])) := same_new ne5
      have ge5 : upd H8 e5 (.tup []) e5 = some (.tup []) := upd_same
      generalize upd H8 e5 (.tup []) = H9 at se5 ge5 ⊢
      refine ⟨e4, e5, [], [], rfl, tn ge5, rn (se5 _ _ ge4), rfl, by decide, fun r2 H10 s10 g10 => ?_⟩
      have g10 : H10 r2 = some (.tup []) := g10
      have s79 := se4.trans se5
      have s210 := (((((se1.trans s4).trans se2).trans se3).trans s7).trans s79).trans s10
      refine ⟨.ref W, rfl, W, _, rfl, TW.same s210, by decide, fun H11 s11 => ?_⟩
      have v2 : det ((List.range 9).map (unitR 9)).length (mL ((List.range 9).map (unitR 9))) = 1 := wide_det
      rw [v2]
      refine ⟨by show 4 ≤ sizeLine; decide, fun L1 nL1 => ?_⟩
      have sL1 : Same H11 (upd H11 L1 (.lst [.int 1, .ref r1, .ref r2, .int 1])) := same_new nL1
      have gL1 : upd H11 L1 (.lst [.int 1, .ref r1, .ref r2, .int 1]) L1 = some (.lst [.int 1, .ref r1, .ref r2, .int 1]) := upd_same
      generalize upd H11 L1 (.lst [.int 1, .ref r1, .ref r2, .int 1]) = H12 at sL1 gL1 ⊢
      refine ⟨.ref L1, rfl, ?_⟩
      refine ⟨by show 2 ≤ sizeLine; decide, fun c1 nc1 => ?_⟩
      have sc1 : Same H12 (upd H12 c1 (.tup [.int 0, .int 1])) := same_new nc1
      have gc1 : upd H12 c1 (.tup [.int 0, .int 1]) c1 = some (.tup [.int 0, .int 1]) := upd_same
      generalize upd H12 c1 (.tup [.int 0, .int 1]) = H13 at sc1 gc1 ⊢
      refine ⟨by show 2 ≤ sizeLine; decide, fun c2 nc2 => ?_⟩
      have sc2 : Same H13 (upd H13 c2 (.tup [.int 1, .int 0])) := same_new nc2
      have gc2 : upd H13 c2 (.tup [.int 1, .int 0]) c2 = some (.tup [.int 1, .int 0]) := upd_same
      generalize upd H13 c2 (.tup [.int 1, .int 0]) = H14 at sc2 gc2 ⊢
      refine ⟨by show 2 ≤ sizeLine; decide, fun c3 nc3 => ?_⟩
      have sc3 : Same H14 (upd H14 c3 (.tup [.ref c1, .ref c2])) := same_new nc3
      have gc3 : upd H14 c3 (.tup [.ref c1, .ref c2]) c3 = some (.tup [.ref c1, .ref c2]) := upd_same
      generalize upd H14 c3 (.tup [.ref c1, .ref c2]) = H15 at sc3 gc3 ⊢
      have TC : TabR H15 c3 [[0, 1], [1, 0]] 2 := by
        refine ⟨[c1, c2], gc3, rfl, fun i p r a b => ?_⟩
        match i, a, b with
        | 0, a, b =>
          obtain rfl := Option.some.inj a
          obtain rfl := Option.some.inj b
          exact ⟨⟨(sc2.trans sc3) _ _ gc1, by decide, by decide⟩, rfl⟩
        | 1, a, b =>
          obtain rfl := Option.some.inj a
          obtain rfl := Option.some.inj b
          exact ⟨⟨sc3 _ _ gc2, by decide, by decide⟩, rfl⟩
        | i + 2, a, b => cases a
      refine ⟨c3, [[0, 1], [1, 0]], rfl, TC, by decide, fun H16 s16 => ?_⟩
      have v3 : det ([[0, 1], [1, 0]] : List (List Int)).length (mL [[0, 1], [1, 0]]) = -1 := by decide
      rw [v3]
      refine ⟨by show 1 ≤ sizeLine; decide, fun L2 nL2 => ?_⟩
      have sL2 : Same H16 (upd H16 L2 (.lst [.int (-1)])) := same_new nL2
      have gL2 : upd H16 L2 (.lst [.int (-1)]) L2 = some (.lst [.int (-1)]) := upd_same
      generalize upd H16 L2 (.lst [.int (-1)]) = H17 at sL2 gL2 ⊢
      have s1217 := (((sc1.trans sc2).trans sc3).trans s16).trans sL2
      refine ⟨L1, L2, _, _, rfl, rfl, s1217 _ _ gL1, gL2, by show 4 + 1 ≤ sizeLine; decide, fun L3 nL3 => ?_⟩
      have s18 : Same H17 (upd H17 L3 (.lst ([.int 1, .ref r1, .ref r2, .int 1] ++ [.int (-1)]))) := same_new nL3
      have g18 : upd H17 L3 (.lst ([.int 1, .ref r1, .ref r2, .int 1] ++ [.int (-1)])) L3 = some (.lst [.int 1, .ref r1, .ref r2, .int 1, .int (-1)]) := upd_same
      generalize upd H17 L3 (.lst ([.int 1, .ref r1, .ref r2, .int 1] ++ [.int (-1)])) = H18 at s18 g18 ⊢
      refine ⟨by show 0 ≤ sizeLine; decide, fun d1 nd1 => ?_⟩
      have sd1 : Same H18 (upd H18 d1 (.tup [])) := same_new nd1
      have gd1 : upd H18 d1 (.tup []) d1 = some (.tup []) := upd_same
      generalize upd H18 d1 (.tup []) = H19 at sd1 gd1 ⊢
      refine ⟨by show 0 ≤ sizeLine; decide, fun d2 nd2 => ?_⟩
      have sd2 : Same H19 (upd H19 d2 (.tup [])) := same_new nd2
      have gd2 : upd H19 d2 (.tup []) d2 = some (.tup []) := upd_same
      generalize upd H19 d2 (.tup []) = H20 at sd2 gd2 ⊢
      refine ⟨1, rfl, ?_⟩
      refine ⟨by show 5 ≤ sizeLine; decide, fun L4 nL4 => ?_⟩
      have sL4 : Same H20 (upd H20 L4 (.lst [.int 1, .ref d1, .ref d2, .int 1, .int (-1)])) := same_new nL4
      have gL4 : upd H20 L4 (.lst [.int 1, .ref d1, .ref d2, .int 1, .int (-1)]) L4 = some (.lst [.int 1, .ref d1, .ref d2, .int 1, .int (-1)]) := upd_same
      generalize upd H20 L4 (.lst [.int 1, .ref d1, .ref d2, .int 1, .int (-1)]) = H21 at sL4 gL4 ⊢
      have nl : ∀ {H : Hp} {a : Addr}, H a = some (.tup []) → Dp K H (.ref a) (dRow []) := fun h => dp_row (r := []) h
      have s1821 := (sd1.trans sd2).trans sL4
      have s1021 := ((s11.trans sL1).trans s1217).trans (s18.trans s1821)
      have s721 := (s79.trans s10).trans s1021
      refine ⟨.ref L3, .ref L4, .list [.int 1, dRow [], dRow [], .int 1, .int (-1)], rfl, .lst (SqL.of (s1821 _ _ g18)) (.cons (.int _) (.cons (nl (s721 _ _ g7)) (.cons (nl (s1021 _ _ g10)) (.cons (.int _) (.cons (.int _) .nil))))), .lst (SqL.of gL4) (.cons (.int _) (.cons (nl ((sd2.trans sL4) _ _ gd1)) (.cons (nl (sL4 _ _ gd2)) (.cons (.int _) (.cons (.int _) .nil))))), ?_, k _⟩
      have f0 : FitN 2 9 (dRow []) := fit_ints (k := 1) 9 [] (fun x hx => by cases hx) (by decide)
      exact FitN.mono (FitN.list (k := 2) (n := 100) (.cons (n := 100) (a := 0) (FitN.int (by decide)) (.cons (n := 80) f0 (.cons (n := 60) f0 (.cons (n := 40) (a := 0) (FitN.int (by decide)) (.cons (n := 20) (a := 0) (FitN.int (by decide)) (.nil (n := 0)) (by decide)) (by decide)) (by decide)) (by decide)) (by decide))) (by decide) (by decide)
end
end K09
namespace K09
open PySem PySem.Spec PyProof.Rows L2 Vk
section
variable {P : Program} {w : World} {K : PySem.W.Frag} {mg : Str → Option Value} {base : Heap}
/-- a def of the text by its name -/
theorem cal_of {x : Str} {st : Stmt} {f : Addr} {fd : FuncData} {k : Nat} {ps : List Str} {sp : Sp} (F : Fun K x x st f fd) (g : mg x = some (.ref f)) (G : FnOk P w K mg base CX0 k f fd ps sp) (b : Binds K fd ps []) : Cal P w K mg base k x ps sp := ⟨f, fd, G, g, F.kp, b⟩
theorem calG_of {x : Str} {st : Stmt} {f : Addr} {fd : FuncData} {k : Nat} {ps : List Str} {sp : Sp} (F : Fun K x x st f fd) (g : mg x = some (.ref f)) (G : FnG P w K mg base k f fd ps sp) (b : Binds K fd ps []) : CalG P w K mg base k x ps sp := ⟨f, fd, G, g, F.kp, b⟩
theorem all_mk {l : PySem.W.OpenLaw} {h : Heap} {fa f_psum f_cleared f_swept f_det f_turned f_trow f_tcol f_ttable f_begun f_draw f_like f_ldet f_ltimes f_signed f_table f_lturned f_moved f_right f_law   : Addr} (X : K.In h) (G : h.Ns mainGlobals mg) (hfa : mg "law" = some (.ref fa))
     {od_psum an_psum od_cleared an_cleared od_swept an_swept od_det an_det od_turned an_turned od_trow an_trow od_tcol an_tcol od_ttable an_ttable od_begun an_begun od_draw an_draw od_like an_like od_ldet an_ldet od_ltimes an_ltimes od_signed an_signed od_table an_table od_lturned an_lturned od_moved an_moved od_right an_right od_law an_law : Option Addr} {sl_psum sl_cleared sl_swept sl_det sl_turned sl_trow sl_tcol sl_ttable sl_begun sl_draw sl_like sl_ldet sl_ltimes sl_signed sl_table sl_lturned sl_moved sl_right sl_law : Array (Option Value)}
    {oc_psum kV_psum dc_psum pm_psum cd_psum ct_psum oc_cleared kV_cleared dc_cleared pm_cleared cd_cleared ct_cleared oc_swept kV_swept dc_swept pm_swept cd_swept ct_swept oc_det kV_det dc_det pm_det cd_det ct_det oc_turned kV_turned dc_turned pm_turned cd_turned ct_turned oc_trow kV_trow dc_trow pm_trow cd_trow ct_trow oc_tcol kV_tcol dc_tcol pm_tcol cd_tcol ct_tcol oc_ttable kV_ttable dc_ttable pm_ttable cd_ttable ct_ttable oc_begun kV_begun dc_begun pm_begun cd_begun ct_begun oc_draw kV_draw dc_draw pm_draw cd_draw ct_draw oc_like kV_like dc_like pm_like cd_like ct_like oc_ldet kV_ldet dc_ldet pm_ldet cd_ldet ct_ldet oc_ltimes kV_ltimes dc_ltimes pm_ltimes cd_ltimes ct_ltimes oc_signed kV_signed dc_signed pm_signed cd_signed ct_signed oc_table kV_table dc_table pm_table cd_table ct_table oc_lturned kV_lturned dc_lturned pm_lturned cd_lturned ct_lturned oc_moved kV_moved dc_moved pm_moved cd_moved ct_moved oc_right kV_right dc_right pm_right cd_right ct_right oc_law kV_law dc_law pm_law cd_law ct_law : Value}
    (a_psum : PySem.W.nsIn K mainGlobals "product_sum" = some (some (.ref f_psum)))
    (l_psum : K.lookup f_psum = some ⟨oc_psum, od_psum, .func (PySem.W.fnOf "product_sum" "product_sum" (defArgs s_psum) (defBody s_psum) (defScope s_psum) .none kV_psum dc_psum pm_psum an_psum (cd_psum) ct_psum), sl_psum⟩)
    (c_psum : PySem.W.codeIn K (cd_psum) "product_sum" = true)
    (k_psum : PySem.W.keepIn K (.ref f_psum) = true)
    (a_cleared : PySem.W.nsIn K mainGlobals "_cleared" = some (some (.ref f_cleared)))
    (l_cleared : K.lookup f_cleared = some ⟨oc_cleared, od_cleared, .func (PySem.W.fnOf "_cleared" "_cleared" (defArgs s_cleared) (defBody s_cleared) (defScope s_cleared) .none kV_cleared dc_cleared pm_cleared an_cleared (cd_cleared) ct_cleared), sl_cleared⟩)
    (c_cleared : PySem.W.codeIn K (cd_cleared) "_cleared" = true)
    (k_cleared : PySem.W.keepIn K (.ref f_cleared) = true)
    (a_swept : PySem.W.nsIn K mainGlobals "swept" = some (some (.ref f_swept)))
    (l_swept : K.lookup f_swept = some ⟨oc_swept, od_swept, .func (PySem.W.fnOf "swept" "swept" (defArgs s_swept) (defBody s_swept) (defScope s_swept) .none kV_swept dc_swept pm_swept an_swept (cd_swept) ct_swept), sl_swept⟩)
    (c_swept : PySem.W.codeIn K (cd_swept) "swept" = true)
    (k_swept : PySem.W.keepIn K (.ref f_swept) = true)
    (a_det : PySem.W.nsIn K mainGlobals "determinant" = some (some (.ref f_det)))
    (l_det : K.lookup f_det = some ⟨oc_det, od_det, .func (PySem.W.fnOf "determinant" "determinant" (defArgs s_det) (defBody s_det) (defScope s_det) .none kV_det dc_det pm_det an_det (cd_det) ct_det), sl_det⟩)
    (c_det : PySem.W.codeIn K (cd_det) "determinant" = true)
    (k_det : PySem.W.keepIn K (.ref f_det) = true)
    (a_turned : PySem.W.nsIn K mainGlobals "turned" = some (some (.ref f_turned)))
    (l_turned : K.lookup f_turned = some ⟨oc_turned, od_turned, .func (PySem.W.fnOf "turned" "turned" (defArgs s_turned) (defBody s_turned) (defScope s_turned) .none kV_turned dc_turned pm_turned an_turned (cd_turned) ct_turned), sl_turned⟩)
    (c_turned : PySem.W.codeIn K (cd_turned) "turned" = true)
    (k_turned : PySem.W.keepIn K (.ref f_turned) = true)
    (a_trow : PySem.W.nsIn K mainGlobals "times_row" = some (some (.ref f_trow)))
    (l_trow : K.lookup f_trow = some ⟨oc_trow, od_trow, .func (PySem.W.fnOf "times_row" "times_row" (defArgs s_trow) (defBody s_trow) (defScope s_trow) .none kV_trow dc_trow pm_trow an_trow (cd_trow) ct_trow), sl_trow⟩)
    (c_trow : PySem.W.codeIn K (cd_trow) "times_row" = true)
    (k_trow : PySem.W.keepIn K (.ref f_trow) = true)
    (a_tcol : PySem.W.nsIn K mainGlobals "times_column" = some (some (.ref f_tcol)))
    (l_tcol : K.lookup f_tcol = some ⟨oc_tcol, od_tcol, .func (PySem.W.fnOf "times_column" "times_column" (defArgs s_tcol) (defBody s_tcol) (defScope s_tcol) .none kV_tcol dc_tcol pm_tcol an_tcol (cd_tcol) ct_tcol), sl_tcol⟩)
    (c_tcol : PySem.W.codeIn K (cd_tcol) "times_column" = true)
    (k_tcol : PySem.W.keepIn K (.ref f_tcol) = true)
    (a_ttable : PySem.W.nsIn K mainGlobals "times_table" = some (some (.ref f_ttable)))
    (l_ttable : K.lookup f_ttable = some ⟨oc_ttable, od_ttable, .func (PySem.W.fnOf "times_table" "times_table" (defArgs s_ttable) (defBody s_ttable) (defScope s_ttable) .none kV_ttable dc_ttable pm_ttable an_ttable (cd_ttable) ct_ttable), sl_ttable⟩)
    (c_ttable : PySem.W.codeIn K (cd_ttable) "times_table" = true)
    (k_ttable : PySem.W.keepIn K (.ref f_ttable) = true)
    (a_begun : PySem.W.nsIn K mainGlobals "_law_begun" = some (some (.ref f_begun)))
    (l_begun : K.lookup f_begun = some ⟨oc_begun, od_begun, .func (PySem.W.fnOf "_law_begun" "_law_begun" (defArgs s_begun) (defBody s_begun) (defScope s_begun) .none kV_begun dc_begun pm_begun an_begun (cd_begun) ct_begun), sl_begun⟩)
    (c_begun : PySem.W.codeIn K (cd_begun) "_law_begun" = true)
    (k_begun : PySem.W.keepIn K (.ref f_begun) = true)
    (a_draw : PySem.W.nsIn K mainGlobals "_law_draw" = some (some (.ref f_draw)))
    (l_draw : K.lookup f_draw = some ⟨oc_draw, od_draw, .func (PySem.W.fnOf "_law_draw" "_law_draw" (defArgs s_draw) (defBody s_draw) (defScope s_draw) .none kV_draw dc_draw pm_draw an_draw (cd_draw) ct_draw), sl_draw⟩)
    (c_draw : PySem.W.codeIn K (cd_draw) "_law_draw" = true)
    (k_draw : PySem.W.keepIn K (.ref f_draw) = true)
    (a_like : PySem.W.nsIn K mainGlobals "_law_like" = some (some (.ref f_like)))
    (l_like : K.lookup f_like = some ⟨oc_like, od_like, .func (PySem.W.fnOf "_law_like" "_law_like" (defArgs s_like) (defBody s_like) (defScope s_like) .none kV_like dc_like pm_like an_like (cd_like) ct_like), sl_like⟩)
    (c_like : PySem.W.codeIn K (cd_like) "_law_like" = true)
    (k_like : PySem.W.keepIn K (.ref f_like) = true)
    (a_ldet : PySem.W.nsIn K mainGlobals "_law_det" = some (some (.ref f_ldet)))
    (l_ldet : K.lookup f_ldet = some ⟨oc_ldet, od_ldet, .func (PySem.W.fnOf "_law_det" "_law_det" (defArgs s_ldet) (defBody s_ldet) (defScope s_ldet) .none kV_ldet dc_ldet pm_ldet an_ldet (cd_ldet) ct_ldet), sl_ldet⟩)
    (c_ldet : PySem.W.codeIn K (cd_ldet) "_law_det" = true)
    (k_ldet : PySem.W.keepIn K (.ref f_ldet) = true)
    (a_ltimes : PySem.W.nsIn K mainGlobals "_law_times" = some (some (.ref f_ltimes)))
    (l_ltimes : K.lookup f_ltimes = some ⟨oc_ltimes, od_ltimes, .func (PySem.W.fnOf "_law_times" "_law_times" (defArgs s_ltimes) (defBody s_ltimes) (defScope s_ltimes) .none kV_ltimes dc_ltimes pm_ltimes an_ltimes (cd_ltimes) ct_ltimes), sl_ltimes⟩)
    (c_ltimes : PySem.W.codeIn K (cd_ltimes) "_law_times" = true)
    (k_ltimes : PySem.W.keepIn K (.ref f_ltimes) = true)
    (a_signed : PySem.W.nsIn K mainGlobals "_law_signed" = some (some (.ref f_signed)))
    (l_signed : K.lookup f_signed = some ⟨oc_signed, od_signed, .func (PySem.W.fnOf "_law_signed" "_law_signed" (defArgs s_signed) (defBody s_signed) (defScope s_signed) .none kV_signed dc_signed pm_signed an_signed (cd_signed) ct_signed), sl_signed⟩)
    (c_signed : PySem.W.codeIn K (cd_signed) "_law_signed" = true)
    (k_signed : PySem.W.keepIn K (.ref f_signed) = true)
    (a_table : PySem.W.nsIn K mainGlobals "_law_table" = some (some (.ref f_table)))
    (l_table : K.lookup f_table = some ⟨oc_table, od_table, .func (PySem.W.fnOf "_law_table" "_law_table" (defArgs s_table) (defBody s_table) (defScope s_table) .none kV_table dc_table pm_table an_table (cd_table) ct_table), sl_table⟩)
    (c_table : PySem.W.codeIn K (cd_table) "_law_table" = true)
    (k_table : PySem.W.keepIn K (.ref f_table) = true)
    (a_lturned : PySem.W.nsIn K mainGlobals "_law_turned_over" = some (some (.ref f_lturned)))
    (l_lturned : K.lookup f_lturned = some ⟨oc_lturned, od_lturned, .func (PySem.W.fnOf "_law_turned_over" "_law_turned_over" (defArgs s_lturned) (defBody s_lturned) (defScope s_lturned) .none kV_lturned dc_lturned pm_lturned an_lturned (cd_lturned) ct_lturned), sl_lturned⟩)
    (c_lturned : PySem.W.codeIn K (cd_lturned) "_law_turned_over" = true)
    (k_lturned : PySem.W.keepIn K (.ref f_lturned) = true)
    (a_moved : PySem.W.nsIn K mainGlobals "_law_moved_right" = some (some (.ref f_moved)))
    (l_moved : K.lookup f_moved = some ⟨oc_moved, od_moved, .func (PySem.W.fnOf "_law_moved_right" "_law_moved_right" (defArgs s_moved) (defBody s_moved) (defScope s_moved) .none kV_moved dc_moved pm_moved an_moved (cd_moved) ct_moved), sl_moved⟩)
    (c_moved : PySem.W.codeIn K (cd_moved) "_law_moved_right" = true)
    (k_moved : PySem.W.keepIn K (.ref f_moved) = true)
    (a_right : PySem.W.nsIn K mainGlobals "_law_right" = some (some (.ref f_right)))
    (l_right : K.lookup f_right = some ⟨oc_right, od_right, .func (PySem.W.fnOf "_law_right" "_law_right" (defArgs s_right) (defBody s_right) (defScope s_right) .none kV_right dc_right pm_right an_right (cd_right) ct_right), sl_right⟩)
    (c_right : PySem.W.codeIn K (cd_right) "_law_right" = true)
    (k_right : PySem.W.keepIn K (.ref f_right) = true)
    (a_law : PySem.W.nsIn K mainGlobals "law" = some (some (.ref f_law)))
    (l_law : K.lookup f_law = some ⟨oc_law, od_law, .func (PySem.W.fnOf "law" "law" (defArgs s_law) (defBody s_law) (defScope s_law) .none kV_law dc_law pm_law an_law (cd_law) ct_law), sl_law⟩)
    (c_law : PySem.W.codeIn K (cd_law) "law" = true)
    (k_law : PySem.W.keepIn K (.ref f_law) = true)
    (m_int : PySem.W.nsIn K mainGlobals "int" = some none)
    (m_tuple : PySem.W.nsIn K mainGlobals "tuple" = some none)
    (m_len : PySem.W.nsIn K mainGlobals "len" = some none)
    (m_repr : PySem.W.nsIn K mainGlobals "repr" = some none)
    (m_range : PySem.W.nsIn K mainGlobals "range" = some none)
    (m_sum : PySem.W.nsIn K mainGlobals "sum" = some none)
    (m_enumerate : PySem.W.nsIn K mainGlobals "enumerate" = some none)
    (m_zip : PySem.W.nsIn K mainGlobals "zip" = some none)
    (m_list : PySem.W.nsIn K mainGlobals "list" = some none) :
    ∃ fd : FuncData, (∀ (s : Shared) (u : Value), BindsTo s fd ⟨[u], []⟩ [("script", u)]) ∧ ∀ base : Heap, K.In base → base.Ns mainGlobals mg → FnG l.prog w K mg base 9 fa fd ["script"] (spLaw K) := by
  obtain rfl := Value.ref.inj (Option.some.inj (hfa.symm.trans (PySem.W.mg_of X G a_law)))
  have F_psum := fun_mk (st := s_psum) l_psum c_psum k_psum
  have G_psum := PySem.W.mg_of X G a_psum
  have B_psum := F_psum.binds (ps := ["one", "other"]) fun _ _ _ _ _ _ us hl => match us, hl with | [_, _], _ => rfl
  have F_cleared := fun_mk (st := s_cleared) l_cleared c_cleared k_cleared
  have G_cleared := PySem.W.mg_of X G a_cleared
  have B_cleared := F_cleared.binds (ps := ["row", "lead", "column", "last"]) fun _ _ _ _ _ _ us hl => match us, hl with | [_, _, _, _], _ => rfl
  have F_swept := fun_mk (st := s_swept) l_swept c_swept k_swept
  have G_swept := PySem.W.mg_of X G a_swept
  have B_swept := F_swept.binds (ps := ["rows"]) fun _ _ _ _ _ _ us hl => match us, hl with | [_], _ => rfl
  have F_det := fun_mk (st := s_det) l_det c_det k_det
  have G_det := PySem.W.mg_of X G a_det
  have B_det := F_det.binds (ps := ["table"]) fun _ _ _ _ _ _ us hl => match us, hl with | [_], _ => rfl
  have F_turned := fun_mk (st := s_turned) l_turned c_turned k_turned
  have G_turned := PySem.W.mg_of X G a_turned
  have B_turned := F_turned.binds (ps := ["rows", "width"]) fun _ _ _ _ _ _ us hl => match us, hl with | [_, _], _ => rfl
  have F_trow := fun_mk (st := s_trow) l_trow c_trow k_trow
  have G_trow := PySem.W.mg_of X G a_trow
  have B_trow := F_trow.binds (ps := ["row", "table"]) fun _ _ _ _ _ _ us hl => match us, hl with | [_, _], _ => rfl
  have F_tcol := fun_mk (st := s_tcol) l_tcol c_tcol k_tcol
  have G_tcol := PySem.W.mg_of X G a_tcol
  have B_tcol := F_tcol.binds (ps := ["table", "column"]) fun _ _ _ _ _ _ us hl => match us, hl with | [_, _], _ => rfl
  have F_ttable := fun_mk (st := s_ttable) l_ttable c_ttable k_ttable
  have G_ttable := PySem.W.mg_of X G a_ttable
  have B_ttable := F_ttable.binds (ps := ["one", "other"]) fun _ _ _ _ _ _ us hl => match us, hl with | [_, _], _ => rfl
  have F_begun := fun_mk (st := s_begun) l_begun c_begun k_begun
  have G_begun := PySem.W.mg_of X G a_begun
  have B_begun := F_begun.binds (ps := ["script", "k_so"]) fun _ _ _ _ _ _ us hl => match us, hl with | [_, _], _ => rfl
  have F_draw := fun_mk (st := s_draw) l_draw c_draw k_draw
  have G_draw := PySem.W.mg_of X G a_draw
  have B_draw := F_draw.binds (ps := ["m", "bound"]) fun _ _ _ _ _ _ us hl => match us, hl with | [_, _], _ => rfl
  have F_like := fun_mk (st := s_like) l_like c_like k_like
  have G_like := PySem.W.mg_of X G a_like
  have B_like := F_like.binds (ps := ["got", "due"]) fun _ _ _ _ _ _ us hl => match us, hl with | [_, _], _ => rfl
  have F_ldet := fun_mk (st := s_ldet) l_ldet c_ldet k_ldet
  have G_ldet := PySem.W.mg_of X G a_ldet
  have B_ldet := F_ldet.binds (ps := ["table"]) fun _ _ _ _ _ _ us hl => match us, hl with | [_], _ => rfl
  have F_ltimes := fun_mk (st := s_ltimes) l_ltimes c_ltimes k_ltimes
  have G_ltimes := PySem.W.mg_of X G a_ltimes
  have B_ltimes := F_ltimes.binds (ps := ["one", "other"]) fun _ _ _ _ _ _ us hl => match us, hl with | [_, _], _ => rfl
  have F_signed := fun_mk (st := s_signed) l_signed c_signed k_signed
  have G_signed := PySem.W.mg_of X G a_signed
  have B_signed := F_signed.binds (ps := ["m", "most"]) fun _ _ _ _ _ _ us hl => match us, hl with | [_, _], _ => rfl
  have F_table := fun_mk (st := s_table) l_table c_table k_table
  have G_table := PySem.W.mg_of X G a_table
  have B_table := F_table.binds (ps := ["m", "size_so"]) fun _ _ _ _ _ _ us hl => match us, hl with | [_, _], _ => rfl
  have F_lturned := fun_mk (st := s_lturned) l_lturned c_lturned k_lturned
  have G_lturned := PySem.W.mg_of X G a_lturned
  have B_lturned := F_lturned.binds (ps := ["table"]) fun _ _ _ _ _ _ us hl => match us, hl with | [_], _ => rfl
  have F_moved := fun_mk (st := s_moved) l_moved c_moved k_moved
  have G_moved := PySem.W.mg_of X G a_moved
  have B_moved := F_moved.binds (ps := ["m", "table", "det"]) fun _ _ _ _ _ _ us hl => match us, hl with | [_, _, _], _ => rfl
  have F_right := fun_mk (st := s_right) l_right c_right k_right
  have G_right := PySem.W.mg_of X G a_right
  have B_right := F_right.binds (ps := ["m", "size_so"]) fun _ _ _ _ _ _ us hl => match us, hl with | [_, _], _ => rfl
  have F_law := fun_mk (st := s_law) l_law c_law k_law
  have G_law := PySem.W.mg_of X G a_law
  have B_law := F_law.binds (ps := ["script"]) fun _ _ _ _ _ _ us hl => match us, hl with | [_], _ => rfl
  have M_int := PySem.W.mg_none_of X G m_int
  have M_tuple := PySem.W.mg_none_of X G m_tuple
  have M_len := PySem.W.mg_none_of X G m_len
  have M_repr := PySem.W.mg_none_of X G m_repr
  have M_range := PySem.W.mg_none_of X G m_range
  have M_sum := PySem.W.mg_none_of X G m_sum
  have M_enumerate := PySem.W.mg_none_of X G m_enumerate
  have M_zip := PySem.W.mg_none_of X G m_zip
  have M_list := PySem.W.mg_none_of X G m_list
  refine ⟨PySem.W.fnOf "law" "law" (defArgs s_law) (defBody s_law) (defScope s_law) .none kV_law dc_law pm_law an_law cd_law ct_law, fun s v => .of_eq rfl, fun base KB NB => ?_⟩
  have C_psum := cal_of (P := l.prog) (w := w) (base := base) F_psum G_psum (ok_psum F_psum M_sum M_zip) B_psum
  have C_cleared := cal_of (P := l.prog) (w := w) (base := base) F_cleared G_cleared (ok_cleared F_cleared M_zip) B_cleared
  have C_swept := cal_of (P := l.prog) (w := w) (base := base) F_swept G_swept (ok_swept F_swept C_cleared M_list M_len M_range M_enumerate) B_swept
  have C_det := cal_of (P := l.prog) (w := w) (base := base) F_det G_det (ok_det F_det C_swept M_len) B_det
  have C_turned := cal_of (P := l.prog) (w := w) (base := base) F_turned G_turned (ok_turnedT F_turned M_tuple M_range) B_turned
  have C_tcol := cal_of (P := l.prog) (w := w) (base := base) F_tcol G_tcol (ok_tcol F_tcol C_psum M_tuple) B_tcol
  have C_trow := cal_of (P := l.prog) (w := w) (base := base) F_trow G_trow (ok_trow F_trow C_tcol C_turned M_len) B_trow
  have C_ttable := cal_of (P := l.prog) (w := w) (base := base) F_ttable G_ttable (ok_ttab F_ttable C_trow M_tuple) B_ttable
  have C_begun := cal_of (P := l.prog) (w := w) (base := base) F_begun G_begun (ok_begun F_begun M_int) B_begun
  have C_draw := cal_of (P := l.prog) (w := w) (base := base) F_draw G_draw (ok_draw F_draw M_int M_len) B_draw
  have C_like := calG_of (P := l.prog) (w := w) (base := base) F_like G_like (ok_like F_like M_repr) B_like
  have C_signed := cal_of (P := l.prog) (w := w) (base := base) F_signed G_signed (ok_signed F_signed C_draw) B_signed
  have L0 := cal_of (P := l.prog) (w := w) (base := base) F_ldet G_ldet (ok_ldetB F_ldet) B_ldet
  have L1 := cal_of (P := l.prog) (w := w) (base := base) F_ldet G_ldet (ok_ldet (m := 0) (by decide) F_ldet L0 M_len M_range M_tuple) B_ldet
  have L2 := cal_of (P := l.prog) (w := w) (base := base) F_ldet G_ldet (ok_ldet (m := 1) (by decide) F_ldet L1 M_len M_range M_tuple) B_ldet
  have L3 := cal_of (P := l.prog) (w := w) (base := base) F_ldet G_ldet (ok_ldet (m := 2) (by decide) F_ldet L2 M_len M_range M_tuple) B_ldet
  have L4 := cal_of (P := l.prog) (w := w) (base := base) F_ldet G_ldet (ok_ldet (m := 3) (by decide) F_ldet L3 M_len M_range M_tuple) B_ldet
  have L5 := cal_of (P := l.prog) (w := w) (base := base) F_ldet G_ldet (ok_ldet (m := 4) (by decide) F_ldet L4 M_len M_range M_tuple) B_ldet
  have L6 := cal_of (P := l.prog) (w := w) (base := base) F_ldet G_ldet (ok_ldet (m := 5) (by decide) F_ldet L5 M_len M_range M_tuple) B_ldet
  have C_ltimes := cal_of (P := l.prog) (w := w) (base := base) F_ltimes G_ltimes (ok_ltimes F_ltimes M_tuple M_range M_len M_sum) B_ltimes
  have C_table := cal_of (P := l.prog) (w := w) (base := base) F_table G_table (ok_table F_table C_draw C_signed M_tuple M_range) B_table
  have C_lturned := cal_of (P := l.prog) (w := w) (base := base) F_lturned G_lturned (ok_lturned F_lturned M_tuple M_range M_len) B_lturned
  have C_moved := calG_of (P := l.prog) (w := w) (base := base) F_moved G_moved (ok_moved F_moved C_draw C_signed C_det C_like M_tuple M_range M_len M_list M_int) B_moved
  have C_right := calG_of (P := l.prog) (w := w) (base := base) F_right G_right (ok_right F_right C_table L6 C_ltimes C_det C_lturned C_ttable C_like C_moved C_signed C_trow C_tcol M_tuple M_range M_sum) B_right
  exact ok_law F_law C_begun C_draw C_right C_det C_ttable C_trow C_like M_range M_tuple
end
end K09
open PySem PySem.W PyProof.Rows
set_option maxHeartbeats 0 in
theorem PySem.Challenge.cw_pointtally_k09_whole_determinants_holds : PySem.Challenge.rw_pointtally_k09_whole_determinants.Holds := by
  w_on; o_law; k_head; (case hw => w_witness2)
  k_fill
  refine Vk.walk_ofG (l := PySem.Challenge.rw_pointtally_k09_whole_determinants) (n := 63) (k := 9) (x := "script") (sp := fun K => K09.spLaw K) rfl (by decide) rfl ⟨rfl, by decide, by decide⟩ (fun w h Y => PySem.W.kIn_of Y) ?F (fun K H a ns hl _ hS => ⟨a, ns, rfl, hS, hl, fun _ => rfl⟩)
  case F =>
    intro w mg fa h KX G hmg
    refine' K09.all_mk KX G hmg ?a_psum ?l_psum ?c_psum ?k_psum ?a_cleared ?l_cleared ?c_cleared ?k_cleared ?a_swept ?l_swept ?c_swept ?k_swept ?a_det ?l_det ?c_det ?k_det ?a_turned ?l_turned ?c_turned ?k_turned ?a_trow ?l_trow ?c_trow ?k_trow ?a_tcol ?l_tcol ?c_tcol ?k_tcol ?a_ttable ?l_ttable ?c_ttable ?k_ttable ?a_begun ?l_begun ?c_begun ?k_begun ?a_draw ?l_draw ?c_draw ?k_draw ?a_like ?l_like ?c_like ?k_like ?a_ldet ?l_ldet ?c_ldet ?k_ldet ?a_ltimes ?l_ltimes ?c_ltimes ?k_ltimes ?a_signed ?l_signed ?c_signed ?k_signed ?a_table ?l_table ?c_table ?k_table ?a_lturned ?l_lturned ?c_lturned ?k_lturned ?a_moved ?l_moved ?c_moved ?k_moved ?a_right ?l_right ?c_right ?k_right ?a_law ?l_law ?c_law ?k_law ?m_int ?m_tuple ?m_len ?m_repr ?m_range ?m_sum ?m_enumerate ?m_zip ?m_list
    (case a_psum => k_is)
    (case l_psum => k_is)
    (case c_psum => k_is)
    (case k_psum => k_is)
    (case a_cleared => k_is)
    (case l_cleared => k_is)
    (case c_cleared => k_is)
    (case k_cleared => k_is)
    (case a_swept => k_is)
    (case l_swept => k_is)
    (case c_swept => k_is)
    (case k_swept => k_is)
    (case a_det => k_is)
    (case l_det => k_is)
    (case c_det => k_is)
    (case k_det => k_is)
    (case a_turned => k_is)
    (case l_turned => k_is)
    (case c_turned => k_is)
    (case k_turned => k_is)
    (case a_trow => k_is)
    (case l_trow => k_is)
    (case c_trow => k_is)
    (case k_trow => k_is)
    (case a_tcol => k_is)
    (case l_tcol => k_is)
    (case c_tcol => k_is)
    (case k_tcol => k_is)
    (case a_ttable => k_is)
    (case l_ttable => k_is)
    (case c_ttable => k_is)
    (case k_ttable => k_is)
    (case a_begun => k_is)
    (case l_begun => k_is)
    (case c_begun => k_is)
    (case k_begun => k_is)
    (case a_draw => k_is)
    (case l_draw => k_is)
    (case c_draw => k_is)
    (case k_draw => k_is)
    (case a_like => k_is)
    (case l_like => k_is)
    (case c_like => k_is)
    (case k_like => k_is)
    (case a_ldet => k_is)
    (case l_ldet => k_is)
    (case c_ldet => k_is)
    (case k_ldet => k_is)
    (case a_ltimes => k_is)
    (case l_ltimes => k_is)
    (case c_ltimes => k_is)
    (case k_ltimes => k_is)
    (case a_signed => k_is)
    (case l_signed => k_is)
    (case c_signed => k_is)
    (case k_signed => k_is)
    (case a_table => k_is)
    (case l_table => k_is)
    (case c_table => k_is)
    (case k_table => k_is)
    (case a_lturned => k_is)
    (case l_lturned => k_is)
    (case c_lturned => k_is)
    (case k_lturned => k_is)
    (case a_moved => k_is)
    (case l_moved => k_is)
    (case c_moved => k_is)
    (case k_moved => k_is)
    (case a_right => k_is)
    (case l_right => k_is)
    (case c_right => k_is)
    (case k_right => k_is)
    (case a_law => k_is)
    (case l_law => k_is)
    (case c_law => k_is)
    (case k_law => k_is)
    (case m_int => k_is)
    (case m_tuple => k_is)
    (case m_len => k_is)
    (case m_repr => k_is)
    (case m_range => k_is)
    (case m_sum => k_is)
    (case m_enumerate => k_is)
    (case m_zip => k_is)
    (case m_list => k_is)
