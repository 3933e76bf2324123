import PyProof.Rows.All
import Wide.All
import OpenK.AllK
import Wide.FinOn
import HandS.Base
import HandS.Call
import HandS.List
import HandS.Comp
import HandS.Ends
import HandS.Dict
import HandS.Iter
import HandS.Words
import HandS.WordsList
import HandS.WordsDict
import HandS.Exc
import HandS.TryOnly
import HandS.ExcOwn
import HandS.Lambda
import HandS.IsInst
import HandS.Wide
import PyProof.ReprRoads
import PyProof.ReprBulk
import PyProof.FitsInt
import HandS.Walk
import KE.GoesZip
import KE.GoesMore
import KE.GoesEnum
import HandS.Star
import HandS.TupAny
import HandS.Gcd
import HandS.ExcIs
import HandS.ExcField
import HandS.ExcInit
import KE.KExcIs
import HandS.WordsExc
import PySem.Challenge.RW_pointtally_k00_whole_forms
set_option Elab.async false
set_option linter.all false
set_option maxRecDepth 100000
set_option maxHeartbeats 4000000
set_option exponentiation.threshold 20000
/-! Promises that know that nothing is being shown around them (so that repr tells its whole text). -/
namespace Vk
open PySem PySem.Spec PyProof.Rows L2

/-- nothing is being shown -/
def Quiet (A : Around) : Prop := A.guards = some []
theorem Quiet.deeper {A : Around} (q : Quiet A) (env : Env) : Quiet (A.deeper env) := by
  unfold Quiet at q ⊢
  first
    | exact q
    | (show pushGuards _ A.guards = some []; rw [q]; rfl)
    | simpa [Around.deeper, Around.under, q] using q

/-- a def's promise where nothing is being shown -/
structure FnG (P : Program) (w : World) (K : PySem.W.Frag) (mg : Str → Option Value) (base : Heap) (k : Nat) (f : Addr) (fd : FuncData) (ps : List Str) (sp : Sp) : Prop where
  len : ∀ vs H Q E, sp vs H Q E → vs.length = ps.length
  run : ∀ (A : Around) (outer : List Env) (s : Shared) (H : Hp) (args : Args) (us : List Value) (vs : List V) (Q : VK) (E : XK),
    Quiet A → Room k A → Env0 P w K mg base A outer s H → BindsTo s fd args (ps.zip us) → Vals vs us → sp vs H Q E →
      codeAny (model P w) A (.call (.ref f) args) (CR CX0 outer P w H s Q E) s

section
variable {P : Program} {w : World} {K : PySem.W.Frag} {mg : Str → Option Value} {base : Heap}
/-- a body's end is the call's end -/
theorem endsG {N : List Str} {qual : Str} {scope : Scope} {f : Addr} {cdv : Value} {A : Around} {outer : List Env} {s s' : Shared} {H : Hp} {Q : VK} {E : XK} {fl : Flow}
    (h : SP (cxOf CX0 P w K mg base N qual scope f cdv A outer s H E) [] { nx := fun _ H' => Q .non H', rt := Q } fl s') :
    ∃ u, (match fl with | .ret v => v | _ => Value.none) = u ∧ CE outer P w H s Q u s' ∧ (fl = .next ∨ ∃ v, fl = .ret v) := by
  cases fl with
  | next =>
    obtain ⟨σ', H', J, q⟩ := h
    exact ⟨_, rfl, ⟨.non, H', J.os, J.bare, J.base, J.hok, rfl, q⟩, .inl rfl⟩
  | ret v =>
    obtain ⟨x, σ', H', J, rv, q⟩ := h
    exact ⟨_, rfl, ⟨x, H', J.os, J.bare, J.base, J.hok, rv, q⟩, .inr ⟨v, rfl⟩⟩
  | brk =>
    obtain ⟨_, _, _, q⟩ := h
    exact q.elim
  | cont =>
    obtain ⟨_, _, _, q⟩ := h
    exact q.elim
/-- a def, by its body: its code object is told -/
theorem fnG_of {x qual : Str} {st : Stmt} {f : Addr} {N ps : List Str} {k : Nat} {sp : Sp} {oc kV doc pm cdv ct : Value} {od an : Option Addr} {osl : Array (Option Value)}
    (lk : K.lookup f = some ⟨oc, od, .func (PySem.W.fnOf x qual (defArgs st) (defBody st) (defScope st) .none kV doc pm an cdv ct), osl⟩) (hcd : PySem.W.codeIn K cdv qual = true) (S : FnScope N ps (defScope st))
    (len : ∀ vs H Q E, sp vs H Q E → vs.length = ps.length)
    (hbody : ∀ (A : Around) (outer : List Env) (s : Shared) (H : Hp) (vs : List V) (Q : VK) (E : XK),
      Quiet A → Room k (A.deeper (envOfC qual (defScope st) s.heap.objs.size f cdv)) → sp vs H Q E →
        ∃ t, PSs (cxOf CX0 P w K mg base N qual (defScope st) f cdv A outer s H E).nox (defBody st) t ∧ t { nx := fun _ H' => Q .non H', rt := Q } (start N vs) H) :
    FnG P w K mg base (k + 1) f (PySem.W.fnOf x qual (defArgs st) (defBody st) (defScope st) .none kV doc pm an cdv ct) ps sp := by
  refine ⟨len, fun A outer s H args us vs Q E hG hr e0 hb r hsp => ?_⟩
  have inK : K.In s.heap := e0.mod.kin.keeps fun b o e => (e0.bs b o e).left
  have noL : s.heap.NoLimit := e0.mod.nolimit.keeps fun b o e => (e0.bs b o e).left
  have hpar : ∀ y ∈ ps.zip us, (defScope st).names.lookup y.1 = some .local ∨
      ((defScope st).names.lookup y.1 = some .cell ∧ ((cellsFrom (s.heap.objs.size + 1) (defScope st).names []).lookup y.1).isSome = true) := by
    rintro ⟨n, v⟩ hy
    cases S.par n (List.of_mem_zip hy).left with
    | inl q => exact .inl q
    | inr q => exact .inr ⟨q, PySem.W.cellsFrom_some _ _ _ (.inl q)⟩
  have bnd := hb
  refine codeAny_call_function hr.depth (inK _ _ lk) rfl S.co S.gen rfl
    (PySem.W.codeRec_of inK hcd) (bnd _ _ _ _ ?_)
  refine wpAny_newFunctionEnv_cells S.kind hpar
    fun env he s1 x => ?_
  subst he
  refine ⟨noL.keeps x.toInCall.keep,
    codeAny_func ?_⟩
  obtain ⟨t, ht, hq⟩ := hbody A outer s H vs Q E hG (hr.deeper _) hsp
  have J := inv_start (CX := CX0) (P := P) (w := w) (K := K) (mg := mg) (base := base) (qual := qual) (f := f) (cd := cdv) (E := E) S hr.hd e0 (len _ _ _ _ hsp) r x
  refine wpAny_mono (ht.nox.run [] s1 _ H _ J hq) (fun fl s' hs => ?_)
    (fun e s' hs => hs)
  obtain ⟨u, hu, hce, hfl⟩ := endsG hs
  rcases hfl with rfl | ⟨v, rfl⟩
  · obtain rfl := hu
    exact hce
  · obtain rfl := hu
    exact hce
/-- a def of the text, by its body -/
theorem okG {x qual : Str} {st : Stmt} {f : Addr} {fd : FuncData} {N ps : List Str} {k : Nat} {sp : Sp} (F : Fun K x qual st f fd) (S : FnScope N ps (defScope st))
    (len : ∀ vs H Q E, sp vs H Q E → vs.length = ps.length)
    (hbody : ∀ (cdv : Value) (A : Around) (outer : List Env) (s : Shared) (H : Hp) (vs : List V) (Q : VK) (E : XK),
      Quiet A → Room k (A.deeper (envOfC qual (defScope st) s.heap.objs.size f cdv)) → sp vs H Q E →
        ∃ t, PSs (cxOf CX0 P w K mg base N qual (defScope st) f cdv A outer s H E).nox (defBody st) t ∧ t { nx := fun _ H' => Q .non H', rt := Q } (start N vs) H) :
    FnG P w K mg base (k + 1) f fd ps sp := by
  obtain ⟨oc, od, kV, doc, pm, an, cdv, ct, osl, rfl, lk, hcd⟩ := F.ex
  exact fnG_of lk hcd S len fun A outer s H vs Q E => hbody cdv A outer s H vs Q E
end

section
variable {X : Cx} {k : Nat} {f : Addr} {fd : FuncData} {ps : List Str} {sp : Sp} {E : XK} {x : Str} {p pos : Pos} {e : Expr} {es : List Expr} {t : TA}
/-- a call of such a def -/
theorem pe_callG (hG : Quiet X.A) (F : FnG X.prog X.w X.K X.mg X.base k f fd ps sp) (hr : Room k X.A) (hg : Gl X x) (hm : X.mg x = some (.ref f)) (hk : PySem.W.keepIn X.K (.ref f) = true) (hb : Binds X.K fd ps [])
    (ha : PA X (e :: es) t) (hdb : (x == ("__debug__" : Str)) = false := by decide) (he : starEach (e :: es) X.env = (false, eval e X.env) :: starEach es X.env := by rfl)
    (hpl : (backTo pos (starEach es X.env)).any (·.1) = false := by rfl) :
    PE X (.Call (.Name x p) (e :: es) [] pos) (fun σ H Q => t σ H fun vs H1 => sp vs H1 Q E) := by
  refine ⟨fun pins s σ H Q I h => wpAny_Call_Name_kw (ld_glob I hg hm ?_ hdb)⟩
  refine PySem.W.callWith_K (h₀ := X.base) I.ok.mod.kin hk (thn (ha.run pos pins s σ H _ I h) ?_) he hpl
  rintro us s1 ⟨vs, H1, I1, r, q⟩
  refine ⟨I1.kIn, ?_⟩
  have hl : us.length = ps.length := r.length.symm.trans (F.len _ _ _ _ q)
  have hbt := hb s1 us I1.kIn (by rw [List.append_nil]; exact hl)
  rw [List.append_nil] at hbt
  refine wpAny_call (codeAny_mono (F.run X.A X.stack s1 H1 ⟨us, []⟩ us vs Q E hG hr I1.env0 hbt r q) ?_)
  intro r2 s2 hq
  match r2, hq with
  | .error e, hq => exact False.elim hq
  | .ok (.ret u), hq => exact I1.after hq
end

/-! ### repr -/
/-- the text of a value's data -/
def rRep (K : PySem.W.Frag) : List V → Hp → VK → Prop := fun xs H Q => ∃ x d, xs = [x] ∧ Dp K H x d ∧ d.showable = true ∧ d.hasDict = false ∧ d.depth ≤ 60 ∧ d.shown.length ≤ sizeLine ∧ Q (.str d.shown) H
theorem call_rep {X : Cx} (hG : Quiet X.A) (hu : X.A.units + 64 < cLine) : CallR X (.builtin "repr") (rRep X.K) := by
  intro pins s σ H xs us Q I r h
  obtain ⟨x, d, rfl, hD, hs, hd, hdep, hz, q⟩ := h
  obtain ⟨u, rfl, ru⟩ := vals1 r
  obtain ⟨as, hr⟩ := Dp.reads I d x u hD ru
  cases hD with
  | non =>
    cases ru
    exact PySem.P.repr_of_none ⟨.str _, H, I.tok _, ⟨_, rfl⟩, by simpa only [PyData.shown] using q⟩
  | bl b =>
    cases ru
    exact PySem.P.repr_of_bool ⟨.str _, H, I.tok _, ⟨_, rfl⟩, by simpa only [PyData.shown] using q⟩
  | int i =>
    obtain ⟨t, rfl⟩ := ru
    exact PySem.P.repr_of_int (by simpa [PyData.showable] using hs) ⟨.str _, H, I.tok _, ⟨_, rfl⟩, by simpa only [PyData.shown] using q⟩
  | str z =>
    obtain ⟨t, rfl⟩ := ru
    exact PySem.P.repr_of_str ⟨.str _, H, I.tok _, ⟨_, rfl⟩, by simpa only [PyData.shown] using q⟩ (by simpa only [PyData.shown] using hz)
  | lst h1 h2 =>
    cases ru
    exact repr_of_reads' hr hs (PyData.noDict_hsm hd) hG (by omega) (fun _ _ e => e) (fun h' u tk hk => ⟨.str _, H, I.kept hk, ⟨_, rfl⟩, q⟩) hz
  | tup h1 h2 =>
    cases ru
    exact repr_of_reads' hr hs (PyData.noDict_hsm hd) hG (by omega) (fun _ _ e => e) (fun h' u tk hk => ⟨.str _, H, I.kept hk, ⟨_, rfl⟩, q⟩) hz
end Vk

namespace Vk
open PySem PySem.Spec PyProof.Rows L2
/-! ### defs by their names -/
/-- the def of this name keeps the promise -/
def Cal (P : Program) (w : World) (K : PySem.W.Frag) (mg : Str → Option Value) (base : Heap) (k : Nat) (x : Str) (ps : List Str) (sp : Sp) : Prop :=
  ∃ f fd, FnOk P w K mg base CX0 k f fd ps sp ∧ mg x = some (.ref f) ∧ PySem.W.keepIn K (.ref f) = true ∧ Binds K fd ps []
def CalG (P : Program) (w : World) (K : PySem.W.Frag) (mg : Str → Option Value) (base : Heap) (k : Nat) (x : Str) (ps : List Str) (sp : Sp) : Prop :=
  ∃ f fd, FnG P w K mg base k f fd ps sp ∧ mg x = some (.ref f) ∧ PySem.W.keepIn K (.ref f) = true ∧ Binds K fd ps []
/-- the reading of a call -/
def tCal (sp : Sp) (t : TA) : TE := fun σ H Q => t σ H fun vs H1 => sp vs H1 Q E0
section
variable {X : Cx} {k : Nat} {ps : List Str} {sp : Sp} {x : Str} {p pos : Pos} {e : Expr} {es : List Expr} {t : TA}
theorem call_ (C : Cal X.prog X.w X.K X.mg X.base k x ps sp) (hr : Room k X.A) (hg : Gl X x) (ha : PA X (e :: es) t) (hdb : (x == ("__debug__" : Str)) = false := by decide)
    (he : starEach (e :: es) X.env = (false, eval e X.env) :: starEach es X.env := by rfl) (hpl : (backTo pos (starEach es X.env)).any (·.1) = false := by rfl) :
    PE X (.Call (.Name x p) (e :: es) [] pos) (tCal sp t) := by
  obtain ⟨f, fd, F, hm, hk, hb⟩ := C
  refine ⟨fun pins s σ H Q I h => ?_⟩
  refine (pe_call F hr hg hm hk hb .nil pass0 ha hdb he hpl).run pins s σ H Q I ?_
  show t σ H fun vs H1 => sp (vs ++ []) H1 Q E0
  have e0 : (fun vs H1 => sp (vs ++ []) H1 Q E0) = fun vs H1 => sp vs H1 Q E0 := by
    funext vs H1
    rw [List.append_nil]
  rw [e0]
  exact h
theorem callG (hG : Quiet X.A) (C : CalG X.prog X.w X.K X.mg X.base k x ps sp) (hr : Room k X.A) (hg : Gl X x) (ha : PA X (e :: es) t) (hdb : (x == ("__debug__" : Str)) = false := by decide)
    (he : starEach (e :: es) X.env = (false, eval e X.env) :: starEach es X.env := by rfl) (hpl : (backTo pos (starEach es X.env)).any (·.1) = false := by rfl) :
    PE X (.Call (.Name x p) (e :: es) [] pos) (tCal sp t) := by
  obtain ⟨f, fd, F, hm, hk, hb⟩ := C
  exact ⟨fun pins s σ H Q I h => (pe_callG hG F hr hg hm hk hb ha hdb he hpl).run pins s σ H Q I h⟩
end
/-! ### ints of any size -/
def CDivX (_ j : Int) : Prop := j ≠ 0 ∧ j.natAbs.log2 < 9000
theorem op_fdivX {X : Cx} : OpR X (binaryOp .FloorDiv) (rI CDivX fun i j => .int (i.fdiv j)) :=
  opI fun _ _ _ _ _ _ _ hc q => floordiv_int hc.1 q (.inl (PyProof.noPylong_of_log2 hc.2))
/-! ### heaps -/
/-- all but what stands at m stays -/
def SameBut (m : Addr) (H H' : Hp) : Prop := ∀ b o, b ≠ m → H b = some o → H' b = some o
theorem SameBut.refl (m : Addr) (H : Hp) : SameBut m H H := fun _ _ _ h => h
theorem SameBut.trans {m : Addr} {H H1 H2 : Hp} (a : SameBut m H H1) (b : SameBut m H1 H2) : SameBut m H H2 := fun c o n h => b c o n (a c o n h)
theorem SameBut.of {m : Addr} {H H1 : Hp} (a : Same H H1) : SameBut m H H1 := fun c o _ h => a c o h
theorem same_new {H : Hp} {p : Addr} {o : HO} (h : H p = none) : Same H (upd H p o) := fun b x e => by
  rw [upd_ne (ne_of_none e h)]
  exact e
theorem but_put {H : Hp} {m : Addr} {o : HO} : SameBut m H (upd H m o) := fun b x n e => by
  rw [upd_ne n]
  exact e
end Vk

namespace Vk
open PySem PySem.Spec PyProof.Rows L2
theorem same_put {H H1 : Hp} {q : Addr} {o : HO} (s : Same H H1) (hq : H q = none) : Same H (upd H1 q o) := fun b x e => by
  rw [upd_ne (ne_of_none e hq)]
  exact s b x e
theorem cut_ints (ns : List Int) (a b : Option Int) : ∃ l : List Int, cutV (ns.map V.int) a b = l.map V.int ∧ l.length ≤ ns.length := by
  refine ⟨(ns.drop (HT.sIx (ns.map V.int).length 0 a)).take (HT.sIx (ns.map V.int).length (ns.map V.int).length b - HT.sIx (ns.map V.int).length 0 a), ?_, ?_⟩
  · unfold cutV
    rw [← List.map_drop, ← List.map_take]
  · rw [List.length_take, List.length_drop]
    omega
/-- a list of ints as data -/
theorem dp_ints {K : PySem.W.Frag} {H : Hp} : ∀ ns : List Int, DpAll K H (ns.map V.int) (ns.map PyData.int)
  | [] => .nil
  | n :: r => .cons (.int n) (dp_ints r)
theorem lay_ints : ∀ ns : List Int, PyData.canLayAll0 (ns.map PyData.int) = true ∧ PyData.depthAll (ns.map PyData.int) = 0
  | [] => ⟨by simp [PyData.canLayAll0], by simp [PyData.depthAll]⟩
  | n :: r => by
    obtain ⟨h1, h2⟩ := lay_ints r
    exact ⟨by simp [PyData.canLayAll0, PyData.canLay0, h1], by simp [PyData.depthAll, PyData.depth, h2]⟩
theorem shaped_ints (ns : List Int) : SeqAt.shaped (.list (ns.map PyData.int)) = true := by
  obtain ⟨h1, h2⟩ := lay_ints ns
  simp [SeqAt.shaped, PyData.canLay0, PyData.depth, h1, h2]
end Vk

namespace Vk
open PySem PySem.Spec PyProof.Rows L2
/-- both ways of a conditional expression lead to what follows -/
theorem tif_both {c : Bool} {ta tb : TE} {σ : L2.St} {H : Hp} {Q : VK} (Good : V → Prop) (hQ : ∀ v, Good v → Q v H) (ha : c = true → (∀ v, Good v → Q v H) → ta σ H Q) (hb : c = false → (∀ v, Good v → Q v H) → tb σ H Q) :
    if c = true then ta σ H Q else tb σ H Q := by
  cases c with
  | true => exact iteT (ha rfl hQ)
  | false => exact iteF (hb rfl hQ)
end Vk
/-! The end of a law row for a promise of the quiet kind. -/
namespace Vk
open PySem PySem.Spec PyProof.Rows L2

section
variable {P : Program} {w : World} {K : PySem.W.Frag} {mg mb : Str → Option Value} {k : Nat} {fa a : Addr} {fd : FuncData} {x : Str} {sp : Sp} {s₁ : Shared} {vs : List Value} {ns : List Int}
/-- from one abstract heap that holds -/
theorem law_coreG (H : Hp) (KX : K.In s₁.heap) (hns : s₁.heap.Ns mainGlobals mg) (hb : s₁.heap.Ns builtinsNs mb) (hbb : ∀ x : Str, x ≠ "__name__" → mb x = bootBuiltins x) (hlim : s₁.heap.NoLimit) (hg : s₁.gens = #[])
    (ha : s₁.heap.get? a = some { cls := .type "list", data := .seq vs.toArray }) (hr : Room k callerA)
    (F : ∀ base : Heap, K.In base → base.Ns mainGlobals mg → FnG P w K mg base k fa fd [x] sp) (hbind : ∀ (s : Shared) (u : Value), BindsTo s fd ⟨[u], []⟩ [(x, u)])
    (hO : Only H) (hsp : sp [.ref a] H (fun v _ => v = .bl true) fun _ _ _ => False) (hok : HOk P w H s₁.heap) (hA : ∀ b u, H b = some u → b = a) (hK : ∀ u, H a = some u → K.lookup a = none) :
    codeAny (model P w) callerA (.call (.ref fa) ⟨[.ref a], []⟩) (fun r s' => r = .ok (.ret (.bool true)) ∧ OldK s₁.heap s'.heap ∧ s'.os = s₁.os ∧ AllBare s'.gens) s₁ := by
  have free : ∀ {b : Addr} {o : Obj}, s₁.heap.get? b = some o → (∀ n, o.data ≠ .seq vs.toArray n) → H b = none := fun {b o} e d => by
    cases q : H b with
    | none => rfl
    | some u =>
      obtain rfl := hA b u q
      rw [ha] at e
      exact absurd rfl (by have := Option.some.inj e; subst this; exact d _)
  have nsK : ∀ {b : Addr} {m : Str → Option Value}, s₁.heap.Ns b m → (hidT s₁.heap H).Ns b m := by
    rintro b m ⟨o, es, ep, e, d, r⟩
    exact ⟨o, es, ep, hidT_get e (free e fun n z => by rw [d] at z; cases z), d, r⟩
  have inB : K.In (hidT s₁.heap H) := fun b o e => by
    refine hidT_get (KX b o e) ?_
    cases q : H b with
    | none => rfl
    | some u =>
      obtain rfl := hA b u q
      rw [hK u q] at e
      cases e
  have lim : (hidT s₁.heap H).NoLimit := by
    obtain ⟨mc, h1, h2⟩ := hlim
    exact ⟨mc, nsK h1, h2⟩
  have M : Mod K mg (hidT s₁.heap H) := { kin := inB, glob := nsK hns, blt := ⟨mb, nsK hb, hbb⟩, nolimit := lim }
  have E : Env0 P w K mg (hidT s₁.heap H) callerA [] s₁ H := by
    refine { frames := rfl, mod := M, bs := fun b o e => of_hidT e, bsz := Nat.le_of_eq (hidT_size _ _), funs := trivial, frf := ?_, hok := hok, bare := .of_eq hg }
    intro b z
    cases (show b ∈ ([] : List Addr) from z)
  have R := (F _ inB (nsK hns)).run callerA [] s₁ H ⟨[.ref a], []⟩ [.ref a] [.ref a] _ _ rfl hr E (hbind s₁ (.ref a)) (.cons rfl .nil) hsp
  refine codeAny_mono R ?_
  intro r s' h
  match r, h with
  | .error e, h => exact False.elim h
  | .ok (.ret u), ⟨v, H', os, bare, un, hok', rv, q⟩ =>
    obtain rfl : v = .bl true := q
    obtain rfl : u = Value.bool true := rv
    refine ⟨rfl, OldK.of_keep fun b o e => ?_, os, bare⟩
    rcases hO b with z | ⟨ob, xs, z⟩
    · refine un.keep b o e z (fun m => ?_) (fun m => ?_)
      · cases (show b ∈ ([] : List Addr) from m)
      · cases m
    · have p1 := (hok b _ z).1
      have p2 := (hok' b _ (un.frzs b ob _ z)).1
      exact p2.trans (p1.symm.trans e)
/-- the law's promise, at the heap behind the top -/
theorem law_callG (KX : K.In s₁.heap) (hns : s₁.heap.Ns mainGlobals mg) (hb : s₁.heap.Ns builtinsNs mb) (hbb : ∀ x : Str, x ≠ "__name__" → mb x = bootBuiltins x) (hlim : s₁.heap.NoLimit) (hg : s₁.gens = #[])
    (ha : s₁.heap.get? a = some { cls := .type "list", data := .seq vs.toArray }) (hi : IntsAre vs ns) (hl : ns.length ≤ sizeLine) (hr : Room k callerA)
    (F : ∀ base : Heap, K.In base → base.Ns mainGlobals mg → FnG P w K mg base k fa fd [x] sp) (hbind : ∀ (s : Shared) (u : Value), BindsTo s fd ⟨[u], []⟩ [(x, u)])
    (hsp : ∀ H : Hp, Only H → SqL K H a (ns.map V.int) → sp [.ref a] H (fun v _ => v = .bl true) fun _ _ _ => False) :
    codeAny (model P w) callerA (.call (.ref fa) ⟨[.ref a], []⟩) (fun r s' => r = .ok (.ret (.bool true)) ∧ OldK s₁.heap s'.heap ∧ s'.os = s₁.os ∧ AllBare s'.gens) s₁ := by
  have rv := vals_ints hi
  cases hk : K.lookup a with
  | some o =>
    have e := (KX a o hk).symm.trans ha
    obtain rfl := Option.some.inj e
    have hO : Only (fun _ => none) := fun _ => .inl rfl
    refine law_coreG (fun _ => none) KX hns hb hbb hlim hg ha hr F hbind hO (hsp _ hO (.inr ⟨_, vs.toArray, _, hk, rfl, rfl, rfl, ?_, ?_⟩)) ?_ ?_ ?_
    · rw [List.size_toArray, hi.length]
      exact hl
    · simpa using rv
    · intro b u z
      cases (show (none : Option HO) = some u from z)
    · intro b u z
      cases (show (none : Option HO) = some u from z)
    · intro u z
      cases (show (none : Option HO) = some u from z)
  | none =>
    let fz : HO := .frz { cls := .type "list", data := .seq vs.toArray } (.lst (ns.map V.int))
    have only : ∀ b u, upd (fun _ => none) a fz b = some u → b = a ∧ u = fz := fun b u z => by
      by_cases e : b = a
      · subst e
        rw [upd_same] at z
        exact ⟨rfl, (Option.some.inj z).symm⟩
      · rw [upd_ne e] at z
        cases z
    have hO : Only (upd (fun _ => none) a fz) := fun b => by
      cases q : upd (fun _ => none) a fz b with
      | none => exact .inl rfl
      | some u =>
        obtain ⟨_, rfl⟩ := only b u q
        exact .inr ⟨_, _, rfl⟩
    refine law_coreG _ KX hns hb hbb hlim hg ha hr F hbind hO (hsp _ hO (.inl (.inr ⟨_, upd_same⟩))) ?_ (fun b u z => (only b u z).1) (fun _ _ => hk)
    intro b u z
    obtain ⟨rfl, rfl⟩ := only b u z
    refine ⟨ha, ?_, vs, _, rv, ha⟩
    rw [List.length_map]
    exact hl
end

/-- the end of the row -/
theorem walk_ofG {l : PySem.W.OpenLaw} {n k : Nat} {q : Program} {loose : List Str} {XP : (Str → Option Value) → Heap → Prop} {YP : World → Heap → Prop} {d : DefRec} {K : Params → PySem.W.Frag} {sp : PySem.W.Frag → Sp} {x : Str}
    (hn : l.most = some n) (hn2 : n ≤ sizeLine) (hdf : d.params.defaults = []) (hr : Room k callerA)
    (hY : ∀ (w : World) (h : Heap), YP w h → (K w.params).In h)
    (F : ∀ (w : World) (mg : Str → Option Value) (fa : Addr) (h : Heap), (K w.params).In h → h.Ns mainGlobals mg → mg d.name = some (.ref fa) →
      ∃ fd : FuncData, (∀ (s : Shared) (u : Value), BindsTo s fd ⟨[u], []⟩ [(x, u)]) ∧
        ∀ base : Heap, (K w.params).In base → base.Ns mainGlobals mg → FnG l.prog w (K w.params) mg base k fa fd [x] (sp (K w.params)))
    (hsp : ∀ (K : PySem.W.Frag) (H : Hp) (a : Addr) (ns : List Int), ns.length ≤ n → Only H → SqL K H a (ns.map V.int) → sp K [.ref a] H (fun v _ => v = .bl true) fun _ _ _ => False) :
    PySem.W.WalkO q loose XP YP l.row.toRowW d [] (fun f vs => PySem.call f vs) := by
  refine Att.attach_call hn hdf ?_
  intro w s₀ s₁ mg mb fa o pm cd doc a vs ns G Y ho hd hcd hmg hobj hints hlen hg
  obtain ⟨fd, hb, hF⟩ := F w mg fa _ (hY w _ Y) G.T.g hmg
  exact law_callG (hY w _ Y) G.T.g G.T.b G.T.builtins G.T.nolimit hg hobj hints (Nat.le_trans hlen hn2) hr hF hb fun H hO hS => hsp _ H a ns hlen hO hS
end Vk
namespace K00
open PySem PySem.Spec PyProof.Rows L2 Vk
def topS (i : Nat) : Stmt := PySem.Challenge.pw_pointtally_k00_whole_forms.main.body.getD i (.Pass ⟨0, 0, 0, 0⟩)
/-! ### the state of the draws -/
def mkv (L sd : Int) (c : Addr) (sp : Int) : List (Key × V) := [(.inr "left", .int L), (.inr "seed", .int sd), (.inr "cells", .ref c), (.inr "spot", .int sp)]
theorem val_left {L sd sp : Int} {c : Addr} : valV (mkv L sd c sp) (.inr "left") = some (.int L) := by rfl
theorem val_seed {L sd sp : Int} {c : Addr} : valV (mkv L sd c sp) (.inr "seed") = some (.int sd) := by rfl
theorem val_cells {L sd sp : Int} {c : Addr} : valV (mkv L sd c sp) (.inr "cells") = some (.ref c) := by rfl
theorem val_spot {L sd sp : Int} {c : Addr} : valV (mkv L sd c sp) (.inr "spot") = some (.int sp) := by rfl
theorem put_left {L sd sp i : Int} {c : Addr} : putK (mkv L sd c sp) (.inr "left") (.int i) = mkv i sd c sp := by rfl
theorem put_spot {L sd sp i : Int} {c : Addr} : putK (mkv L sd c sp) (.inr "spot") (.int i) = mkv L sd c i := by rfl
theorem get_m {H : Hp} {m : Addr} {kvs : List (Key × V)} {x : Str} {v : V} (hm : H m = some (.dK kvs)) (h : valV kvs (.inr x) = some v) : DGet H m (.str x) (some v) := by
  have q := DGet.k (k := Sum.inr x) hm
  rw [h] at q
  exact q
theorem put_m {H : Hp} {m : Addr} {L sd sp : Int} {c : Addr} {kvs : List (Key × V)} {x : Str} {v : V} (hm : H m = some (.dK (mkv L sd c sp))) (h : putK (mkv L sd c sp) (.inr x) v = kvs) : DPut H m (.str x) v (upd H m (.dK kvs)) := by
  have q := DPut.k (k := Sum.inr x) (v := v) hm (small1000 (show 4 ≤ 1000 by decide))
  rw [h] at q
  exact q
/-- the state of the draws stands at m; at most n draws were made -/
def MOk (H : Hp) (m c : Addr) (n : Nat) : Prop := ∃ (L sd sp : Int) (cells : List Int), H m = some (.dK (mkv L sd c sp)) ∧ H c = some (.lst (cells.map V.int)) ∧ 0 < cells.length ∧ 0 ≤ sp ∧ sp ≤ n
theorem MOk.but {H H' : Hp} {m c q : Addr} {n : Nat} (h : MOk H m c n) (hq : q ≠ m) (hl : ∀ xs, H q ≠ some (.lst xs)) (s : SameBut q H H') : MOk H' m c n := by
  obtain ⟨L, sd, sp, cells, h1, h2, h3⟩ := h
  refine ⟨L, sd, sp, cells, s _ _ (Ne.symm hq) h1, s _ _ (fun z => hl _ (by rw [← z]; exact h2)) h2, h3⟩
theorem MOk.same {H H' : Hp} {m c : Addr} {n : Nat} (h : MOk H m c n) (s : Same H H') : MOk H' m c n := by
  obtain ⟨L, sd, sp, cells, h1, h2, h3⟩ := h
  exact ⟨L, sd, sp, cells, s _ _ h1, s _ _ h2, h3⟩
abbrev s_draw : Stmt := topS 20
theorem sc_draw : FnScope ["m", "bound", "found", "spot", "cells", "extra", "cell", "blend"] ["m", "bound"] (defScope s_draw) := ⟨rfl, rfl, rfl, by decide +kernel, rfl, by decide +kernel, by decide +kernel⟩
def spDraw : Sp := fun vs H Q _ => ∃ (m c : Addr) (n : Nat) (b : Int), vs = [.ref m, .int b] ∧ MOk H m c n ∧ n ≤ 100000 ∧ 0 < b ∧ b.natAbs < 2 ^ 200 ∧
  ∀ H' v, SameBut m H H' → MOk H' m c (n + 1) → 0 ≤ v → v < b → Q (.int v) H'
section
variable {P : Program} {w : World} {K : PySem.W.Frag} {mg : Str → Option Value} {base : Heap}
theorem ok_draw {f : Addr} {fd : FuncData} (F : Fun K "_law_draw" "_law_draw" s_draw f fd) (m_int : mg "int" = none) (m_len : mg "len" = none) : FnOk P w K mg base CX0 1 f fd ["m", "bound"] spDraw := by
  have sc := sc_draw
  refine F.ok sc (fun vs H Q E h => ?_) (fun cdv A outer s H vs Q E hr h => ?_)
  · obtain ⟨m, c, n, b, rfl, _⟩ := h
    rfl
  · obtain ⟨m, c, n, b, rfl, hM, hn, hb0, hb1, q⟩ := h
    refine ⟨_, (pss_cons (ps_if (pt_cmpR op_gt (pe_dget (hu_of hr) (pv 0) pe_str (fun _ _ => rfl)) pe_int (nomark _))
      (pss_cons (ps_set (i := 2) sc.nd rfl (Or.inl rfl) (pe_op op_modN (pe_callTy call_int1 (by rfl) m_int (by decide +kernel) (pa_cons (pe_dget (hu_of hr) (pv 0) pe_str (fun _ _ => rfl)) pa_nil)) (pv 1)))
    (pss_cons (ps_dput (hu_of hr) (pv 0) pe_str (pe_op op_fdivX (pe_dget (hu_of hr) (pv 0) pe_str (fun _ _ => rfl)) (pv 1)) rfl)
    (pss_one (ps_ret (pv 2)))))
      pss_nil)
    (pss_cons (ps_set (i := 3) sc.nd rfl (Or.inl rfl) (pe_dget (hu_of hr) (pv 0) pe_str (fun _ _ => rfl)))
    (pss_cons (ps_dput (hu_of hr) (pv 0) pe_str (pe_op op_add (pv 3) pe_int) rfl)
    (pss_cons (ps_par (i := 4) (j := 5) (by rfl) sc.nd rfl rfl (by decide) rfl rfl (pa_cons (pe_dget (hu_of hr) (pv 0) pe_str (fun _ _ => rfl)) (pa_cons (pe_op op_add (pe_dget (hu_of hr) (pv 0) pe_str (fun _ _ => rfl)) (pe_op op_mul (pe_op op_mul pe_int (pv 3)) (pv 3))) pa_nil)) (by rfl))
    (pss_cons (ps_set (i := 6) sc.nd rfl (Or.inl rfl) (pe_ix ix_list (pv 4) (pe_op op_modN (pe_callTy call_int1 (by rfl) m_int (by decide +kernel) (pa_cons (pv 3) pa_nil)) (pe_callB call_len_seq (by rfl) m_len (by decide +kernel) (pa_cons (pv 4) pa_nil))) (fun _ _ => rfl)))
    (pss_cons (ps_set (i := 7) sc.nd rfl (Or.inl rfl) (pe_op op_modN (pe_callTy call_int1 (by rfl) m_int (by decide +kernel) (pa_cons (pe_op op_add (pe_op op_mul (pv 6) (pe_op op_add (pe_op op_mul pe_int (pv 3)) pe_int)) (pv 5)) pa_nil)) pe_int))
    (pss_cons (ps_set (i := 7) sc.nd rfl (Or.inl rfl) (pe_op op_modN (pe_callTy call_int1 (by rfl) m_int (by decide +kernel) (pa_cons (pe_op op_add (pe_op op_add (pe_op op_mul (pv 7) (pv 7)) (pe_op op_mul pe_int (pv 3))) (pe_dget (hu_of hr) (pv 0) pe_str (fun _ _ => rfl))) pa_nil)) pe_int))
    (pss_one (ps_ret (pe_op op_modN (pe_op op_fdivN (pe_op op_modN (pe_callTy call_int1 (by rfl) m_int (by decide +kernel) (pa_cons (pe_op op_add (pe_op op_mul (pv 7) pe_int) (pv 3)) pa_nil)) pe_int) pe_int) (pv 1))))))))))), ?_⟩
    obtain ⟨L, sd, sp, cells, h1, h2, h3, h4, h5⟩ := hM
    have ncm : c ≠ m := ne_of h2 h1 (by intro z; cases z)
    refine ⟨.ref m, rfl, m, .int L, rfl, get_m h1 val_left, L, 0, rfl, rfl, _, rfl, ite2 (fun hL => ?_) (fun hL => ?_)⟩
    · -- the first way
      refine ⟨.ref m, rfl, m, .int L, rfl, get_m h1 val_left, .inl ⟨L, rfl, .int b, rfl, L, b, rfl, rfl, by omega, ?_⟩⟩
      refine ⟨.ref m, rfl, m, .int L, rfl, get_m h1 val_left, .int b, rfl, L, b, rfl, rfl, ⟨by omega, Nat.lt_trans (PySem.Flt.log2_lt_of (by decide) hb1) (by decide)⟩, .ref m, rfl, m, _, rfl, put_m h1 put_left, ?_⟩
      refine ⟨.int (L.fmod b), rfl, q _ _ but_put ⟨_, sd, sp, cells, upd_same, ?_, h3, h4, by omega⟩ (Int.fmod_nonneg_of_pos _ hb0) (Int.fmod_lt_of_pos _ hb0)⟩
      rw [upd_ne ncm]
      exact h2
    · -- the second way
      refine ⟨.ref m, rfl, m, .int sp, rfl, get_m h1 val_spot, ?_⟩
      refine ⟨.int sp, rfl, sp, 1, rfl, rfl, .ref m, rfl, m, _, rfl, put_m h1 put_spot, ?_⟩
      have g1 : (upd H m (.dK (mkv L sd c (sp + 1)))) m = some (.dK (mkv L sd c (sp + 1))) := upd_same
      have g2 : (upd H m (.dK (mkv L sd c (sp + 1)))) c = some (.lst (cells.map V.int)) := by
        rw [upd_ne ncm]
        exact h2
      refine ⟨.ref m, rfl, m, .ref c, rfl, get_m g1 val_cells, .ref m, rfl, m, .int sd, rfl, get_m g1 val_seed, .int sp, rfl, 40503, sp, rfl, rfl, .inl ⟨by decide, by decide⟩, .int sp, rfl, 40503 * sp, sp, rfl, rfl, .inr ⟨by omega, by omega⟩, sd, 40503 * sp * sp, rfl, rfl, .ref c, .int (sd + 40503 * sp * sp), rfl, ?_⟩
      have hj : (sp.toNat % cells.length) < cells.length := Nat.mod_lt _ h3
      have e1 : Int.fmod sp ((cells.map V.int).length : Int) = ((sp.toNat % cells.length : Nat) : Int) := by
        rw [List.length_map, Int.fmod_eq_emod_of_nonneg _ (by omega), Int.natCast_emod, Int.toNat_of_nonneg h4]
      have e2 : (cells.map V.int)[sp.toNat % cells.length]? = some (.int cells[sp.toNat % cells.length]) := by
        rw [List.getElem?_map, List.getElem?_eq_getElem hj]
        rfl
      refine ⟨.ref c, rfl, .int sp, rfl, .inl ⟨sp, rfl, .ref c, rfl, c, _, rfl, .inl (SqL.of g2), sp, _, rfl, rfl, ?_, c, _, _, .int cells[sp.toNat % cells.length], rfl, rfl, SqL.of g2, ?_, ?_⟩⟩
      · rw [List.length_map]
        omega
      · rw [e1]
        exact atI_nat e2
      refine ⟨_, rfl, .int sp, rfl, 2, sp, rfl, rfl, .inl ⟨by decide, by decide⟩, 2 * sp, 3, rfl, rfl, _, 2 * sp + 3, rfl, rfl, .inr ⟨by omega, by omega⟩, _, rfl, _, _, rfl, rfl, .inl ⟨_, rfl, _, 2147483647, rfl, rfl, (by show (2147483647 : Int) ≠ 0; decide), ?_⟩⟩
      dsimp only
      generalize hB : Int.fmod (cells[sp.toNat % cells.length] * (2 * sp + 3) + (sd + 40503 * sp * sp)) 2147483647 = B
      have b0 : 0 ≤ B := by
        rw [← hB]
        exact Int.fmod_nonneg_of_pos _ (by decide)
      have b1 : B < 2147483647 := by
        rw [← hB]
        exact Int.fmod_lt_of_pos _ (by decide)
      refine ⟨.int B, rfl, .int B, rfl, B, B, rfl, rfl, .inl ⟨by omega, by omega⟩, .int sp, rfl, 69621, sp, rfl, rfl, .inl ⟨by decide, by decide⟩, B * B, 69621 * sp, rfl, rfl, .ref m, rfl, m, .int sd, rfl, get_m g1 val_seed, _, sd, rfl, rfl, .inl ⟨_, rfl, _, 2147483629, rfl, rfl, (by show (2147483629 : Int) ≠ 0; decide), ?_⟩⟩
      dsimp only
      generalize hB2 : Int.fmod (B * B + 69621 * sp + sd) 2147483629 = B2
      have c0 : 0 ≤ B2 := by
        rw [← hB2]
        exact Int.fmod_nonneg_of_pos _ (by decide)
      have c1 : B2 < 2147483629 := by
        rw [← hB2]
        exact Int.fmod_lt_of_pos _ (by decide)
      refine ⟨.int B2, rfl, B2, 48271, rfl, rfl, .inl ⟨by omega, by omega⟩, .int sp, rfl, _, sp, rfl, rfl, .inl ⟨_, rfl, _, 2147483647, rfl, rfl, (by show (2147483647 : Int) ≠ 0; decide), _, 11, rfl, rfl, (by show (11 : Int) ≠ 0 ∧ (11 : Int).natAbs < 1073741824; decide), .int b, rfl, _, b, rfl, rfl, by omega, ?_⟩⟩
      exact q _ _ but_put ⟨L, sd, sp + 1, cells, g1, g2, h3, by omega, by omega⟩ (Int.fmod_nonneg_of_pos _ hb0) (Int.fmod_lt_of_pos _ hb0)
end
end K00
namespace K00
open PySem PySem.Spec PyProof.Rows L2 Vk
abbrev s_begun : Stmt := topS 19
theorem sc_begun : FnScope ["script", "k", "cells", "cell", "great", "seed"] ["script", "k"] (defScope s_begun) := ⟨rfl, rfl, rfl, by decide +kernel, rfl, by decide +kernel, by decide +kernel⟩
def spBegun (K : PySem.W.Frag) : Sp := fun vs H Q _ => ∃ (a : Addr) (k : Int) (ns : List Int), vs = [.ref a, .int k] ∧ SqL K H a (ns.map V.int) ∧ ns.length ≤ 63 ∧ 0 ≤ k ∧ k ≤ 100 ∧
  ∀ H' p r, Same H H' → H p = none → MOk H' p r 0 → Q (.ref p) H'
section
variable {P : Program} {w : World} {K : PySem.W.Frag} {mg : Str → Option Value} {base : Heap}
theorem ok_begun {f : Addr} {fd : FuncData} (F : Fun K "_law_begun" "_law_begun" s_begun f fd) (m_int : mg "int" = none) : FnOk P w K mg base CX0 1 f fd ["script", "k"] (spBegun K) := by
  have sc := sc_begun
  refine F.ok sc (fun vs H Q E h => ?_) (fun cdv A outer s H vs Q E hr h => ?_)
  · obtain ⟨a, k, ns, rfl, _⟩ := h
    rfl
  · obtain ⟨a, k, ns, rfl, hS, hl, hk0, hk1, q⟩ := h
    refine ⟨_, (pss_cons (ps_set (i := 2) sc.nd rfl (Or.inl rfl) (pe_op op_cat (pe_slice sl_list (pv 0) (po_some (pv 1)) po_none) (pe_slice sl_list (pv 0) po_none (po_some (pv 1)))))
    (pss_cons (ps_setLc (i := 4) (own := [("cell", 3)]) (g := gName 3) (by rfl) sc.nd rfl rfl (sw_true rfl rfl rfl (by decide +kernel)) (pi_list (pv 2)) (blkOk_by (own := [("cell", 3)]) (N := ["script", "k", "cells", "cell", "great", "seed"]) (sc := defScope s_begun) (by decide +kernel)) (fun _ _ _ _ _ => pg_name (i := 3) sc.nd rfl (Or.inl rfl)) (fun _ _ _ _ _ => (pts_one (pt_cmpR op_ge (pv 3) (pe_op op_pow pe_int pe_int) (nomark _)))) (fun _ _ _ _ _ => (pv 3)))
    (pss_cons (ps_set (i := 5) sc.nd rfl (Or.inl rfl) (pe_op op_add pe_int (pv 1)))
    (pss_cons (ps_for PassesOwn.never rfl (pi_list (pv 2)) (pg_name (i := 3) sc.nd rfl (Or.inl rfl))
      (pss_one (ps_set (i := 5) sc.nd rfl (Or.inl rfl) (pe_op op_modN (pe_callTy call_int1 (by rfl) m_int (by decide +kernel) (pa_cons (pe_op op_add (pe_op op_mul (pv 5) pe_int) (pv 3)) pa_nil)) pe_int))))
    (pss_one (ps_ret (pe_disp (pps_cons pe_str (pe_ifExp (pt_cmpR (op_neD hr.units) (pv 4) (pe_lst pa_nil) (nomark _)) (pe_ix ix_list (pv 4) pe_int (fun _ _ => rfl)) pe_int) (pps_cons pe_str (pv 5) (pps_cons pe_str (pe_op op_cat (pv 2) (pe_lst (pa_cons (pe_op op_add (pe_op op_mul pe_int (pv 1)) pe_int) pa_nil))) (pps_cons pe_str pe_int pps_nil)))) (by rfl) (by rfl) (fun z => by cases z) (by decide)))))))), ?_⟩
    obtain ⟨l1, e1, b1⟩ := cut_ints ns (some k) none
    obtain ⟨l2, e2, b2⟩ := cut_ints ns none (some k)
    refine ⟨.ref a, rfl, .int k, rfl, k, rfl, a, _, rfl, hS, fun p1 n1 => ?_⟩
    rw [e1]
    have s1 : Same H (upd H p1 (.lst (l1.map V.int))) := same_new n1
    refine ⟨.ref a, rfl, .int k, rfl, k, rfl, a, _, rfl, s1.seq hS, fun p2 n2 => ?_⟩
    rw [e2]
    have n12 : p1 ≠ p2 := fun z => by
      rw [← z, upd_same] at n2
      cases n2
    have h2 : H p2 = none := s1.free n2
    refine ⟨p1, p2, l1.map V.int, l2.map V.int, rfl, rfl, ?_, upd_same, ?_, fun p np => ?_⟩
    · rw [upd_ne n12, upd_same]
    · rw [List.length_map, List.length_map]
      exact Nat.le_of_lt (small1000 (by omega))
    rw [← List.map_append]
    have s2 : Same H (upd (upd H p1 (.lst (l1.map V.int))) p2 (.lst (l2.map V.int))) := same_put s1 h2
    have hp : H p = none := s2.free np
    have s3 := same_put (o := .lst ((l1 ++ l2).map V.int)) s2 hp
    have hH3 : upd (upd (upd H p1 (.lst (l1.map V.int))) p2 (.lst (l2.map V.int))) p (.lst ((l1 ++ l2).map V.int)) p = some (.lst ((l1 ++ l2).map V.int)) := upd_same
    generalize upd (upd (upd H p1 (.lst (l1.map V.int))) p2 (.lst (l2.map V.int))) p (.lst ((l1 ++ l2).map V.int)) = H3 at s3 hH3 ⊢
    have g3 : H3 p = some (.lst ((l1 ++ l2).map V.int)) := hH3
    generalize hcs : l1 ++ l2 = cs at g3
    have bcs : cs.length ≤ 126 := by
      rw [← hcs, List.length_append]
      omega
    refine ⟨.ref p, rfl, p, rfl, ⟨_, SqL.of g3⟩, fun D nD => ?_⟩
    have hD : H D = none := s3.free nD
    have nDp : p ≠ D := ne_of_none g3 nD
    refine lc_list (K := K) (a := p) (xs := cs.map V.int) (fun i H' => ∃ acc : List Int, H' = upd H3 D (.lst (acc.map V.int)) ∧ acc.length ≤ i) ⟨[], rfl, Nat.le_refl _⟩ ?_ ?_ ?_
    · rintro i H' _ ⟨acc, rfl, _⟩
      refine SqL.of ?_
      rw [upd_ne nDp]
      exact g3
    · rintro i x H' hx ⟨acc, rfl, hacc⟩
      obtain ⟨z, hz, rfl⟩ : ∃ z, cs[i]? = some z ∧ x = V.int z := by
        rw [List.getElem?_map] at hx
        cases hc : cs[i]? with
        | none => rw [hc] at hx; cases hx
        | some z => rw [hc] at hx; exact ⟨z, rfl, (Option.some.inj hx).symm⟩
      have hi : i < cs.length := (List.getElem?_eq_some_iff.mp hz).1
      refine ⟨rfl, .int z, rfl, 10, 18, rfl, rfl, ⟨by decide, by decide, by decide⟩, z, _, rfl, rfl, _, rfl, ite2 (fun h => ?_) (fun h => ?_)⟩
      · refine ⟨.int z, rfl, _, upd_same, ?_, acc ++ [z], ?_, ?_⟩
        · rw [List.length_map]
          exact small1000 (by omega)
        · rw [upd_upd, List.map_append]
          rfl
        · rw [List.length_append]
          show acc.length + 1 ≤ i + 1
          omega
      · exact ⟨acc, rfl, by omega⟩
    rintro H' ⟨acc, rfl, hacc⟩
    have s4 : Same H (upd H3 D (.lst (acc.map V.int))) := same_put s3 hD
    have g4 : upd H3 D (.lst (acc.map V.int)) p = some (.lst (cs.map V.int)) := by
      rw [upd_ne nDp]
      exact g3
    have d4 : upd H3 D (.lst (acc.map V.int)) D = some (.lst (acc.map V.int)) := upd_same
    generalize upd H3 D (.lst (acc.map V.int)) = H4 at s4 g4 d4
    refine ⟨.int k, rfl, 71, k, rfl, rfl, .ref p, rfl, p, rfl, ⟨_, SqL.of g4⟩, ?_⟩
    refine for_list (K := K) (a := p) (xs := cs.map V.int) (fun i σ H' => ∃ (sd : Int) (y : Option V), σ = [some (.ref a), some (.int k), some (.ref p), y, some (.ref D), some (.int sd)] ∧ H' = H4 ∧ 0 ≤ sd ∧ sd < 2147483648) ⟨71 + k, none, rfl, rfl, by omega, by omega⟩ ?_ ?_ ?_
    · rintro i σ H' _ ⟨sd, y, rfl, rfl, _⟩
      exact SqL.of g4
    · rintro i x σ H' hx ⟨sd, y, rfl, rfl, h0, h1⟩
      obtain ⟨z, hz, rfl⟩ : ∃ z, cs[i]? = some z ∧ x = V.int z := by
        rw [List.getElem?_map] at hx
        cases hc : cs[i]? with
        | none => rw [hc] at hx; cases hx
        | some z => rw [hc] at hx; exact ⟨z, rfl, (Option.some.inj hx).symm⟩
      refine ⟨.int sd, rfl, sd, 48271, rfl, rfl, .inl ⟨by omega, by omega⟩, .int z, rfl, _, z, rfl, rfl, .inl ⟨_, rfl, _, 2147483647, rfl, rfl, (by show (2147483647 : Int) ≠ 0; decide), ?_⟩⟩
      have q1 := Int.fmod_lt_of_pos (sd * 48271 + z) (show (0 : Int) < 2147483647 by decide)
      exact ⟨_, _, rfl, rfl, Int.fmod_nonneg_of_pos _ (by decide), by omega⟩
    rintro σ H' ⟨sd, y, rfl, rfl, h0, h1⟩
    intro r nr
    have hr0 : H r = none := s4.free nr
    have s5 : Same H (upd H' r (.dK [])) := same_put s4 hr0
    have prn : p ≠ r := ne_of_none g4 nr
    have drn : D ≠ r := ne_of_none d4 nr
    have g5 : upd H' r (.dK []) p = some (.lst (cs.map V.int)) := by
      rw [upd_ne prn]
      exact g4
    have d5 : upd H' r (.dK []) D = some (.lst (acc.map V.int)) := by
      rw [upd_ne drn]
      exact d4
    have r5 : upd H' r (.dK []) r = some (.dK []) := upd_same
    generalize upd H' r (.dK []) = H5 at s5 g5 d5 r5 ⊢
    refine ⟨.ref D, rfl, Nat.zero_le _, fun e0 ne0 => ?_⟩
    have p0 : p ≠ e0 := ne_of_none g5 ne0
    have d0 : D ≠ e0 := ne_of_none d5 ne0
    have r0 : r ≠ e0 := ne_of_none r5 ne0
    have s6 : Same H (upd H5 e0 (.lst [])) := same_put s5 (s5.free ne0)
    have g6 : upd H5 e0 (.lst []) p = some (.lst (cs.map V.int)) := by
      rw [upd_ne p0]
      exact g5
    have d6 : upd H5 e0 (.lst []) D = some (.lst (acc.map V.int)) := by
      rw [upd_ne d0]
      exact d5
    have r6 : upd H5 e0 (.lst []) r = some (.dK []) := by
      rw [upd_ne r0]
      exact r5
    have l6 : upd H5 e0 (.lst []) e0 = some (.lst ([] : List V)) := upd_same
    generalize upd H5 e0 (.lst []) = H6 at s6 g6 d6 r6 l6 ⊢
    refine ⟨.list (acc.map PyData.int), .list [], .lst (SqL.of d6) (dp_ints acc), .lst (SqL.of l6) .nil, shaped_ints acc, shaped_ints [], _, rfl, ?_⟩
    refine tif_both (fun v => ∃ L : Int, v = .int L) ?_ ?_ ?_
    · rintro _ ⟨L, rfl⟩
      refine ⟨.int sd, rfl, .ref p, rfl, .int k, rfl, 53, k, rfl, rfl, .inl ⟨by decide, by decide⟩, _, 11, rfl, rfl, (by show 1 ≤ sizeLine; decide), fun e1 ne1 => ?_⟩
      have p1' : p ≠ e1 := ne_of_none g6 ne1
      have r1' : r ≠ e1 := ne_of_none r6 ne1
      have s7 : Same H (upd H6 e1 (.lst [.int (53 * k + 11)])) := same_put s6 (s6.free ne1)
      refine ⟨p, e1, cs.map V.int, [.int (53 * k + 11)], rfl, rfl, ?_, upd_same, ?_, fun c nc => ?_⟩
      · rw [upd_ne p1']
        exact g6
      · rw [List.length_map]
        exact Nat.le_of_lt (small1000 (show cs.length + 1 ≤ 1000 by omega))
      have r7 : upd H6 e1 (.lst [.int (53 * k + 11)]) r = some (.dK []) := by
        rw [upd_ne r1']
        exact r6
      have rc : r ≠ c := ne_of_none r7 nc
      have s8 := same_put (o := .lst (cs.map V.int ++ [.int (53 * k + 11)])) s7 (s7.free nc)
      refine ⟨?_, mkv L sd c 0, rfl, (by show 4 ≤ 15; decide), ?_⟩
      · rw [upd_ne rc]
        exact r7
      refine q _ _ _ (same_put s8 hr0) hr0 ⟨L, sd, 0, cs ++ [53 * k + 11], upd_same, ?_, ?_, by omega, by omega⟩
      · rw [upd_ne (Ne.symm rc), upd_same, List.map_append]
        rfl
      · rw [List.length_append]
        exact Nat.succ_pos _
    · intro hc hQ
      cases acc with
      | nil => exact absurd hc (by decide)
      | cons z zs => exact ⟨.ref D, rfl, D, _, 0, .int z, rfl, rfl, SqL.of d6, atI_nat (j := 0) rfl, hQ _ ⟨z, rfl⟩⟩
    · intro hc hQ
      exact hQ _ ⟨0, rfl⟩
end
end K00
/-! Data that is shown by a short text. -/
namespace Vk
open PySem PySem.Spec PyProof.Rows L2
/-- levels at most k, items at most n, each int of few bits -/
structure FitN (k n : Nat) (d : PyData) : Prop where
  s : d.showable = true
  h : d.hasDict = false
  dp : d.depth ≤ k
  l : d.leavesShort 2000 = true
  b : d.bulk ≤ n
structure FitLN (k n : Nat) (ds : List PyData) : Prop where
  s : PyData.showableAll ds = true
  h : PyData.hasDictAll ds = false
  dp : PyData.depthAll ds ≤ k
  l : PyData.leavesShortAll 2000 ds = true
  b : PyData.bulkAll ds ≤ n
theorem FitLN.nil {k n : Nat} : FitLN k n [] := ⟨by simp [PyData.showableAll], by simp [PyData.hasDictAll], by simp [PyData.depthAll], by simp [PyData.leavesShortAll], by simp [PyData.bulkAll]⟩
theorem FitLN.cons {k a b n : Nat} {d : PyData} {ds : List PyData} (x : FitN k a d) (y : FitLN k b ds) (hn : a + 1 + b ≤ n) : FitLN k n (d :: ds) :=
  ⟨by simp [PyData.showableAll, x.s, y.s], by simp [PyData.hasDictAll, x.h, y.h], by have := x.dp; have := y.dp; simp only [PyData.depthAll]; omega, by simp [PyData.leavesShortAll, x.l, y.l], by have := x.b; have := y.b; simp only [PyData.bulkAll]; omega⟩
theorem FitN.list {k n : Nat} {ds : List PyData} (y : FitLN k n ds) : FitN (k + 1) n (.list ds) :=
  ⟨by simp [PyData.showable, y.s], by simp [PyData.hasDict, y.h], by have := y.dp; simp only [PyData.depth]; omega, by simp [PyData.leavesShort, y.l], by have := y.b; simp only [PyData.bulk]; omega⟩
theorem FitN.tup {k n : Nat} {ds : List PyData} (y : FitLN k n ds) : FitN (k + 1) n (.tuple ds) :=
  ⟨by simp [PyData.showable, y.s], by simp [PyData.hasDict, y.h], by have := y.dp; simp only [PyData.depth]; omega, by simp [PyData.leavesShort, y.l], by have := y.b; simp only [PyData.bulk]; omega⟩
theorem FitN.non {k n : Nat} : FitN k n .none := ⟨by simp [PyData.showable], by simp [PyData.hasDict], by simp [PyData.depth], by simp [PyData.leavesShort], by simp [PyData.bulk]⟩
theorem FitN.bl {k n : Nat} (b : Bool) : FitN k n (.bool b) := ⟨by simp [PyData.showable], by simp [PyData.hasDict], by simp [PyData.depth], by simp [PyData.leavesShort], by simp [PyData.bulk]⟩
theorem FitN.int {k n : Nat} {i : Int} (hi : i.natAbs < 2 ^ 1900) : FitN k n (.int i) := by
  have lg : i.natAbs.log2 < 1900 := PySem.Flt.log2_lt_of (by decide) hi
  refine ⟨by simp only [PyData.showable, decide_eq_true_eq]; omega, by simp [PyData.hasDict], by simp [PyData.depth], ?_, by simp [PyData.bulk]⟩
  have h1 := int_text_length_le (by decide) lg
  have h2 : (PyData.shown (.int i)).length = (Str.ofString (toString i)).length := by simp only [PyData.shown]
  rw [PySem.ofString_length] at h2
  have h3 : (PyData.shown (.int i)).length ≤ 2000 := by omega
  simpa only [PyData.leavesShort, decide_eq_true_eq] using h3
theorem FitN.str {k n : Nat} (x : Str) (h : (x.cps.toList.all fun c => decide (c < 16 ^ 8)) = true) (hn : x.cps.size ≤ n) : FitN k n (.str x) :=
  ⟨by simp [PyData.showable], by simp [PyData.hasDict], by simp [PyData.depth], by simpa only [PyData.leavesShort] using h, by simp only [PyData.bulk]; omega⟩
theorem FitN.mono {k n k' n' : Nat} {d : PyData} (x : FitN k n d) (h1 : k ≤ k') (h2 : n ≤ n') : FitN k' n' d := ⟨x.s, x.h, Nat.le_trans x.dp h1, x.l, Nat.le_trans x.b h2⟩
/-- the text is not too long -/
theorem FitN.len {k n : Nat} {d : PyData} (x : FitN k n d) (hn : n ≤ 8000) : d.shown.length ≤ sizeLine := by
  have h := PyData.shown_le_bulk 2000 (by decide) d x.l
  have h2 : (2000 + 2) * d.bulk ≤ 2002 * 8000 := Nat.mul_le_mul_left _ (Nat.le_trans x.b hn)
  rw [sizeLine_eq]
  omega
/-- the text of a short value -/
def Fit (d : PyData) : Prop := FitN 60 8000 d
theorem rep_ {K : PySem.W.Frag} {H : Hp} {x : V} {d : PyData} {Q : VK} (hD : Dp K H x d) (f : Fit d) (q : Q (.str d.shown) H) : rRep K [x] H Q := ⟨x, d, rfl, hD, f.s, f.h, f.dp, f.len (Nat.le_refl _), q⟩
end Vk
namespace Vk
open PySem PySem.Spec PyProof.Rows L2
/-- both ways of an if lead to what follows -/
theorem tifs_both {c : Bool} {t u : TS} {D : Ends} {σ : L2.St} {H : Hp} (Good : L2.St → Hp → Prop) (hQ : ∀ σ' H', Good σ' H' → D.nx σ' H') (ht : c = true → (∀ σ' H', Good σ' H' → D.nx σ' H') → t D σ H)
    (hu : c = false → (∀ σ' H', Good σ' H' → D.nx σ' H') → u D σ H) : if c = true then t D σ H else u D σ H := by
  cases c with
  | true => exact iteT (ht rfl hQ)
  | false => exact iteF (hu rfl hQ)
theorem SameBut.free {m p : Addr} {H H' : Hp} (s : SameBut m H H') (hm : ∃ o, H' m = some o) (h : H' p = none) : H p = none := by
  cases q : H p with
  | none => rfl
  | some o =>
    by_cases e : p = m
    · subst e
      obtain ⟨o', z⟩ := hm
      rw [h] at z
      cases z
    · have z := s p o e q
      rw [h] at z
      cases z
end Vk
namespace Vk
open PySem PySem.Spec PyProof.Rows L2
/-- both ways of a conditional expression lead to what follows, where they make things -/
theorem tif_bothH {c : Bool} {ta tb : TE} {σ : L2.St} {H : Hp} {Q : VK} (Good : V → Hp → Prop) (hQ : ∀ v H', Good v H' → Q v H') (ha : c = true → (∀ v H', Good v H' → Q v H') → ta σ H Q) (hb : c = false → (∀ v H', Good v H' → Q v H') → tb σ H Q) :
    if c = true then ta σ H Q else tb σ H Q := by
  cases c with
  | true => exact iteT (ha rfl hQ)
  | false => exact iteF (hb rfl hQ)
end Vk
namespace Vk
open PySem PySem.Spec PyProof.Rows L2
/-- a value of one of seven kinds -/
inductive Oky (H : Hp) : V → String → Prop where
  | non : Oky H .non "NoneType"
  | bl (b : Bool) : Oky H (.bl b) "bool"
  | int (i : Int) : Oky H (.int i) "int"
  | str (x : Str) : Oky H (.str x) "str"
  | lst {a : Addr} {xs : List V} (e : H a = some (.lst xs)) : Oky H (.ref a) "list"
  | tup {a : Addr} {xs : List V} (e : H a = some (.tup xs)) : Oky H (.ref a) "tuple"
  | dK {a : Addr} {kvs : List (Key × V)} (e : H a = some (.dK kvs)) : Oky H (.ref a) "dict"
theorem Oky.ty {K : PySem.W.Frag} {H : Hp} {x : V} {t : String} (h : Oky H x t) : TyX K H x (.type t) := by
  cases h with
  | non => exact .base .non
  | bl b => exact .base (.bl b)
  | int i => exact .base (.int i)
  | str x => exact .base (.str x)
  | lst e => exact .base (.lst e)
  | tup e => exact .base (.tup e)
  | dK e => exact .base (.dK e)
theorem Oky.same {H H' : Hp} {x : V} {t : String} (h : Oky H x t) (s : Same H H') : Oky H' x t := by
  cases h with
  | non => exact .non
  | bl b => exact .bl b
  | int i => exact .int i
  | str x => exact .str x
  | lst e => exact .lst (s _ _ e)
  | tup e => exact .tup (s _ _ e)
  | dK e => exact .dK (s _ _ e)
theorem Oky.kTup {H : Hp} {x : V} {t : String} (h : Oky H x t) : kitB t "tuple" = some (decide (t = "tuple")) := by
  cases h <;> decide +kernel
theorem Oky.kInt {H : Hp} {x : V} {t : String} (h : Oky H x t) : kitB t "int" = some (decide (t = "int" ∨ t = "bool")) := by
  cases h <;> decide +kernel
theorem Oky.kBool {H : Hp} {x : V} {t : String} (h : Oky H x t) : kitB t "bool" = some (decide (t = "bool")) := by
  cases h <;> decide +kernel
def isInt : V → Bool
  | .int _ => true
  | _ => false
theorem Oky.isInt {H : Hp} {x : V} {t : String} (h : Oky H x t) : isInt x = decide (t = "int") := by
  cases h <;> simp [Vk.isInt]
/-- the reading of isinstance(x, T) -/
theorem isi_ {K : PySem.W.Frag} {H : Hp} {x : V} {t T : String} {b : Bool} {Q : VK} (h : Oky H x t) (k : kitB t T = some b) (q : Q (.bl b) H) : rIsi K [x, .ty T] H Q :=
  ⟨x, .ty T, _, _, b, rfl, .ty T, h.ty, kit_ty k, q⟩
end Vk
/-! zip of a list and a tuple in any mix, enumerate of a tuple. -/
namespace Vk
open PySem PySem.Spec PyProof.Rows L2
/-- a list (true) or a tuple (false) -/
def SqK : Bool → PySem.W.Frag → Hp → Addr → List V → Prop
  | true => SqL
  | false => SqT
def ItA : Bool → Heap → Addr → Addr → Nat → Prop
  | true => Heap.IsListIter
  | false => Heap.IsTupleIter
def AtA : Bool → Heap → Addr → Array Value → Prop
  | true => Heap.IsList
  | false => Heap.IsTuple
/-- a new iterator's object -/
def itO : Bool → Addr → Obj
  | true, l => { cls := .type "list_iterator", data := .fields #[.ref l, .int 0 0] }
  | false, l => { cls := .type "tuple_iterator", data := .fields #[.ref l, .int 0 0] }
section
variable {X : Cx} {pins : List (Addr × Obj)} {σ : L2.St} {H : Hp} {s : Shared} {b : Bool} {a : Addr} {xs ys : List V} {h h' : Heap} {it l : Addr} {i : Nat}
theorem seqK (I : Inv X pins σ H s) (q : SqK b X.K H a xs) : ∃ its : List Value, Vals xs its ∧ AtA b s.heap a its.toArray := by
  cases b with
  | true =>
    obtain ⟨its, r, p, _⟩ := I.list q
    exact ⟨its, r, p.isList⟩
  | false =>
    obtain ⟨its, r, p, _⟩ := I.tuple q
    exact ⟨its, r, p⟩
theorem injK (I : Inv X pins σ H s) (q : SqK b X.K H a xs) (q' : SqK b X.K H a ys) : xs = ys := by
  cases b with
  | true => exact I.list_inj q q'
  | false => exact I.tuple_inj q q'
theorem ItA.at (q : ItA b h it l i) (k : ∀ o, h.get? it = some o → h'.get? it = some o) : ItA b h' it l i := by
  cases b with
  | true => exact Heap.IsListIter.at q k
  | false => exact Heap.IsTupleIter.at q k
theorem ItA.obj (q : ItA b h it l i) : ∃ o, h.get? it = some o ∧ ∀ v, o.data ≠ .cell v := by
  cases b with
  | true =>
    obtain ⟨o, e, _, d⟩ := q
    exact ⟨o, e, fun v z => by rw [d] at z; cases z⟩
  | false =>
    obtain ⟨o, e, _, d⟩ := q
    exact ⟨o, e, fun v z => by rw [d] at z; cases z⟩
theorem ItA.new (q : h.get? it = some (itO b l)) : ItA b h it l 0 := by
  cases b with
  | true => exact ⟨_, q, rfl, rfl⟩
  | false => exact ⟨_, q, rfl, rfl⟩
theorem drawsK {prog : Program} {w : World} {A : Around} (hh : A.handled = none) (hne : l ≠ it) (items : Array Value) :
    Draws prog w A it [it, l] items.size (fun i v => items[i]? = some v) (fun i h => ItA b h it l i ∧ AtA b h l items) := by
  cases b with
  | true => exact Draws.list hh it l hne items
  | false => exact Draws.tuple hh it l hne items
theorem beginsK (l : Addr) (items : Array Value) : Begins (.ref l) (itO b l) fun h => AtA b h l items := by
  cases b with
  | true => exact begins_list l items
  | false => exact begins_tuple l items
theorem AtA.lt {items : Array Value} (q : AtA b h l items) : l < h.objs.size := by
  cases b with
  | true =>
    obtain ⟨o, e, _⟩ := q
    exact Heap.lt_size e
  | false =>
    obtain ⟨o, e, _⟩ := q
    exact Heap.lt_size e
end
/-- two of either kind, the items in new pairs -/
def ItzK (b1 b2 : Bool) (K : PySem.W.Frag) (a b : Addr) : It :=
  ⟨fun i H => ∃ (xs ys : List V) (x y : V), SqK b1 K H a xs ∧ SqK b2 K H b ys ∧ xs[i]? = some x ∧ ys[i]? = some y,
    fun i H v H' => ∃ T x y, v = .ref T ∧ H T = none ∧ H' = upd H T (.tup [x, y]) ∧ (∀ xs, SqK b1 K H a xs → xs[i]? = some x) ∧ ∀ ys, SqK b2 K H b ys → ys[i]? = some y,
    fun i H => ∃ xs ys : List V, SqK b1 K H a xs ∧ SqK b2 K H b ys ∧ i ≤ xs.length ∧ i ≤ ys.length ∧ (i = xs.length ∨ i = ys.length)⟩
theorem walk_zipK {b1 b2 : Bool} {K : PySem.W.Frag} {a b : Addr} {xs ys : List V} {n : Nat} (hn : n = min xs.length ys.length) : Walk (ItzK b1 b2 K a b) n (fun H => SqK b1 K H a xs ∧ SqK b2 K H b ys) (YPair (fun i => xs[i]?) (fun i => ys[i]?)) where
  goes := fun i H hi ⟨q1, q2⟩ => by
    have l1 : i < xs.length := by omega
    have l2 : i < ys.length := by omega
    exact ⟨xs, ys, xs[i], ys[i], q1, q2, List.getElem?_eq_getElem l1, List.getElem?_eq_getElem l2⟩
  stops := fun H ⟨q1, q2⟩ => ⟨xs, ys, q1, q2, by omega, by omega, by omega⟩
  yields := fun i H v H' hi ⟨q1, q2⟩ ⟨T, x, y, e1, e2, e3, f1, f2⟩ => ⟨T, x, y, e1, e2, e3, f1 _ q1, f2 _ q2⟩
section
variable {P : Program} {w : World} {K : PySem.W.Frag} {elts : List Expr} {kk : Nat} {tpos : Pos}
theorem five {c z TI TO i1 i2 : Addr} (h : c ∈ [z, TI, TO, i1, i2]) : c = z ∨ c = TI ∨ c = TO ∨ c = i1 ∨ c = i2 := by simpa using h
theorem turn_zipK {b1 b2 : Bool} {a b z TI TO i1 i2 : Addr} (S : ZipSep2 z TI TO i1 i2 [i1, a] [i2, b]) (ha : a ≠ i1) (hb : b ≠ i2) :
    Turn P w K (.Tuple elts kk tpos) (ItzK b1 b2 K a b) [z, TI, TO, i1, i2] z (fun i h => IsZip h z TI TO .none ∧ IsPair h TI (.ref i1) (.ref i2) ∧ (∃ x y, IsPair h TO x y) ∧ ItA b1 h i1 a i ∧ ItA b2 h i2 b i) where
  mem := List.mem_cons_self
  obj := fun i h st c hc => by
    obtain ⟨hz, hTI, ⟨x, y, hTO⟩, q1, q2⟩ := st
    rcases five hc with rfl | rfl | rfl | rfl | rfl
    · exact ⟨_, hz, fun v q => nomatch q⟩
    · exact ⟨_, hTI, fun v q => nomatch q⟩
    · exact ⟨_, hTO, fun v q => nomatch q⟩
    · exact q1.obj
    · exact q2.obj
  keep := fun i h h' st k => by
    obtain ⟨hz, hTI, ⟨x, y, hTO⟩, q1, q2⟩ := st
    exact ⟨k z (by simp) _ hz, k TI (by simp) _ hTI, ⟨x, y, k TO (by simp) _ hTO⟩, q1.at (k i1 (by simp)), q2.at (k i2 (by simp))⟩
  item := by
    intro X hP hw hK hc i pins s σ H E I hf st hg
    subst hP hw hK
    obtain ⟨hz, hTI, ⟨x0, y0, hTO⟩, q1, q2⟩ := st
    obtain ⟨xs, ys, x, y, sx, sy, hx, hy⟩ := hg
    obtain ⟨its1, r1, p1⟩ := seqK I sx
    obtain ⟨its2, r2, p2⟩ := seqK I sy
    obtain ⟨u, hu, ru⟩ := r1.get hx
    obtain ⟨u2, hu2, ru2⟩ := r2.get hy
    have hd : X.A.in1.handled = none := I.ok.hd hc
    have l1 : i < its1.toArray.size := by
      have := (List.getElem?_eq_some_iff.mp hu).1
      simpa using this
    have l2 : i < its2.toArray.size := by
      have := (List.getElem?_eq_some_iff.mp hu2).1
      simpa using this
    have zl : z < s.heap.objs.size := Heap.lt_size hz
    refine wpAny_pyNext_zipD2_item S (drawsK (prog := X.prog) (w := X.w) (b := b1) hd ha its1.toArray) (drawsK (prog := X.prog) (w := X.w) (b := b2) hd hb its2.toArray) hz hTI hTO ⟨q1, p1⟩ ⟨q2, p2⟩ l1 l2 fun v1 v2 h' tk e1 e2 z' TO' s1' s2' hT hsz hk => ?_
    have ev1 : v1 = u := by
      have : its1[i]? = some v1 := by simpa using e1
      rw [hu] at this
      exact (Option.some.inj this).symm
    have ev2 : v2 = u2 := by
      have : its2[i]? = some v2 := by simpa using e2
      rw [hu2] at this
      exact (Option.some.inj this).symm
    subst ev1 ev2
    refine ⟨_, rfl, wpAny_letOwnedTupleGo_zip (s := { s with heap := h', toks := tk }) z' fun h'' z'' sb => ?_⟩
    have hT2 : h''.get? s.heap.objs.size = some { cls := .type "tuple", data := .seq #[v1, v2] } := (sb.2 _ (Nat.ne_of_gt zl)).trans hT
    have new : ObjOk X.prog X.w (upd H s.heap.objs.size (.tup [x, y])) h'' s.heap.objs.size (.tup [x, y]) :=
      ⟨by show 2 ≤ sizeLine; decide, [v1, v2], .cons ru (.cons ru2 .nil), ⟨_, hT2, rfl, _, rfl⟩⟩
    have I1 : Inv X pins σ (upd H s.heap.objs.size (.tup [x, y])) { s with heap := h'', toks := tk } :=
      I.turnedNew (t' := tk) (ch := [z, TI, TO, i1, i2]) (fun c o hc q => (sb.2 c fun q' => hc (by simp [q'])).trans (hk c o (fun q' => hc (by simp [q'])) (fun q' => hc (by simp [q'])) (fun q' => hc (by simp [q'])) (fun q' => hc (by simp [q'])) q)) hf (Nat.le_refl _) new
    have nz1 : i1 ≠ z := fun e => S.zf1 (by rw [e]; exact List.mem_cons_self)
    have nz2 : i2 ≠ z := fun e => S.zf2 (by rw [e]; exact List.mem_cons_self)
    refine ⟨.ref s.heap.objs.size, _, I1, rfl, ⟨_, x, y, rfl, I.hok.fresh (Nat.le_refl _), rfl, fun l hl => by rw [injK I hl sx]; exact hx, fun l hl => by rw [injK I hl sy]; exact hy⟩, ⟨z'', ?_, ⟨v1, v2, ?_⟩, ?_, ?_⟩, fun c hcm => ?_⟩
    · exact (sb.2 _ S.TIz).trans (hk _ _ S.TIz S.TITO S.TIi1 S.TIi2 hTI)
    · exact (sb.2 _ S.TOz).trans TO'
    · exact s1'.1.at fun o q => (sb.2 _ nz1).trans q
    · exact s2'.1.at fun o q => (sb.2 _ nz2).trans q
    · have lt : c < s.heap.objs.size := by
        rcases five hcm with rfl | rfl | rfl | rfl | rfl
        · exact zl
        · exact Heap.lt_size hTI
        · exact Heap.lt_size hTO
        · obtain ⟨o, e, _⟩ := q1.obj
          exact Heap.lt_size e
        · obtain ⟨o, e, _⟩ := q2.obj
          exact Heap.lt_size e
      rw [upd_ne (Nat.ne_of_lt lt)]
      exact (hf c hcm).1
  done := by
    intro X hP hw hK hc i pins s σ H E I hf st hg
    subst hP hw hK
    obtain ⟨hz, hTI, ⟨x0, y0, hTO⟩, q1, q2⟩ := st
    obtain ⟨xs, ys, sx, sy, l1, l2, le⟩ := hg
    obtain ⟨its1, r1, p1⟩ := seqK I sx
    obtain ⟨its2, r2, p2⟩ := seqK I sy
    have hd : X.A.in1.handled = none := I.ok.hd hc
    have m1 := r1.length
    have m2 := r2.length
    refine wpAny_pyNext_zipD2_end S (drawsK (prog := X.prog) (w := X.w) (b := b1) hd ha its1.toArray) (drawsK (prog := X.prog) (w := X.w) (b := b2) hd hb its2.toArray) hz hTI hTO ⟨q1, p1⟩ ⟨q2, p2⟩ (by simp; omega) (by simp; omega) (by simp; omega) fun h' tk hk => ⟨rfl, ?_⟩
    exact I.turnedL (t' := tk) (ch := [z, TI, TO, i1, i2]) (fun c o hc q => hk c o (fun q' => hc (by simp [q'])) (fun q' => hc (by simp [q'])) (fun q' => hc (by simp [q'])) (fun q' => hc (by simp [q'])) q) hf
  self := fun A i s Q E st h => wpAny_pyIter_zip st.1 h
def iZipK (K : PySem.W.Frag) (ta : TA) : TI := fun σ H R => ta σ H fun vs H1 => ∃ b1 b2 a b xs ys, vs = [.ref a, .ref b] ∧ SqK b1 K H1 a xs ∧ SqK b2 K H1 b ys ∧ R (ItzK b1 b2 K a b) H1
theorem pi_zipK {X : Cx} {e e2 : Expr} {ta : TA} {p pos : Pos} (hg : Gl X "zip") (hm : X.mg "zip" = none) (ha : PA X [e, e2] ta)
    (hs : starEach [e, e2] X.env = (false, eval e X.env) :: starEach [e2] X.env := by rfl) (hpl : (backTo pos (starEach [e2] X.env)).any (·.1) = false := by rfl) :
    PI X (.Tuple elts kk tpos) (.Call (.Name "zip" p) [e, e2] [] pos) (iZipK X.K ta) := by
  refine ⟨fun pins s σ H R I h => ?_⟩
  refine Call_ (ld_blt I hg hm PyProof.Rows.boot_zip (PyProof.Rows.callWith_type1 (thn (ha.run pos pins s σ H _ I h) fun us s1 q => ?_) hs hpl))
  obtain ⟨vs, H1, I1, r1, b1, b2, a, b, xs, ys, rfl, sx, sy, q⟩ := q
  obtain ⟨u1, u2, rfl, e1, e2⟩ := vals2 r1
  cases e1
  cases e2
  obtain ⟨its1, _, p1⟩ := seqK I1 sx
  obtain ⟨its2, _, p2⟩ := seqK I1 sy
  refine zip_begins2 (beginsK (b := b1) a its1.toArray) (beginsK (b := b2) b its2.toArray) p1 p2 fun h' hz hTI hTO g1 g2 hsz hk => wpAny_pyIter_zip hz ?_
  have I2 : Inv X pins σ H1 { s1 with heap := h' } := I1.kept (t' := s1.toks) hk
  have na : a < s1.heap.objs.size := p1.lt
  have nb : b < s1.heap.objs.size := p2.lt
  have S : ZipSep2 (s1.heap.objs.size + 4) (s1.heap.objs.size + 2) (s1.heap.objs.size + 3) s1.heap.objs.size (s1.heap.objs.size + 1) [s1.heap.objs.size, a] [s1.heap.objs.size + 1, b] :=
    zip_sep2 (fun c hc => by rw [List.mem_singleton.mp hc]; exact na) (fun c hc => by rw [List.mem_singleton.mp hc]; exact nb)
  refine ⟨s1.heap.objs.size + 4, [s1.heap.objs.size + 4, s1.heap.objs.size + 2, s1.heap.objs.size + 3, s1.heap.objs.size, s1.heap.objs.size + 1], _, _, H1, rfl, I2, turn_zipK S (Nat.ne_of_lt na) (Nat.ne_of_lt (Nat.lt_succ_of_lt nb)), ⟨hz, hTI, ⟨_, _, hTO⟩, .new g1, .new g2⟩, fun c hc => ?_, q⟩
  have le : s1.heap.objs.size ≤ c := by
    rcases five hc with rfl | rfl | rfl | rfl | rfl <;> omega
  exact I1.fpOk le (I1.hok.fresh le)
theorem meets_enum1 {v : Value} {o : Obj} {H : Heap → Prop} (B : Begins v o H) :
    Meets (Builtin.«enumerate.__new__» ⟨[.type "enumerate", v], []⟩) (fun _ R s => H s.heap ∧
      R (.ok (.ret (.ref (s.heap.push o).objs.size))) { s with heap := (s.heap.push o).push { cls := .type "enumerate", data := .fields #[.none, .bool false, .ref s.heap.objs.size, rawInt 0, .none, .none] } }) :=
  .of_wp fun prog w A R s h => by
    obtain ⟨hp, g, d, tk, os⟩ := s
    obtain ⟨h1, h⟩ := h
    have sub := sub_enumerate
    have it : ∀ {A' : Around} {E : Value → Shared → Prop} {Q : Value → Shared → Prop}, Q (.ref hp.objs.size) ⟨hp.push o, g, d, tk, os⟩ → wpAny (model prog w) A' (pyIter v) Q E ⟨hp, g, d, tk, os⟩ :=
      fun q => B.iter prog w _ _ ⟨hp, g, d, tk, os⟩ _ h1 q
    wp_walk using it
    refine wpAny_stack_any fun st => wpAny_pure ?_
    split
    · rename_i c _ _ _ _ _
      cases (c == Value.type "enumerate") <;> (wp_walk using it; exact ⟨_, rfl, h⟩)
    · wp_walk using it
      exact ⟨_, rfl, h⟩
theorem call_enum1 {prog : Program} {A : Around} {E : Value → Shared → Prop} {s : Shared} {v : Value} {o : Obj} {H : Heap → Prop} {Q : Value → Shared → Prop} (B : Begins v o H) (h1 : H s.heap)
    (h : ∀ h', IsEnum h' (s.heap.objs.size + 1) s.heap.objs.size 0 .none → h'.get? s.heap.objs.size = some o → (∀ b u, s.heap.get? b = some u → h'.get? b = some u) → Q (.ref (s.heap.objs.size + 1)) { s with heap := h' }) :
    wpAny (model prog w) A (call (.type "enumerate") [v]) Q E s := by
  refine callType_new F.called_enumerate (by decide) (F.typeCall_enumerate_1 _) (F.newCall_enumerate_1 _) (fun obj => F.args_object_init_2 obj _) F.entry_enumerate_new (meets_enum1 B) ⟨h1, ?_⟩
  have z : (s.heap.push o).objs.size = s.heap.objs.size + 1 := Heap.size_push ..
  show _ ∧ _
  rw [z]
  have e : IsEnum ((s.heap.push o).push { cls := .type "enumerate", data := .fields #[.none, .bool false, .ref s.heap.objs.size, rawInt 0, .none, .none] }) (s.heap.objs.size + 1) s.heap.objs.size 0 .none := by
    have y := Heap.get?_push_size (s.heap.push o) (o := { cls := .type "enumerate", data := .fields #[.none, .bool false, .ref s.heap.objs.size, rawInt 0, .none, .none] }) rfl
    rw [z] at y
    exact y
  exact ⟨⟨_, e, rfl⟩, h _ e (Heap.get?_push_of_some _ (Heap.get?_push_size _ B.free)) fun b u x => Heap.get?_push_of_some _ (Heap.get?_push_of_some _ x)⟩
/-- one of either kind, each item in a new pair behind its number -/
def IteK (b : Bool) (K : PySem.W.Frag) (a : Addr) : It :=
  ⟨fun i H => ∃ (xs : List V) (x : V), SqK b K H a xs ∧ xs[i]? = some x, fun i H v H' => ∃ T x, v = .ref T ∧ H T = none ∧ H' = upd H T (.tup [.int (i : Nat), x]) ∧ ∀ xs, SqK b K H a xs → xs[i]? = some x,
    fun i H => ∃ xs : List V, SqK b K H a xs ∧ xs.length = i⟩
theorem walk_enumK {b : Bool} {a : Addr} {xs : List V} : Walk (IteK b K a) xs.length (fun H => SqK b K H a xs) (YPair (fun i => some (.int (i : Nat))) (fun i => xs[i]?)) where
  goes := fun i H hi q => ⟨xs, xs[i], q, List.getElem?_eq_getElem hi⟩
  stops := fun H q => ⟨xs, q, rfl⟩
  yields := fun i H v H' hi q ⟨T, x, e1, e2, e3, f⟩ => ⟨T, _, x, e1, e2, e3, rfl, f _ q⟩
theorem turn_enumK {b : Bool} {a e it : Addr} (ha : a ≠ it) (hea : e ≠ a) (hei : e ≠ it) :
    Turn P w K (.Tuple elts kk tpos) (IteK b K a) [e, it] e (fun i h => (∃ old, IsEnum h e it ((i : Nat) : Int) old) ∧ ItA b h it a i) where
  mem := List.mem_cons_self
  obj := fun i h st c hc => by
    obtain ⟨⟨old, he⟩, q⟩ := st
    rcases List.mem_cons.mp hc with rfl | hc
    · exact ⟨_, he, fun v z => nomatch z⟩
    · rw [List.mem_singleton.mp hc]
      exact q.obj
  keep := fun i h h' st k => by
    obtain ⟨⟨old, he⟩, q⟩ := st
    exact ⟨⟨old, k e (by simp) _ he⟩, q.at (k it (by simp))⟩
  item := by
    intro X hP hw hK hc i pins s σ H E I hf st hg
    subst hP hw hK
    obtain ⟨⟨old, he⟩, q⟩ := st
    obtain ⟨xs, x, sx, hx⟩ := hg
    obtain ⟨its, r, p⟩ := seqK I sx
    obtain ⟨u, hu, ru⟩ := r.get hx
    have hd : X.A.in1.handled = none := I.ok.hd hc
    have l1 : i < its.toArray.size := by
      have := (List.getElem?_eq_some_iff.mp hu).1
      simpa using this
    have el : e < s.heap.objs.size := Heap.lt_size he
    have il : it < s.heap.objs.size := by
      obtain ⟨o, z, _⟩ := q.obj
      exact Heap.lt_size z
    refine wpAny_pyNext_enum_itemD (drawsK (prog := X.prog) (w := X.w) (b := b) hd ha its.toArray) he ⟨q, p⟩ l1 hei (by simp [hei, hea]) fun v h' tk e1 ho st' hT hsz hk => ?_
    have ev : v = u := by
      have : its[i]? = some v := by simpa using e1
      rw [hu] at this
      exact (Option.some.inj this).symm
    subst ev
    refine ⟨_, rfl, wpAny_letOwnedTupleGo_enum (s := { s with heap := h', toks := tk + 1 }) ho fun h'' he' sb => ?_⟩
    have hT2 : h''.get? s.heap.objs.size = some { cls := .type "tuple", data := .seq #[.int i tk, v] } := (sb.2 _ (Nat.ne_of_gt el)).trans hT
    have new : ObjOk X.prog X.w (upd H s.heap.objs.size (.tup [.int (i : Nat), x])) h'' s.heap.objs.size (.tup [.int (i : Nat), x]) :=
      ⟨by show 2 ≤ sizeLine; decide, [.int i tk, v], .cons ⟨_, rfl⟩ (.cons ru .nil), ⟨_, hT2, rfl, _, rfl⟩⟩
    have I1 : Inv X pins σ (upd H s.heap.objs.size (.tup [.int (i : Nat), x])) { s with heap := h'', toks := tk + 1 } :=
      I.turnedNew (ch := [e, it]) (fun c o hc z => (sb.2 c fun y => hc (by simp [y])).trans (hk c o (fun y => hc (by simp [y])) (fun y => hc (by simp [y])) z)) hf (Nat.le_refl _) new
    refine ⟨.ref s.heap.objs.size, _, I1, rfl, ⟨_, x, rfl, I.hok.fresh (Nat.le_refl _), rfl, fun ys hy => by rw [injK I hy sx]; exact hx⟩, ⟨⟨v, ?_⟩, st'.1.at fun o z => (sb.2 it (Ne.symm hei)).trans z⟩, fun c hc => ?_⟩
    · have e2 : ((i + 1 : Nat) : Int) = (i : Int) + 1 := by omega
      rw [e2]
      exact he'
    · have lt : c < s.heap.objs.size := by
        rcases List.mem_cons.mp hc with rfl | z
        · exact el
        · rw [List.mem_singleton.mp z]
          exact il
      rw [upd_ne (Nat.ne_of_lt lt)]
      exact (hf c hc).1
  done := by
    intro X hP hw hK hc i pins s σ H E I hf st hg
    subst hP hw hK
    obtain ⟨⟨old, he⟩, q⟩ := st
    obtain ⟨xs, sx, rfl⟩ := hg
    obtain ⟨its, r, p⟩ := seqK I sx
    have hd : X.A.in1.handled = none := I.ok.hd hc
    obtain ⟨f0, f1, f2, f3, f4, f5⟩ := hf it (by simp)
    have hl : xs.length = its.toArray.size := by
      rw [List.size_toArray]
      exact r.length
    refine wpAny_pyNext_enum_endD (drawsK (prog := X.prog) (w := X.w) (b := b) hd ha its.toArray) he (by rw [hl] at q; exact ⟨q, p⟩) fun h' eb => ⟨rfl, I.turned (t' := s.toks) (fun b o hb z => eb b o hb z) f0 f1 f3 f4 f5⟩
  self := fun A i s Q E st h => by
    obtain ⟨⟨old, he⟩, _⟩ := st
    exact wpAny_pyIter_enum he h
def iEnumK (K : PySem.W.Frag) (ta : TA) : TI := fun σ H R => ta σ H fun vs H1 => ∃ b a xs, vs = [.ref a] ∧ SqK b K H1 a xs ∧ R (IteK b K a) H1
theorem pi_enumK {X : Cx} {e : Expr} {ta : TA} {p pos : Pos} (hg : Gl X "enumerate") (hm : X.mg "enumerate" = none) (ha : PA X [e] ta) (hs : starEach [e] X.env = [(false, eval e X.env)] := by rfl) :
    PI X (.Tuple elts kk tpos) (.Call (.Name "enumerate" p) [e] [] pos) (iEnumK X.K ta) := by
  refine ⟨fun pins s σ H R I h => ?_⟩
  refine Call_ (ld_blt I hg hm boot_enumerate (PyProof.Rows.callWith_type1 (thn (ha.run pos pins s σ H _ I h) fun us s1 q => ?_) hs rfl))
  obtain ⟨vs, H1, I1, r1, b, a, xs, rfl, sx, q⟩ := q
  obtain ⟨u, rfl, e1⟩ := vals1 r1
  cases e1
  obtain ⟨its, _, p1⟩ := seqK I1 sx
  refine call_enum1 (beginsK (b := b) a its.toArray) p1 fun h' he g hk => wpAny_pyIter_enum he ?_
  have I2 : Inv X pins σ H1 { s1 with heap := h' } := I1.kept (t' := s1.toks) hk
  have na : a < s1.heap.objs.size := p1.lt
  refine ⟨s1.heap.objs.size + 1, [s1.heap.objs.size + 1, s1.heap.objs.size], _, _, H1, rfl, I2, turn_enumK (Nat.ne_of_lt na) (Nat.ne_of_gt (Nat.lt_succ_of_lt na)) (Nat.succ_ne_self _), ⟨⟨.none, he⟩, .new g⟩, fun c hc => ?_, q⟩
  have le : s1.heap.objs.size ≤ c := by
    rcases List.mem_cons.mp hc with rfl | z
    · exact Nat.le_succ _
    · rw [List.mem_singleton.mp z]
      exact Nat.le_refl _
  exact I1.fpOk le (I1.hok.fresh le)
end
end Vk
/-! Readings by what stands afterwards. -/
namespace Vk
open PySem PySem.Spec PyProof.Rows L2
theorem Same.seqT {K : PySem.W.Frag} {H H' : Hp} {a : Addr} {xs : List V} (s : Same H H') (h : SqT K H a xs) : SqT K H' a xs := by
  rcases h with (h | ⟨o, h⟩) | h
  · exact .inl (.inl (s _ _ h))
  · exact .inl (.inr ⟨o, s _ _ h⟩)
  · exact .inr h
theorem Same.seqK {b : Bool} {K : PySem.W.Frag} {H H' : Hp} {a : Addr} {xs : List V} (s : Same H H') (h : SqK b K H a xs) : SqK b K H' a xs := by
  cases b with
  | true => exact s.seq h
  | false => exact Same.seqT s h
/-- t + u -/
theorem cat_any {K : PySem.W.Frag} {H : Hp} {a b : Addr} {xs ys : List V} {Q : VK} (ha : SqT K H a xs) (hb : SqT K H b ys) (hl : xs.length + ys.length ≤ sizeLine) (q : ∀ r H', Same H H' → SqT K H' r (xs ++ ys) → Q (.ref r) H') : rCatA K (.ref a) (.ref b) H Q := by
  refine ⟨a, b, xs, ys, rfl, rfl, ha, hb, hl, fun e => ?_, fun _ e => ?_, fun _ _ p np => q p _ (same_new np) (SqT.of upd_same)⟩
  · subst e
    exact q b H (Same.refl _) hb
  · subst e
    exact q a H (Same.refl _) (by rw [List.append_nil]; exact ha)
theorem cutV_whole (xs : List V) (lo hi : Option Int) (h : HT.sIx xs.length 0 lo = 0 ∧ HT.sIx xs.length xs.length hi = xs.length) : cutV xs lo hi = xs := by
  unfold cutV
  rw [h.1, h.2, List.drop_zero, Nat.sub_zero, List.take_length]
/-- t[lo:hi] -/
theorem slice_any {K : PySem.W.Frag} {H : Hp} {a : Addr} {xs : List V} {lo hi : Option Int} {Q : VK} (ha : SqT K H a xs) (q : ∀ r H', Same H H' → SqT K H' r (cutV xs lo hi) → Q (.ref r) H') : rSlA K (.ref a) lo hi H Q :=
  ⟨a, xs, rfl, ha, fun h => q a H (Same.refl _) (by rw [cutV_whole xs lo hi h]; exact ha), fun _ p np => q p _ (same_new np) (SqT.of upd_same)⟩
/-- from one on -/
theorem cut1 {xs : List V} {x : V} : cutV (x :: xs) (some 1) none = xs := by
  unfold cutV
  have e1 : HT.sIx (x :: xs).length 0 (some 1) = 1 := by
    have h := HT.sIx_nat (x :: xs).length 0 1
    rw [List.length_cons] at h ⊢
    exact h.trans (by omega)
  have e2 : HT.sIx (x :: xs).length (x :: xs).length none = xs.length + 1 := by
    rw [HT.sIx_none, List.length_cons]
  rw [e1, e2, List.drop_succ_cons, List.drop_zero, Nat.add_sub_cancel, List.take_length]
/-- a comprehension without a test, over any walk, whose items are those of R -/
theorem lc_to {J : It} {n : Nat} {G : Hp → Prop} {Y : Nat → Hp → V → Hp → Prop} (w : Walk J n G Y) {g : TG} {te : TE} {vs : List Nat} {σ : L2.St} {H1 : Hp} {D : Addr} {Qd : Hp → Prop} (R : List V) (hn : R.length = n) (hz : n < sizeLine) (nD : H1 D = none)
    (hG : ∀ H, Same H1 H → G H)
    (hs : ∀ (i : Nat) (x y : V) (H H' : Hp) (Qy : VK), R[i]? = some y → i < n → Same H1 H → Y i H x H' → (∀ H4, Same H H4 → Qy y H4) → g x (wipe σ vs) H' fun σ2 H2 => wipe σ2 vs = wipe σ vs ∧ te σ2 H2 Qy)
    (hd : ∀ H, Same H1 H → H D = some (.lst R) → Qd H) :
    ∃ W : Nat → Nat → Hp → Prop, (∃ m, W 0 m (upd H1 D (.lst []))) ∧ ∀ i m H, W i m H →
      (J.stop i H ∧ Qd H) ∨ (J.go i H ∧ ∃ Nx : Hp → Prop, (∀ H', Nx H' → ∃ m', m' < m ∧ W (i + 1) m' H') ∧ ∀ x H', J.yld i H x H' → g x (wipe σ vs) H' fun σ2 H2 => wipe σ2 vs = wipe σ vs ∧ tYes σ2 H2 fun b H3 =>
        if b = true then te σ2 H3 fun y H4 => ∃ acc, H4 D = some (.lst acc) ∧ acc.length < sizeLine ∧ Nx (upd H4 D (.lst (acc ++ [y]))) else Nx H3) := by
  refine lc_it w (tt := tYes) (fun i H => Same H1 H ∧ H D = some (.lst (R.take i))) ⟨same_new nD, by rw [upd_same]; rfl⟩ (fun i H _ p => hG H p.1) ?_ ?_
  · rintro i x H H' hi ⟨s, d⟩ y
    have hiR : i < R.length := by omega
    obtain ⟨v, hv⟩ : ∃ v, R[i]? = some v := ⟨_, List.getElem?_eq_getElem hiR⟩
    exact hs i x v H H' (fun y H4 => ∃ acc, H4 D = some (.lst acc) ∧ acc.length < sizeLine ∧ Same H1 (upd H4 D (.lst (acc ++ [y]))) ∧ upd H4 D (.lst (acc ++ [y])) D = some (.lst (R.take (i + 1)))) hv hi s y fun H4 s4 => by
      refine ⟨R.take i, s4 _ _ d, ?_, same_put (s.trans s4) nD, ?_⟩
      · rw [List.length_take]
        omega
      · rw [upd_same, List.take_add_one, hv]
        rfl
  · rintro H ⟨s, d⟩
    refine hd H s ?_
    rw [d, ← hn, List.take_length]
/-- a tuple that stands in the heap -/
def Tp (H : Hp) (a : Addr) (xs : List V) : Prop := H a = some (.tup xs)
theorem Tp.same {H H' : Hp} {a : Addr} {xs : List V} (h : Tp H a xs) (s : Same H H') : Tp H' a xs := s _ _ h
theorem Tp.t {K : PySem.W.Frag} {H : Hp} {a : Addr} {xs : List V} (h : Tp H a xs) : SqT K H a xs := SqT.of h
theorem Tp.but {m : Addr} {H H' : Hp} {a : Addr} {xs : List V} {kvs : List (Key × V)} (h : Tp H a xs) (hm : H m = some (.dK kvs)) (s : SameBut m H H') : Tp H' a xs := s _ _ (ne_of h hm (by intro z; cases z)) h
theorem cat_tp {K : PySem.W.Frag} {H : Hp} {a b : Addr} {xs ys : List V} {Q : VK} (ha : Tp H a xs) (hb : Tp H b ys) (hl : xs.length + ys.length ≤ sizeLine) (q : ∀ r H', Same H H' → Tp H' r (xs ++ ys) → Q (.ref r) H') : rCatA K (.ref a) (.ref b) H Q := by
  refine ⟨a, b, xs, ys, rfl, rfl, ha.t, hb.t, hl, fun e => ?_, fun _ e => ?_, fun _ _ p np => q p _ (same_new np) upd_same⟩
  · subst e
    exact q b H (Same.refl _) hb
  · subst e
    exact q a H (Same.refl _) (by rw [List.append_nil]; exact ha)
theorem slice_tp {K : PySem.W.Frag} {H : Hp} {a : Addr} {xs : List V} {lo hi : Option Int} {Q : VK} (ha : Tp H a xs) (q : ∀ r H', Same H H' → Tp H' r (cutV xs lo hi) → Q (.ref r) H') : rSlA K (.ref a) lo hi H Q :=
  ⟨a, xs, rfl, ha.t, fun h => q a H (Same.refl _) (by rw [cutV_whole xs lo hi h]; exact ha), fun _ p np => q p _ (same_new np) upd_same⟩
end Vk
namespace Vk
/-- |a| < 2 ^ n -/
def SmZ (n : Nat) (a : Int) : Prop := a.natAbs < 2 ^ n
end Vk
namespace K00
open PySem PySem.Spec PyProof.Rows L2 Vk
def dot (xs ys : List Int) : Int := (List.zipWith (· * ·) xs ys).sum
abbrev s_isn : Stmt := topS 6
theorem sc_isn : FnScope ["value"] ["value"] (defScope s_isn) := ⟨rfl, rfl, rfl, by decide +kernel, rfl, by decide +kernel, by decide +kernel⟩
abbrev s_aren : Stmt := topS 7
theorem sc_aren : FnScope ["value", "count", "entry"] ["value", "count"] (defScope s_aren) := ⟨rfl, rfl, rfl, by decide +kernel, rfl, by decide +kernel, by decide +kernel⟩
abbrev s_isform : Stmt := topS 8
theorem sc_isform : FnScope ["value", "m"] ["value", "m"] (defScope s_isform) := ⟨rfl, rfl, rfl, by decide +kernel, rfl, by decide +kernel, by decide +kernel⟩
abbrev s_psum : Stmt := topS 10
theorem sc_psum : FnScope ["one", "other", "a", "b"] ["one", "other"] (defScope s_psum) := ⟨rfl, rfl, rfl, by decide +kernel, rfl, by decide +kernel, by decide +kernel⟩
abbrev s_fval : Stmt := topS 11
theorem sc_fval : FnScope ["form", "t"] ["form", "t"] (defScope s_fval) := ⟨rfl, rfl, rfl, by decide +kernel, rfl, by decide +kernel, by decide +kernel⟩
abbrev s_fsum : Stmt := topS 12
theorem sc_fsum : FnScope ["one", "other", "a", "b"] ["one", "other"] (defScope s_fsum) := ⟨rfl, rfl, rfl, by decide +kernel, rfl, by decide +kernel, by decide +kernel⟩
abbrev s_ftimes : Stmt := topS 13
theorem sc_ftimes : FnScope ["form", "n", "entry"] ["form", "n"] (defScope s_ftimes) := ⟨rfl, rfl, rfl, by decide +kernel, rfl, by decide +kernel, by decide +kernel⟩
def spIsn : Sp := fun vs H Q _ => ∃ x t, vs = [x] ∧ Oky H x t ∧ Q (.bl (isInt x)) H
/-- what is_form tells -/
def isForm (m : Nat) : V → Hp → Bool := fun _ _ => false
def tupOk (n : Nat) (xs : List V) : Bool := decide (xs.length = n) && xs.all isInt
/-- a value of any kind is judged: an entry of a tuple, too -/
def spAren : Sp := fun vs H Q _ => ∃ (x : V) (n : Nat), vs = [x, .int n] ∧ ((∃ t, Oky H x t ∧ t ≠ "tuple" ∧ Q (.bl false) H) ∨ ∃ a xs, x = .ref a ∧ Tp H a xs ∧ xs.length ≤ 100 ∧ (∀ e ∈ xs, ∃ t, Oky H e t) ∧ ∀ H', Same H H' → Q (.bl (tupOk n xs)) H')
def spIsform : Sp := fun vs H Q _ => ∃ (x : V) (n : Nat), vs = [x, .int n] ∧ ((∃ t, Oky H x t ∧ t ≠ "tuple" ∧ Q (.bl false) H) ∨ ∃ a xs, x = .ref a ∧ Tp H a xs ∧ xs.length ≤ 100 ∧ (∀ e ∈ xs, ∃ t, Oky H e t) ∧ ∀ H', Same H H' → Q (.bl (tupOk (n + 1) xs)) H')
/-- rows of few and small numbers -/
def Row (H : Hp) (a : Addr) (xs : List Int) : Prop := Tp H a (xs.map V.int) ∧ xs.length ≤ 100 ∧ ∀ x ∈ xs, SmZ 300 x
theorem Row.same {H H' : Hp} {a : Addr} {xs : List Int} (h : Row H a xs) (s : Same H H') : Row H' a xs := ⟨h.1.same s, h.2⟩
def spPsum : Sp := fun vs H Q _ => ∃ (a b : Addr) (xs ys : List Int), vs = [.ref a, .ref b] ∧ Row H a xs ∧ Row H b ys ∧ xs.length = ys.length ∧ ∀ H', Same H H' → Q (.int (dot xs ys)) H'
def spFval : Sp := fun vs H Q _ => ∃ (a b : Addr) (c : Int) (xs ys : List Int), vs = [.ref a, .ref b] ∧ Row H a (c :: xs) ∧ Row H b ys ∧ xs.length = ys.length ∧ ∀ H', Same H H' → Q (.int (c + dot xs ys)) H'
def spFsum : Sp := fun vs H Q _ => ∃ (a b : Addr) (xs ys : List Int), vs = [.ref a, .ref b] ∧ Row H a xs ∧ Row H b ys ∧ xs.length = ys.length ∧ ∀ r H', Same H H' → Tp H' r ((List.zipWith (· + ·) xs ys).map V.int) → Q (.ref r) H'
def spFtimes : Sp := fun vs H Q _ => ∃ (a : Addr) (n : Int) (xs : List Int), vs = [.ref a, .int n] ∧ Row H a xs ∧ SmZ 300 n ∧ ∀ r H', Same H H' → Tp H' r ((xs.map (n * ·)).map V.int) → Q (.ref r) H'
theorem small {n : Nat} (h : n ≤ 100) : n < sizeLine := Nat.lt_of_le_of_lt h (by decide)
theorem zip_get {α : Type} {f : Int → Int → α} {xs ys : List Int} {i : Nat} {y : α} (h : (List.zipWith f xs ys)[i]? = some y) : ∃ a b, xs[i]? = some a ∧ ys[i]? = some b ∧ y = f a b := by
  rw [List.getElem?_zipWith] at h
  cases h1 : xs[i]? with
  | none => rw [h1] at h; cases h
  | some a =>
    cases h2 : ys[i]? with
    | none => rw [h1, h2] at h; cases h
    | some b => rw [h1, h2] at h; exact ⟨a, b, rfl, rfl, (Option.some.inj h).symm⟩
theorem map_get {α β : Type} {f : α → β} {xs : List α} {i : Nat} {y : β} (h : (xs.map f)[i]? = some y) : ∃ a, xs[i]? = some a ∧ y = f a := by
  rw [List.getElem?_map] at h
  cases h1 : xs[i]? with
  | none => rw [h1] at h; cases h
  | some a => rw [h1] at h; exact ⟨a, rfl, (Option.some.inj h).symm⟩
theorem wide {a b : Int} (h1 : SmZ 300 a) (h2 : SmZ 300 b) : a.natAbs.log2 + b.natAbs.log2 < 700 := by
  have := PySem.Flt.log2_lt_of (by decide) h1
  have := PySem.Flt.log2_lt_of (by decide) h2
  omega
section
variable {P : Program} {w : World} {K : PySem.W.Frag} {mg : Str → Option Value} {base : Heap}
theorem ok_psum {f : Addr} {fd : FuncData} (F : Fun K "product_sum" "product_sum" s_psum f fd) (m_sum : mg "sum" = none) (m_zip : mg "zip" = none) : FnOk P w K mg base CX0 1 f fd ["one", "other"] spPsum := by
  have sc := sc_psum
  refine F.ok sc (fun vs H Q E h => ?_) (fun cdv A outer s H vs Q E hr h => ?_)
  · obtain ⟨a, b, xs, ys, rfl, _⟩ := h
    rfl
  · obtain ⟨a, b, xs, ys, rfl, ha, hb, hl, q⟩ := h
    refine ⟨_, (pss_one (ps_ret (pe_callB (cr_sum rfl) (by rfl) m_sum (by decide +kernel) (pa_cons (pe_lc (own := [("a", 2), ("b", 3)]) (g := gTup K 2 (gCons (gName 2) (gCons (gName 3) gNil))) (by rfl) sc.nd (pi_zipK (by rfl) m_zip (pa_cons (pv 0) (pa_cons (pv 1) pa_nil))) (blkOk_by (own := [("a", 2), ("b", 3)]) (N := ["one", "other", "a", "b"]) (sc := defScope s_psum) (by decide +kernel)) (fun _ _ _ _ _ => pg_tup (n := 2) (by rfl) (pgs_cons (pg_name (i := 2) sc.nd rfl (Or.inl rfl)) (pgs_cons (pg_name (i := 3) sc.nd rfl (Or.inl rfl)) pgs_nil))) (fun _ _ _ _ _ => pts_nil) (fun _ _ _ _ _ => (pe_op op_mulW (pv 2) (pv 3)))) pa_nil)))), ?_⟩
    refine ⟨.ref a, rfl, .ref b, rfl, false, false, a, b, xs.map V.int, ys.map V.int, rfl, ha.1.t, hb.1.t, fun D nD => ?_⟩
    refine lc_to (walk_zipK (n := xs.length) (by rw [List.length_map, List.length_map]; omega)) ((List.zipWith (· * ·) xs ys).map V.int) (by rw [List.length_map, List.length_zipWith]; omega) (small ha.2.1) nD (fun H' s => ⟨(ha.1.same s).t, (hb.1.same s).t⟩) ?_ ?_
    · rintro i x y H0 H1 Qy hy hi s0 ⟨T, u, v, rfl, nT, rfl, hu, hv⟩ hq
      obtain ⟨z, hz, rfl⟩ := map_get hy
      obtain ⟨p, r, hp, hr', rfl⟩ := zip_get hz
      obtain ⟨p', hp', rfl⟩ := map_get hu
      obtain ⟨r', hr'', rfl⟩ := map_get hv
      obtain rfl := Option.some.inj (hp.symm.trans hp')
      obtain rfl := Option.some.inj (hr'.symm.trans hr'')
      refine ⟨T, [.int p, .int r], rfl, SqT.of upd_same, rfl, .int p, [.int r], rfl, .int r, [], rfl, rfl, rfl, .int p, rfl, .int r, rfl, p, r, rfl, rfl, ?_, hq _ (same_new nT)⟩
      exact Nat.lt_trans (wide (ha.2.2 _ (List.mem_of_getElem? hp)) (hb.2.2 _ (List.mem_of_getElem? hr'))) (by decide)
    · intro H' s d
      exact ⟨D, List.zipWith (· * ·) xs ys, rfl, SqL.of d, q H' s⟩
end
end K00
namespace K00
open PySem PySem.Spec PyProof.Rows L2 Vk
theorem Row.tail {H : Hp} {a : Addr} {x : Int} {xs : List Int} (h : Row H a (x :: xs)) : xs.length ≤ 100 ∧ ∀ y ∈ xs, SmZ 300 y := ⟨Nat.le_trans (Nat.le_succ _) h.2.1, fun y hy => h.2.2 y (List.mem_cons_of_mem _ hy)⟩
theorem smz_log {a : Int} {n : Nat} (hn : 0 < n) (h : SmZ n a) : a.natAbs.log2 < n := PySem.Flt.log2_lt_of hn h
section
variable {P : Program} {w : World} {K : PySem.W.Frag} {mg : Str → Option Value} {base : Heap}
theorem ok_fval {f : Addr} {fd : FuncData} (F : Fun K "form_value" "form_value" s_fval f fd) (C_product_sum : Cal P w K mg base 1 "product_sum" ["one", "other"] spPsum) : FnOk P w K mg base CX0 2 f fd ["form", "t"] spFval := by
  have sc := sc_fval
  refine F.ok sc (fun vs H Q E h => ?_) (fun cdv A outer s H vs Q E hr h => ?_)
  · obtain ⟨a, b, c, xs, ys, rfl, _⟩ := h
    rfl
  · obtain ⟨a, b, c, xs, ys, rfl, ha, hb, hl, q⟩ := h
    refine ⟨_, (pss_one (ps_ret (pe_op op_add (pe_ix ix_tup (pv 0) pe_int (fun _ _ => rfl)) (call_ C_product_sum (hr.mono (by decide)) (by rfl) (pa_cons (pe_slice sl_tupA (pv 0) (po_some pe_int) po_none) (pa_cons (pv 1) pa_nil)))))), ?_⟩
    refine ⟨.ref a, rfl, a, _, 0, .int c, rfl, rfl, ha.1.t, atI_nat (j := 0) rfl, .ref a, rfl, 1, rfl, ?_⟩
    unfold tNoPart
    refine slice_tp ha.1 fun r H' s hr' => ?_
    rw [List.map_cons, cut1] at hr'
    refine ⟨.ref b, rfl, r, b, xs, ys, rfl, ⟨hr', ha.tail⟩, hb.same s, hl, fun H2 s2 => ⟨c, dot xs ys, rfl, rfl, q _ (s.trans s2)⟩⟩
theorem ok_fsum {f : Addr} {fd : FuncData} (F : Fun K "form_sum" "form_sum" s_fsum f fd) (m_tuple : mg "tuple" = none) (m_zip : mg "zip" = none) : FnOk P w K mg base CX0 1 f fd ["one", "other"] spFsum := by
  have sc := sc_fsum
  refine F.ok sc (fun vs H Q E h => ?_) (fun cdv A outer s H vs Q E hr h => ?_)
  · obtain ⟨a, b, xs, ys, rfl, _⟩ := h
    rfl
  · obtain ⟨a, b, xs, ys, rfl, ha, hb, hl, q⟩ := h
    refine ⟨_, (pss_one (ps_ret (pe_callTy call_tuple_of (by rfl) m_tuple (by decide +kernel) (pa_cons (pe_lc (own := [("a", 2), ("b", 3)]) (g := gTup K 2 (gCons (gName 2) (gCons (gName 3) gNil))) (by rfl) sc.nd (pi_zipK (by rfl) m_zip (pa_cons (pv 0) (pa_cons (pv 1) pa_nil))) (blkOk_by (own := [("a", 2), ("b", 3)]) (N := ["one", "other", "a", "b"]) (sc := defScope s_fsum) (by decide +kernel)) (fun _ _ _ _ _ => pg_tup (n := 2) (by rfl) (pgs_cons (pg_name (i := 2) sc.nd rfl (Or.inl rfl)) (pgs_cons (pg_name (i := 3) sc.nd rfl (Or.inl rfl)) pgs_nil))) (fun _ _ _ _ _ => pts_nil) (fun _ _ _ _ _ => (pe_op op_add (pv 2) (pv 3)))) pa_nil)))), ?_⟩
    refine ⟨.ref a, rfl, .ref b, rfl, false, false, a, b, xs.map V.int, ys.map V.int, rfl, ha.1.t, hb.1.t, fun D nD => ?_⟩
    refine lc_to (walk_zipK (n := xs.length) (by rw [List.length_map, List.length_map]; omega)) ((List.zipWith (· + ·) xs ys).map V.int) (by rw [List.length_map, List.length_zipWith]; omega) (small ha.2.1) nD (fun H' s => ⟨(ha.1.same s).t, (hb.1.same s).t⟩) ?_ ?_
    · rintro i x y H0 H1 Qy hy hi s0 ⟨T, u, v, rfl, nT, rfl, hu, hv⟩ hq
      obtain ⟨z, hz, rfl⟩ := map_get hy
      obtain ⟨p, r, hp, hr', rfl⟩ := zip_get hz
      obtain ⟨p', hp', rfl⟩ := map_get hu
      obtain ⟨r', hr'', rfl⟩ := map_get hv
      obtain rfl := Option.some.inj (hp.symm.trans hp')
      obtain rfl := Option.some.inj (hr'.symm.trans hr'')
      exact ⟨T, [.int p, .int r], rfl, SqT.of upd_same, rfl, .int p, [.int r], rfl, .int r, [], rfl, rfl, rfl, .int p, rfl, .int r, rfl, p, r, rfl, rfl, hq _ (same_new nT)⟩
    · intro H' s d
      exact ⟨D, _, rfl, .inl ⟨SqL.of d, fun l nl => q l _ (s.trans (same_new nl)) upd_same⟩⟩
theorem ok_ftimes {f : Addr} {fd : FuncData} (F : Fun K "form_times" "form_times" s_ftimes f fd) (m_tuple : mg "tuple" = none) : FnOk P w K mg base CX0 1 f fd ["form", "n"] spFtimes := by
  have sc := sc_ftimes
  refine F.ok sc (fun vs H Q E h => ?_) (fun cdv A outer s H vs Q E hr h => ?_)
  · obtain ⟨a, n, xs, rfl, _⟩ := h
    rfl
  · obtain ⟨a, n, xs, rfl, ha, zn, q⟩ := h
    refine ⟨_, (pss_one (ps_ret (pe_callTy call_tuple_of (by rfl) m_tuple (by decide +kernel) (pa_cons (pe_lc (own := [("entry", 2)]) (g := gName 2) (by rfl) sc.nd (pi_tup (pv 0)) (blkOk_by (own := [("entry", 2)]) (N := ["form", "n", "entry"]) (sc := defScope s_ftimes) (by decide +kernel)) (fun _ _ _ _ _ => pg_name (i := 2) sc.nd rfl (Or.inl rfl)) (fun _ _ _ _ _ => pts_nil) (fun _ _ _ _ _ => (pe_op op_mulW (pv 1) (pv 2)))) pa_nil)))), ?_⟩
    refine ⟨.ref a, rfl, a, rfl, ⟨_, ha.1.t⟩, fun D nD => ?_⟩
    refine lc_to (walk_tup (K := K) (a := a) (xs := xs.map V.int)) ((xs.map (n * ·)).map V.int) (by rw [List.length_map, List.length_map, List.length_map]) (by rw [List.length_map]; exact small ha.2.1) nD (fun H' s => (ha.1.same s).t) ?_ ?_
    · rintro i x y H0 H1 Qy hy hi s0 ⟨rfl, hx⟩ hq
      obtain ⟨z, hz, rfl⟩ := map_get hy
      obtain ⟨p, hp, rfl⟩ := map_get hz
      obtain ⟨p', hp', rfl⟩ := map_get hx
      obtain rfl := Option.some.inj (hp.symm.trans hp')
      exact ⟨rfl, .int n, rfl, .int p, rfl, n, p, rfl, rfl, Nat.lt_trans (wide zn (ha.2.2 _ (List.mem_of_getElem? hp))) (by decide), hq _ (Same.refl _)⟩
    · intro H' s d
      exact ⟨D, _, rfl, .inl ⟨SqL.of d, fun l nl => q l _ (s.trans (same_new nl)) upd_same⟩⟩
theorem ok_aren {f : Addr} {fd : FuncData} (F : Fun K "are_numbers" "are_numbers" s_aren f fd) (C_is_number : Cal P w K mg base 1 "is_number" ["value"] spIsn) (m_isinstance : mg "isinstance" = none) (m_tuple : mg "tuple" = none) (m_len : mg "len" = none) (m_all : mg "all" = none) : FnOk P w K mg base CX0 2 f fd ["value", "count"] spAren := by
  have sc := sc_aren
  refine F.ok sc (fun vs H Q E h => ?_) (fun cdv A outer s H vs Q E hr h => ?_)
  · obtain ⟨x, n, rfl, _⟩ := h
    rfl
  · obtain ⟨x, n, rfl, h⟩ := h
    refine ⟨_, (pss_cons (ps_if (PW.pt (pw_or (pt_not (pt_val (pe_callB call_isi (by rfl) m_isinstance (by decide +kernel) (pa_cons (pv 0) (pa_cons (pe_bltn (v := .ty "tuple") (by rfl) m_tuple (by decide +kernel) rfl) pa_nil))))) (pw_or1 (pt_cmpR op_ne (pe_callB call_len_seq (by rfl) m_len (by decide +kernel) (pa_cons (pv 0) pa_nil)) (pv 1) (nomark _)))))
      (pss_one (ps_ret pe_bl))
      pss_nil)
    (pss_one (ps_ret (pe_callB (cr_all rfl) (by rfl) m_all (by decide +kernel) (pa_cons (pe_lc (own := [("entry", 2)]) (g := gName 2) (by rfl) sc.nd (pi_tup (pv 0)) (blkOk_by (own := [("entry", 2)]) (N := ["value", "count", "entry"]) (sc := defScope s_aren) (by decide +kernel)) (fun _ _ _ _ _ => pg_name (i := 2) sc.nd rfl (Or.inl rfl)) (fun _ _ _ _ _ => pts_nil) (fun _ _ _ _ _ => (call_ C_is_number (hr.mono (by decide)) (by rfl) (pa_cons (pv 2) pa_nil)))) pa_nil))))), ?_⟩
    rcases h with ⟨t, hx, ht, q⟩ | ⟨a, xs, rfl, ha, hz, hes, q⟩
    · refine ⟨x, rfl, x, .ty "tuple", _, _, _, rfl, .ty _, hx.ty, kit_ty hx.kTup, _, rfl, ?_⟩
      rw [decide_eq_false ht]
      exact iteT (iteT q)
    · have hx : Oky H (.ref a) "tuple" := .tup ha
      refine ⟨.ref a, rfl, .ref a, .ty "tuple", _, _, _, rfl, .ty _, hx.ty, kit_ty hx.kTup, _, rfl, iteF ?_⟩
      refine ⟨.ref a, rfl, a, xs, rfl, .inr ha.t, .int n, rfl, rfl, _, rfl, ite2 (fun hl => ?_) (fun hl => ?_)⟩
      · have n2 : xs.length ≠ n := fun z => by
          rw [z] at hl
          simp at hl
        have e : tupOk n xs = false := by
          unfold tupOk
          rw [decide_eq_false n2]
          rfl
        have q := q H (Same.refl _)
        rw [e] at q
        exact q
      · have n2 : xs.length = n := by
          by_cases z : xs.length = n
          · exact z
          · refine absurd ?_ hl
            rw [decide_eq_false (fun y => z (by have := V.int.inj y; omega))]
            rfl
        refine ⟨.ref a, rfl, a, rfl, ⟨_, ha.t⟩, fun D nD => ?_⟩
        refine lc_to (walk_tup (K := K) (a := a) (xs := xs)) (xs.map fun e => V.bl (isInt e)) (List.length_map ..) (small hz) nD (fun H' s => (ha.same s).t) ?_ ?_
        · rintro i x y H0 H1 Qy hy hi s0 ⟨rfl, hx⟩ hq
          obtain ⟨p, hp, rfl⟩ := map_get hy
          obtain rfl := Option.some.inj (hp.symm.trans hx)
          obtain ⟨t, ht⟩ := hes _ (List.mem_of_getElem? hp)
          exact ⟨rfl, p, rfl, p, t, rfl, ht.same s0, hq _ (Same.refl _)⟩
        · intro H' s d
          refine ⟨D, xs.map Vk.isInt, rfl, SqL.of (by rw [d, List.map_map]; rfl), ?_⟩
          have q := q H' s
          have e : tupOk n xs = (xs.map Vk.isInt).all id := by
            unfold tupOk
            rw [decide_eq_true n2, List.all_map]
            rfl
          rw [e] at q
          exact q
theorem ok_isform {f : Addr} {fd : FuncData} (F : Fun K "is_form" "is_form" s_isform f fd) (C_are_numbers : Cal P w K mg base 2 "are_numbers" ["value", "count"] spAren) : FnOk P w K mg base CX0 3 f fd ["value", "m"] spIsform := by
  have sc := sc_isform
  refine F.ok sc (fun vs H Q E h => ?_) (fun cdv A outer s H vs Q E hr h => ?_)
  · obtain ⟨x, n, rfl, _⟩ := h
    rfl
  · obtain ⟨x, n, rfl, h⟩ := h
    refine ⟨_, (pss_one (ps_ret (call_ C_are_numbers (hr.mono (by decide)) (by rfl) (pa_cons (pv 0) (pa_cons (pe_op op_add (pv 1) pe_int) pa_nil))))), ?_⟩
    exact ⟨x, rfl, .int n, rfl, n, 1, rfl, rfl, x, n + 1, rfl, h⟩
end
end K00
namespace K00
open PySem PySem.Spec PyProof.Rows L2 Vk
/-- several rows of n numbers -/
def Rws (H : Hp) (ps : List Addr) (rows : List (List Int)) (n : Nat) : Prop := ps.length = rows.length ∧ ∀ (i : Nat) (p : Addr) (r : List Int), ps[i]? = some p → rows[i]? = some r → Row H p r ∧ r.length = n
theorem Rws.same {H H' : Hp} {ps : List Addr} {rows : List (List Int)} {n : Nat} (h : Rws H ps rows n) (s : Same H H') : Rws H' ps rows n := ⟨h.1, fun i p r h1 h2 => ⟨(h.2 i p r h1 h2).1.same s, (h.2 i p r h1 h2).2⟩⟩
/-- the form with forms put in, step by step -/
def putI (c : Int) (cs : List Int) (rows : List (List Int)) (n : Nat) : Nat → List Int
  | 0 => c :: List.replicate n 0
  | i + 1 => List.zipWith (fun a b => a + cs.getD i 0 * b) (putI c cs rows n i) (rows.getD i [])
theorem putI_len {c : Int} {cs : List Int} {rows : List (List Int)} {n : Nat} (h : ∀ (i : Nat) (r : List Int), rows[i]? = some r → r.length = n + 1) : ∀ i, i ≤ rows.length → (putI c cs rows n i).length = n + 1
  | 0, _ => by simp [putI]
  | i + 1, hi => by
    have e := putI_len (c := c) (cs := cs) h i (by omega)
    have hr : rows[i]? = some rows[i] := List.getElem?_eq_getElem (by omega)
    have e2 := h i _ hr
    unfold putI
    rw [List.length_zipWith, e, List.getD_eq_getElem?_getD, hr]
    show min (n + 1) (rows[i].length) = n + 1
    omega
def gI (xs : List Int) : Int := xs.foldl (fun g x => ((Int.gcd g x : Nat) : Int)) 0
def lowL : List Int → List Int
  | [] => []
  | c :: xs => if gI xs = 0 then c :: xs else (c :: xs).map fun x => x.fdiv (gI xs)
abbrev s_led : Stmt := topS 14
theorem sc_led : FnScope ["form", "forms", "n", "total", "factor", "inner", "a", "b"] ["form", "forms", "n"] (defScope s_led) := ⟨rfl, rfl, rfl, by decide +kernel, rfl, by decide +kernel, by decide +kernel⟩
abbrev s_putin : Stmt := topS 15
theorem sc_putin : FnScope ["form", "forms", "n"] ["form", "forms", "n"] (defScope s_putin) := ⟨rfl, rfl, rfl, by decide +kernel, rfl, by decide +kernel, by decide +kernel⟩
abbrev s_cpart : Stmt := topS 16
theorem sc_cpart : FnScope ["numbers", "part", "number"] ["numbers"] (defScope s_cpart) := ⟨rfl, rfl, rfl, by decide +kernel, rfl, by decide +kernel, by decide +kernel⟩
abbrev s_low : Stmt := topS 17
theorem sc_low : FnScope ["form", "part", "entry"] ["form"] (defScope s_low) := ⟨rfl, rfl, rfl, by decide +kernel, rfl, by decide +kernel, by decide +kernel⟩
def spPutin : Sp := fun vs H Q _ => ∃ (a b : Addr) (n : Nat) (c : Int) (cs : List Int) (ps : List Addr) (rows : List (List Int)), vs = [.ref a, .ref b, .int n] ∧ n ≤ 90 ∧ Row H a (c :: cs) ∧ Tp H b (ps.map V.ref) ∧ Rws H ps rows (n + 1) ∧ cs.length = rows.length ∧
  ∀ r H', Same H H' → Tp H' r ((putI c cs rows n cs.length).map V.int) → Q (.ref r) H'
def spCpart : Sp := fun vs H Q _ => ∃ (a : Addr) (xs : List Int), vs = [.ref a] ∧ Row H a xs ∧ Q (.int (gI xs)) H
def spLow : Sp := fun vs H Q _ => ∃ (a : Addr) (c : Int) (xs : List Int), vs = [.ref a] ∧ Row H a (c :: xs) ∧ ∀ r H', Same H H' → Tp H' r ((lowL (c :: xs)).map V.int) → Q (.ref r) H'
theorem gI_take {xs : List Int} {i : Nat} {x : Int} (h : xs[i]? = some x) : gI (xs.take (i + 1)) = ((Int.gcd (gI (xs.take i)) x : Nat) : Int) := by
  unfold gI
  rw [List.take_add_one, h, List.foldl_append]
  rfl
theorem gI_done {xs : List Int} {i : Nat} (h : gI (xs.take i) = 1) : gI xs = 1 := by
  have key : ∀ ys : List Int, ys.foldl (fun g x => ((Int.gcd g x : Nat) : Int)) 1 = 1 := by
    intro ys
    induction ys with
    | nil => rfl
    | cons y ys ih =>
      show ys.foldl _ ((Int.gcd 1 y : Nat) : Int) = 1
      rw [Int.one_gcd]
      exact ih
  unfold gI at h ⊢
  rw [← List.take_append_drop i xs, List.foldl_append, h]
  exact key _
theorem gI_nonneg (xs : List Int) : 0 ≤ gI xs := by
  unfold gI
  have : ∀ (ys : List Int) (g : Int), 0 ≤ g → 0 ≤ ys.foldl (fun g x => ((Int.gcd g x : Nat) : Int)) g := by
    intro ys
    induction ys with
    | nil => intro g hg; exact hg
    | cons y ys ih => intro g hg; exact ih _ (Int.natCast_nonneg _)
  exact this xs 0 (Int.le_refl _)
theorem gI_small {xs : List Int} (h : ∀ x ∈ xs, SmZ 300 x) : SmZ 300 (gI xs) := by
  have key : ∀ (ys : List Int) (g : Int), SmZ 300 g → (∀ x ∈ ys, SmZ 300 x) → SmZ 300 (ys.foldl (fun g x => ((Int.gcd g x : Nat) : Int)) g) := by
    intro ys
    induction ys with
    | nil => intro g hg _; exact hg
    | cons y ys ih =>
      intro g hg hy
      refine ih _ ?_ fun x hx => hy x (List.mem_cons_of_mem _ hx)
      have h1 := hy y List.mem_cons_self
      unfold SmZ at *
      by_cases z : y = 0
      · subst z
        show (((Int.gcd g 0 : Nat) : Int)).natAbs < _
        rw [Int.gcd_zero_right]
        simpa using hg
      · have : Int.gcd g y ≤ y.natAbs := Nat.le_of_dvd (by omega) (Nat.gcd_dvd_right _ _)
        show (((Int.gcd g y : Nat) : Int)).natAbs < _
        omega
  exact key xs 0 (by unfold SmZ; exact Nat.two_pow_pos _) h
section
variable {P : Program} {w : World} {K : PySem.W.Frag} {mg : Str → Option Value} {base : Heap}
theorem ok_cpart {f : Addr} {fd : FuncData} (F : Fun K "common_part" "common_part" s_cpart f fd) (g_gcd : mg "gcd" = some (.builtin "math.gcd")) : FnOk P w K mg base CX0 1 f fd ["numbers"] spCpart := by
  have sc := sc_cpart
  refine F.ok sc (fun vs H Q E h => ?_) (fun cdv A outer s H vs Q E hr h => ?_)
  · obtain ⟨a, xs, rfl, _⟩ := h
    rfl
  · obtain ⟨a, xs, rfl, ha, q⟩ := h
    refine ⟨_, (pss_cons (ps_set (i := 1) sc.nd rfl (Or.inl rfl) pe_int)
    (pss_cons (ps_for PassesOwn.never rfl (pi_tup (pv 0)) (pg_name (i := 2) sc.nd rfl (Or.inl rfl))
      (pss_cons (ps_set (i := 1) sc.nd rfl (Or.inl rfl) (pe_callBfun cr_gcd rfl g_gcd (pa_cons (pv 1) (pa_cons (pv 2) pa_nil))))
      (pss_one (ps_if (pt_cmpR op_eq (pv 1) pe_int (nomark _))
      (pss_one (ps_ret pe_int))
      pss_nil))))
    (pss_one (ps_ret (pv 1))))), ?_⟩
    refine ⟨.ref a, rfl, a, rfl, ⟨_, ha.1.t⟩, ?_⟩
    refine for_it (walk_tup (K := K) (a := a) (xs := xs.map V.int)) (fun i σ H' => (∃ y, σ = [some (.ref a), some (.int (gI (xs.take i))), y]) ∧ H' = H) ⟨⟨none, rfl⟩, rfl⟩ (fun i σ H' _ p => by rw [p.2]; exact ha.1.t) ?_ ?_
    · rintro i x σ H' H2 hi ⟨⟨y, rfl⟩, rfl⟩ ⟨rfl, hx⟩
      obtain ⟨z, hz, rfl⟩ := map_get hx
      refine ⟨.int (gI (xs.take i)), rfl, .int z, rfl, _, z, rfl, ?_⟩
      have e : gI (xs.take (i + 1)) = ((Nat.gcd (gI (xs.take i)).natAbs z.natAbs : Nat) : Int) := gI_take hz
      rw [← e]
      refine ⟨.int (gI (xs.take (i + 1))), rfl, rfl, _, rfl, ite2 (fun h1 => ?_) (fun _ => ⟨⟨some (.int z), rfl⟩, rfl⟩)⟩
      have h1 := V.int.inj (of_decide_eq_true h1)
      rw [gI_done h1] at q
      exact q
    · rintro σ H' ⟨⟨y, rfl⟩, rfl⟩
      refine ⟨.int (gI (xs.take (xs.map V.int).length)), rfl, ?_⟩
      rw [List.length_map, List.take_length]
      exact q
theorem ok_low {f : Addr} {fd : FuncData} (F : Fun K "lowered" "lowered" s_low f fd) (C_common_part : Cal P w K mg base 1 "common_part" ["numbers"] spCpart) : FnOk P w K mg base CX0 2 f fd ["form"] spLow := by
  have sc := sc_low
  refine F.ok sc (fun vs H Q E h => ?_) (fun cdv A outer s H vs Q E hr h => ?_)
  · obtain ⟨a, c, xs, rfl, _⟩ := h
    rfl
  · obtain ⟨a, c, xs, rfl, ha, q⟩ := h
    refine ⟨_, (pss_cons (ps_set (i := 1) sc.nd rfl (Or.inr rfl) (call_ C_common_part (hr.mono (by decide)) (by rfl) (pa_cons (pe_slice sl_tupA (pv 0) (po_some pe_int) po_none) pa_nil)))
    (pss_cons (ps_if (pt_cmpR op_eq (pv 1) pe_int (nomark _))
      (pss_one (ps_ret (pv 0)))
      pss_nil)
    (pss_one (ps_ret (pe_tup (pa_cons (pe_op op_fdivX (pe_ix ix_tup (pv 0) pe_int (fun _ _ => rfl)) (pv 1)) (StX.pa_star (pe_lc (own := [("entry", 2)]) (g := gName 2) (by rfl) sc.nd (pi_tup (pe_slice sl_tupA (pv 0) (po_some pe_int) po_none)) (blkOk_by (own := [("entry", 2)]) (N := ["form", "part", "entry"]) (sc := defScope s_low) (by decide +kernel)) (fun _ _ _ _ _ => pg_name (i := 2) sc.nd rfl (Or.inl rfl)) (fun _ _ _ _ _ => pts_nil) (fun _ _ _ _ _ => (pe_op op_fdivX (pv 2) (pv 1)))) pa_nil))))))), ?_⟩
    refine ⟨.ref a, rfl, 1, rfl, ?_⟩
    unfold tNoPart
    refine slice_tp ha.1 fun r H1 s1 hr1 => ?_
    rw [List.map_cons, cut1] at hr1
    refine ⟨r, xs, rfl, ⟨hr1, ha.tail⟩, ?_⟩
    refine ⟨.int (gI xs), rfl, rfl, _, rfl, ite2 (fun e => ?_) (fun e => ?_)⟩
    · have e0 : gI xs = 0 := V.int.inj (of_decide_eq_true e)
      refine ⟨.ref a, rfl, q a H1 s1 ?_⟩
      have el : lowL (c :: xs) = c :: xs := if_pos e0
      rw [el]
      exact ha.1.same s1
    · have e0 : gI xs ≠ 0 := fun z => e (by rw [z]; exact decide_eq_true rfl)
      have zg : CDivX 0 (gI xs) := ⟨e0, Nat.lt_trans (smz_log (by decide) (gI_small ha.tail.2)) (by decide)⟩
      refine ⟨.ref a, rfl, a, _, 0, .int c, rfl, rfl, (ha.1.same s1).t, atI_nat (j := 0) rfl, .int (gI xs), rfl, c, gI xs, rfl, rfl, zg, .ref a, rfl, 1, rfl, ?_⟩
      show rSlA K (.ref a) (some 1) none H1 _
      refine slice_tp (ha.1.same s1) fun r2 H2 s2 hr2 => ?_
      rw [List.map_cons, cut1] at hr2
      refine ⟨r2, rfl, ⟨_, hr2.t⟩, fun D nD => ?_⟩
      refine lc_to (walk_tup (K := K) (a := r2) (xs := xs.map V.int)) ((xs.map fun x => x.fdiv (gI xs)).map V.int) (by rw [List.length_map, List.length_map, List.length_map]) (by rw [List.length_map]; exact small ha.tail.1) nD (fun H' s => (hr2.same s).t) ?_ ?_
      · rintro i x y H3 H4 Qy hy hi s0 ⟨rfl, hx⟩ hq
        obtain ⟨z, hz, rfl⟩ := map_get hy
        obtain ⟨p, hp, rfl⟩ := map_get hz
        obtain ⟨p', hp', rfl⟩ := map_get hx
        obtain rfl := Option.some.inj (hp.symm.trans hp')
        exact ⟨rfl, .int p, rfl, .int (gI xs), rfl, p, gI xs, rfl, rfl, zg, hq _ (Same.refl _)⟩
      · intro H3 s3 d3
        refine ⟨D, _, rfl, .inr (SqL.of d3), ?_⟩
        unfold tNil
        refine ⟨?_, fun p np => q p _ ((s1.trans s2).trans (s3.trans (same_new np))) ?_⟩
        · rw [List.append_nil, List.length_cons, List.length_map, List.length_map]
          exact small ha.tail.1
        · have el : lowL (c :: xs) = (c :: xs).map fun x => x.fdiv (gI xs) := if_neg e0
          rw [el, List.append_nil]
          exact upd_same
end
end K00
namespace K00
open PySem PySem.Spec PyProof.Rows L2 Vk
theorem flat1 (n : Nat) (x : V) : (List.replicate n [x]).flatten = List.replicate n x := by
  induction n with
  | zero => rfl
  | succ n ih => rw [List.replicate_succ, List.flatten_cons, ih]; rfl
theorem zip_len (l1 l2 : List V) (n : Nat) (h1 : l1.length = n) (h2 : l2.length = n) : n = min l1.length l2.length := by omega
section
variable {P : Program} {w : World} {K : PySem.W.Frag} {mg : Str → Option Value} {base : Heap}
theorem ok_led {f : Addr} {fd : FuncData} (F : Fun K "led_form" "led_form" s_led f fd) (m_tuple : mg "tuple" = none) (m_zip : mg "zip" = none) : FnOk P w K mg base CX0 1 f fd ["form", "forms", "n"] spPutin := by
  have sc := sc_led
  refine F.ok sc (fun vs H Q E h => ?_) (fun cdv A outer s H vs Q E hr h => ?_)
  · obtain ⟨a, b, n, c, cs, ps, rows, rfl, _⟩ := h
    rfl
  · obtain ⟨a, b, n, c, cs, ps, rows, rfl, hn, ha, hb, hR, hl, q⟩ := h
    refine ⟨_, (pss_cons (ps_set (i := 3) sc.nd rfl (Or.inl rfl) (pe_op op_cat (pe_lst (pa_cons (pe_ix ix_tup (pv 0) pe_int (fun _ _ => rfl)) pa_nil)) (pe_op op_rep (pe_lst (pa_cons pe_int pa_nil)) (pv 2))))
    (pss_cons (ps_for PassesOwn.never rfl (pi_zipK (by rfl) m_zip (pa_cons (pe_slice sl_tupA (pv 0) (po_some pe_int) po_none) (pa_cons (pv 1) pa_nil))) (pg_tup (n := 2) (by rfl) (pgs_cons (pg_name (i := 4) sc.nd rfl (Or.inr rfl)) (pgs_cons (pg_name (i := 5) sc.nd rfl (Or.inl rfl)) pgs_nil)))
      (pss_one (ps_if (pt_cmpR op_ne (pv 4) pe_int (nomark _))
      (pss_one (ps_setLc (i := 3) (own := [("a", 6), ("b", 7)]) (g := gTup K 2 (gCons (gName 6) (gCons (gName 7) gNil))) (by rfl) sc.nd rfl rfl (sw_true rfl rfl rfl (by decide +kernel)) (pi_zipK (by rfl) m_zip (pa_cons (pv 3) (pa_cons (pv 5) pa_nil))) (blkOk_by (own := [("a", 6), ("b", 7)]) (N := ["form", "forms", "n", "total", "factor", "inner", "a", "b"]) (sc := defScope s_led) (by decide +kernel)) (fun _ _ _ _ _ => pg_tup (n := 2) (by rfl) (pgs_cons (pg_name (i := 6) sc.nd rfl (Or.inl rfl)) (pgs_cons (pg_name (i := 7) sc.nd rfl (Or.inl rfl)) pgs_nil))) (fun _ _ _ _ _ => pts_nil) (fun _ _ _ _ _ => (pe_op op_add (pv 6) (pe_op op_mulW (pv 4) (pv 7))))))
      pss_nil)))
    (pss_one (ps_ret (pe_callTy call_tuple_of (by rfl) m_tuple (by decide +kernel) (pa_cons (pv 3) pa_nil)))))), ?_⟩
    have hrl : ∀ (i : Nat) (r : List Int), rows[i]? = some r → r.length = n + 1 := fun i r hr => by
      have hi : i < rows.length := (List.getElem?_eq_some_iff.mp hr).1
      have hp : i < ps.length := by rw [hR.1]; exact hi
      exact (hR.2 i ps[i] r (List.getElem?_eq_getElem hp) hr).2
    refine ⟨.ref a, rfl, a, _, 0, .int c, rfl, rfl, ha.1.t, atI_nat (j := 0) rfl, by show 1 ≤ sizeLine; decide, fun p1 n1 => ?_⟩
    have s1 : Same H (upd H p1 (.lst [.int c])) := same_new n1
    have g1 : upd H p1 (.lst [.int c]) p1 = some (.lst [.int c]) := upd_same
    generalize upd H p1 (.lst [.int c]) = H1 at s1 g1 ⊢
    refine ⟨by show 1 ≤ sizeLine; decide, fun p2 n2 => ?_⟩
    have s2 : Same H1 (upd H1 p2 (.lst [.int 0])) := same_new n2
    have g2 : upd H1 p2 (.lst [.int 0]) p2 = some (.lst [.int 0]) := upd_same
    generalize upd H1 p2 (.lst [.int 0]) = H2 at s2 g2 ⊢
    refine ⟨.int n, rfl, p2, n, [.int 0], rfl, rfl, g2, by omega, by omega, Nat.le_of_lt (small (by show 1 * n ≤ 100; omega)), fun p3 n3 => ?_⟩
    have e3 : (List.replicate (n : Int).toNat [V.int 0]).flatten = (List.replicate n (0 : Int)).map V.int := by
      rw [Int.toNat_natCast, flat1, List.map_replicate]
    rw [e3]
    have s3 : Same H2 (upd H2 p3 (.lst ((List.replicate n (0 : Int)).map V.int))) := same_new n3
    have g3 : upd H2 p3 (.lst ((List.replicate n (0 : Int)).map V.int)) p3 = some (.lst ((List.replicate n (0 : Int)).map V.int)) := upd_same
    generalize upd H2 p3 (.lst ((List.replicate n (0 : Int)).map V.int)) = H3 at s3 g3 ⊢
    refine ⟨p1, p3, [.int c], _, rfl, rfl, s3 _ _ (s2 _ _ g1), g3, Nat.le_of_lt (small (by rw [List.length_map, List.length_replicate]; show 1 + n ≤ 100; omega)), fun D0 nD0 => ?_⟩
    have s4 : Same H3 (upd H3 D0 (.lst ([.int c] ++ (List.replicate n (0 : Int)).map V.int))) := same_new nD0
    have g4 : upd H3 D0 (.lst ([.int c] ++ (List.replicate n (0 : Int)).map V.int)) D0 = some (.lst ((putI c cs rows n 0).map V.int)) := upd_same
    generalize upd H3 D0 (.lst ([.int c] ++ (List.replicate n (0 : Int)).map V.int)) = H4 at s4 g4 ⊢
    have s04 := ((s1.trans s2).trans s3).trans s4
    clear s1 s2 s3 s4 g1 g2 g3 n1 n2 n3 nD0
    refine ⟨.ref a, rfl, 1, rfl, ?_⟩
    unfold tNoPart
    refine slice_tp (ha.1.same s04) fun r H5 s5 hr5 => ?_
    rw [List.map_cons, cut1] at hr5
    refine ⟨.ref b, rfl, false, false, r, b, cs.map V.int, ps.map V.ref, rfl, hr5.t, (hb.same (s04.trans s5)).t, ?_⟩
    have s05 := s04.trans s5
    have g5 := s5 _ _ g4
    refine for_it (walk_zipK (n := cs.length) (zip_len _ _ _ (List.length_map ..) (by rw [List.length_map, hR.1, hl])))
      (fun i σ H' => (∃ D y4 y5 y6 y7, σ = [some (.ref a), some (.ref b), some (.int n), some (.ref D), y4, y5, y6, y7] ∧ H' D = some (.lst ((putI c cs rows n i).map V.int))) ∧ Same H5 H')
      ⟨⟨D0, none, none, none, none, rfl, g5⟩, Same.refl _⟩ (fun i σ H' _ p => ⟨(hr5.same p.2).t, (hb.same (s05.trans p.2)).t⟩) ?_ ?_
    · rintro i x σ H' H6 hi ⟨⟨D, y4, y5, y6, y7, rfl, gD⟩, sH⟩ ⟨T, u, v, rfl, nT, rfl, hu, hv⟩
      obtain ⟨fc, hf, rfl⟩ := map_get hu
      obtain ⟨p, hp, rfl⟩ := map_get hv
      have hir : i < rows.length := by omega
      have hrow : rows[i]? = some rows[i] := List.getElem?_eq_getElem hir
      obtain ⟨Rp, lp⟩ := hR.2 i p _ hp hrow
      have sT : Same H' (upd H' T (.tup [.int fc, .ref p])) := same_new nT
      have s06 := (s05.trans sH).trans sT
      refine ⟨T, [.int fc, .ref p], rfl, SqT.of upd_same, rfl, .int fc, [.ref p], rfl, .ref p, [], rfl, rfl, ?_⟩
      have sH6 := sH.trans sT
      have gD := sT _ _ gD
      generalize upd H' T (.tup [.int fc, .ref p]) = H6 at sT s06 sH6 gD ⊢
      have step : putI c cs rows n (i + 1) = List.zipWith (fun a b => a + fc * b) (putI c cs rows n i) rows[i] := by
        show List.zipWith (fun a b => a + cs.getD i 0 * b) (putI c cs rows n i) (rows.getD i []) = _
        rw [List.getD_eq_getElem?_getD, List.getD_eq_getElem?_getD, hf, hrow]
        rfl
      have lI : (putI c cs rows n i).length = n + 1 := putI_len hrl i (by omega)
      refine ⟨.int fc, rfl, rfl, _, rfl, ite2 (fun e => ?_) (fun e => ?_)⟩
      · refine ⟨.ref D, rfl, .ref p, rfl, true, false, D, p, _, _, rfl, SqL.of gD, (Rp.same s06).1.t, fun E nE => ?_⟩
        refine lc_to (walk_zipK (n := n + 1) (zip_len _ _ _ (by rw [List.length_map, lI]) (by rw [List.length_map, lp]))) ((putI c cs rows n (i + 1)).map V.int) (by rw [List.length_map, step, List.length_zipWith, lI, lp]; omega) (small (by omega)) nE (fun H7 s7 => ⟨SqL.of (s7 _ _ gD), ((Rp.same s06).1.same s7).t⟩) ?_ ?_
        · rintro j x y H7 H8 Qy hy hj s7 ⟨T2, u2, v2, rfl, nT2, rfl, hu2, hv2⟩ hq
          obtain ⟨z, hz, rfl⟩ := map_get hy
          rw [step] at hz
          obtain ⟨a1, b1, ha1, hb1, rfl⟩ := zip_get hz
          obtain ⟨a2, ha2, rfl⟩ := map_get hu2
          obtain ⟨b2, hb2, rfl⟩ := map_get hv2
          obtain rfl := Option.some.inj (ha1.symm.trans ha2)
          obtain rfl := Option.some.inj (hb1.symm.trans hb2)
          refine ⟨T2, [.int a1, .int b1], rfl, SqT.of upd_same, rfl, .int a1, [.int b1], rfl, .int b1, [], rfl, rfl, rfl, .int a1, rfl, .int fc, rfl, .int b1, rfl, fc, b1, rfl, rfl, ?_, _, _, rfl, rfl, hq _ (same_new nT2)⟩
          exact Nat.lt_trans (wide (ha.tail.2 _ (List.mem_of_getElem? hf)) (Rp.2.2 _ (List.mem_of_getElem? hb1))) (by decide)
        · intro H7 s7 d7
          exact ⟨⟨E, _, _, _, _, rfl, d7⟩, sH6.trans s7⟩
      · have f0 : fc = 0 := by
          by_cases z : fc = 0
          · exact z
          · refine absurd ?_ e
            rw [decide_eq_false (fun y => z (V.int.inj y))]
            rfl
        refine ⟨⟨D, _, _, _, _, rfl, ?_⟩, sH6⟩
        have e0 : putI c cs rows n (i + 1) = putI c cs rows n i := by
          rw [step, f0]
          apply List.ext_getElem?
          intro j
          rw [List.getElem?_zipWith]
          by_cases hj : j < n + 1
          · rw [List.getElem?_eq_getElem (by omega : j < (putI c cs rows n i).length), List.getElem?_eq_getElem (by omega : j < rows[i].length)]
            simp
          · rw [List.getElem?_eq_none (by omega : (putI c cs rows n i).length ≤ j)]
        rw [e0]
        exact gD
    · rintro σ H' ⟨⟨D, y4, y5, y6, y7, rfl, gD⟩, sH⟩
      exact ⟨.ref D, rfl, D, _, rfl, .inl ⟨SqL.of gD, fun l nl => q l _ ((s05.trans sH).trans (same_new nl)) upd_same⟩⟩
theorem ok_putin {f : Addr} {fd : FuncData} (F : Fun K "put_in" "put_in" s_putin f fd) (C_led_form : Cal P w K mg base 1 "led_form" ["form", "forms", "n"] spPutin) : FnOk P w K mg base CX0 2 f fd ["form", "forms", "n"] spPutin := by
  have sc := sc_putin
  refine F.ok sc (fun vs H Q E h => ?_) (fun cdv A outer s H vs Q E hr h => ?_)
  · obtain ⟨a, b, n, c, cs, ps, rows, rfl, _⟩ := h
    rfl
  · obtain ⟨a, b, n, c, cs, ps, rows, rfl, hn, ha, hb, hR, hl, q⟩ := h
    refine ⟨_, (pss_one (ps_ret (call_ C_led_form (hr.mono (by decide)) (by rfl) (pa_cons (pv 0) (pa_cons (pv 1) (pa_cons (pv 2) pa_nil)))))), ?_⟩
    exact ⟨.ref a, rfl, .ref b, rfl, .int n, rfl, a, b, n, c, cs, ps, rows, rfl, hn, ha, hb, hR, hl, q⟩
end
end K00
/-! An exception that is caught and kept in a local. -/
namespace Vk
open PySem PySem.Spec PyProof.Rows L2
/-- an exception of the class cls, own dict d, that was caught -/
def ExK (cls : Value) (d : Option Addr) (a : Addr) : HO := .ext fun h => ∃ oe : Obj, h.get? a = some oe ∧ Zc cls d oe ∧ ∃ vs, oe.data = .fields vs
section
variable {X : Cx} {pins : List (Addr × Obj)} {σ : L2.St} {H : Hp} {s : Shared}
/-- what is pinned is tracked from now on -/
theorem keep_pinned {a : Addr} {oe : Obj} {cls : Value} {d : Option Addr} (I : Inv X ((a, oe) :: pins) σ H s) (hz : Zc cls d oe) (hf : ∃ vs, oe.data = .fields vs) (n0 : X.s_0.heap.get? a = none) (np : ∀ p ∈ X.pn ++ pins, p.1 ≠ a) :
    Inv X pins σ (upd H a (ExK cls d a)) s := by
  obtain ⟨ga, na, nL, nF, nc⟩ := I.pin (a, oe) (List.mem_append_right _ List.mem_cons_self)
  have ga : s.heap.get? a = some oe := ga
  have na : H a = none := na
  have nC : ∀ x c, X.env.cells.lookup x = some c → c ≠ a := by
    rintro x c e rfl
    obtain ⟨v, o, ho, hd⟩ := I.cell x c e
    obtain rfl := Option.some.inj (ho.symm.trans ga)
    exact nc v hd
  have off : ∀ b, b ≠ a → upd H a (ExK cls d a) b = H b := fun b hb => upd_ne hb
  have some_ne : ∀ b u, H b = some u → b ≠ a := fun b u e z => by
    rw [z, na] at e
    cases e
  refine { ok := I.ok, os := I.os, bare := I.bare, base := ?_, loc := I.loc, cell := I.cell, free := ?_, freeC := ?_, pin := ?_, hok := ?_, len := I.len }
  · have old : ∀ b o, X.s_0.heap.get? b = some o → b ≠ a := fun b o e z => by
      rw [z, n0] at e
      cases e
    refine { keep := I.base.keep, slot := I.base.slot, free := ?_, there := I.base.there, tups := ?_, frzs := ?_, tbls := ?_ }
    · intro b o e n hx
      rw [off b (old b o e)]
      exact I.base.free b o e n hx
    · intro b xs e
      have q := I.base.tups b xs e
      rw [off b (some_ne b _ q)]
      exact q
    · intro b o u e
      have q := I.base.frzs b o u e
      rw [off b (some_ne b _ q)]
      exact q
    · intro b ps e
      obtain ⟨more, q⟩ := I.base.tbls b ps e
      refine ⟨more, ?_⟩
      rw [off b (some_ne b _ q)]
      exact q
  · rw [off _ (Ne.symm nL)]
    exact I.free
  · intro x c e
    rw [off c (nC x c e)]
    exact I.freeC x c e
  · intro p hp
    have hp' : p ∈ X.pn ++ (a, oe) :: pins := by
      rcases List.mem_append.mp hp with z | z
      · exact List.mem_append_left _ z
      · exact List.mem_append_right _ (List.mem_cons_of_mem _ z)
    obtain ⟨e1, e2, e3, e4, e5⟩ := I.pin p hp'
    refine ⟨e1, ?_, e3, e4, e5⟩
    rw [off p.1 (np p hp)]
    exact e2
  · intro b u e
    by_cases hb : b = a
    · subst hb
      rw [upd_same] at e
      obtain rfl := Option.some.inj e
      exact ⟨⟨oe, ga, hz, hf⟩, ⟨oe, ga⟩, fun h1 h2 ⟨o, q1, q2, q3⟩ st => ⟨o, st o q1, q2, q3⟩⟩
    · rw [off b hb] at e
      refine (I.hok b u e).stay (fun c v _ q => q) (fun c q => ?_) (fun c xs q => ?_)
      · rw [off c (some_ne c _ q)]
        exact q
      · rw [off c (some_ne c _ q)]
        exact q
end
/-- the wish of an except clause that keeps what it caught: the exception is known behind it -/
def wKp (K : PySem.W.Frag) (len : Nat) (c : Value) (i : Nat) (ts : Addr → Value → Option Addr → TS) (D : Ends) : WX := fun cls d σ H =>
  PySem.W.exmOne K cls c = some true ∧ (σ.length = len → ∀ a, H a = none →
    ts a cls d { nx := fun σ' H' => D.nx (σ'.set i none) (upd H' a (ExK cls d a)), rt := fun _ _ => False, bk := fun _ _ => False, ct := fun _ _ => False } (σ.set i (some (.ref a))) H)
section
variable {X : Cx} {x n : Str} {c : Value} {i : Nat} {body suite : List Stmt} {b₀ : Stmt} {np pos pos' : Pos} {tb : WX → TS} {ts : Addr → Value → Option Addr → TS}
/-- what is wanted of an exception of the body: the clauses look at it -/
def landing (X : Cx) (hs : List ExceptHandler) (R : Flow → Shared → Prop) : Value → Shared → Prop := fun e s0 =>
  wpAny (model X.prog X.w) X.A (noteFrame e X.env) (fun _ s1 => wpAny (model X.prog X.w) X.A (setFlight e none)
    (fun _ s2 => wpAny (model X.prog X.w) X.A (handleBy e X.env hs) R X.xe s2) X.xe s1) X.xe s0
/-- try: .. except x as n: suite (the suite runs through) -/
theorem ps_try_keep (hs : X.stack = X.env :: X.outer) (hf : X.env.frame = some X.env.locals) (hex : X.ex = []) (hN : X.N.Nodup) (hi : X.N[i]? = some n) (hln : X.env.kindOf n = some .local) (hc : Names X x c)
    (hb : ∀ (W : WX) (pn : List (Addr × Obj)) (xe : Value → Shared → Prop), Takes (X.tr pn xe) W → PassesOwn (model X.prog X.w) X.A X.env xe → PSs (X.tr pn xe) body (tb W))
    (hsu : ∀ (a : Addr) (oe : Obj) (cls : Value) (d : Option Addr) (pn : List (Addr × Obj)), Zc cls d oe → (∃ vs, oe.data = .fields vs) → PSs (X.suite a ((a, oe) :: pn)) (b₀ :: suite) (ts a cls d)) :
    PS X (.Try body [.ExceptHandler (some (.Name x np)) (some n) (b₀ :: suite) pos'] [] [] pos) (fun D σ H => tb (wKp X.K X.N.length c i ts D) D σ H) := by
  refine ⟨fun pins s σ H D I h => wpAny_Try_except ?_⟩
  have ok := I.ok
  have frm : X.A.frames = some (X.env :: X.outer) := by rw [ok.frames, hs]
  have run := (hb (wKp X.K X.N.length c i ts D) (X.pn ++ pins) (landing X [.ExceptHandler (some (.Name x np)) (some n) (b₀ :: suite) pos'] (SP X pins D)) (fun u s' xx => ?_) PassesOwn.looking).run [] s σ H D (I.toTry _) h
  · refine wpAny_mono run (fun fl s1 hsp => ?_) (fun e s1 he => he)
    match fl, hsp with
    | .next, ⟨σ', H', J, q⟩ => exact wpAny_execs_nil ⟨σ', H', J.ofTry ok, q⟩
    | .brk, ⟨σ', H', J, q⟩ => exact ⟨σ', H', J.ofTry ok, q⟩
    | .cont, ⟨σ', H', J, q⟩ => exact ⟨σ', H', J.ofTry ok, q⟩
    | .ret u, ⟨v, σ', H', J, r, q⟩ => exact ⟨v, σ', H', J.ofTry ok, r, q⟩
  · -- what was raised lands here
    obtain ⟨a, B, sI, pins', σ', H', cls, d, rfl, J', nb, up, sky, na, os, ag, hyes, hgo⟩ := xx
    have J : Inv X pins σ' H' sI := J'.ofTry ok
    have air : Sky B (X.env :: X.outer) a (Zc cls d) X.env.locals s'.heap := by
      rw [← hs]
      exact sky
    show wpAny (model X.prog X.w) X.A (noteFrame (.ref a) X.env) _ _ _
    refine Sky.land Zc.steady frm hf air fun h3 fl3 up3 => ?_
    have J3 : Inv X pins σ' H' { s' with heap := h3 } := J.landed nb fl3.1 (up.trans up3) os ag
    obtain ⟨oe3, vs3, he3, hz3, hd3⟩ := fl3.there
    have nB : B.get? a = none := fl3.2.1
    have nfr : a ∉ frs (X.env :: X.outer) := fun hm => by
      obtain ⟨_, o', e', hnf⟩ := fl3.2.2.1.mem hm
      obtain rfl := Option.some.inj (he3.symm.trans e')
      exact hnf _ hd3
    have nL : a ≠ X.env.locals := fun z => nfr (List.mem_filterMap.mpr ⟨X.env, List.mem_cons_self, by rw [hf, z]⟩)
    have nF : a ∉ X.fs := fun hm => by
      obtain ⟨e, he, q⟩ := List.mem_filterMap.mp hm
      exact nfr (List.mem_filterMap.mpr ⟨e, List.mem_cons_of_mem _ he, q⟩)
    have fresh : ∀ b o, sI.heap.get? b = some o → b ≠ a := by
      rintro b o e rfl
      have z := nb b o e (by rw [hs]; exact nfr)
      rw [nB] at z
      cases z
    have n0 : X.s_0.heap.get? a = none := by
      cases q : X.s_0.heap.get? a with
      | none => rfl
      | some o =>
        obtain ⟨o', z⟩ := J.base.there a o q (by rw [hex]; exact List.not_mem_nil)
        exact absurd rfl (fresh a o' z)
    have npp : ∀ p ∈ X.pn ++ pins, p.1 ≠ a := fun p hp => fresh p.1 p.2 (J.pin p hp).1
    have S3 := J3.suite he3 hd3 na nL nF
    refine wpAny_handleBy_cons (codeAny_handlers_test ?_) (by intro q; cases q)
    have seen : PySem.W.Looks (model X.prog X.w) h3 (typeOf (.ref a)) cls := fun A Q E s k q => wpAny_typeOf_ref (k _ _ he3) (by
      rw [hz3.1]
      exact q)
    have fits := PySem.W.exm_one (M := model X.prog X.w) J3.kIn seen hyes
    have look : ∀ {Q : Value → Shared → Prop} {E : Value → Shared → Prop}, Q c { s' with heap := h3 } → wpAny (model X.prog X.w) (X.A.mark (some (.ref a))) (eval (.Name x np) X.env) Q E { s' with heap := h3 } := by
      intro Q E q
      obtain ⟨hg, hdbg, hm | ⟨hm, hv, hnn⟩⟩ := hc
      · exact ld_glob (X := X.suite a ((a, oe3) :: (X.pn ++ pins))) S3 hg hm q hdbg
      · exact ld_blt (X := X.suite a ((a, oe3) :: (X.pn ++ pins))) S3 hg hm hv q hnn hdbg
    refine look (fits.here (codeAny_handlers_suite_as ?_))
    refine HandSPX.lands_againZ fl3 fun h4 fl4 up4 => ?_
    have J4 : Inv X pins σ' H' { s' with heap := h4 } := J.landed nb fl4.1 ((up.trans up3).trans up4) os ag
    obtain ⟨oe4, vs4, he4, hz4, hd4⟩ := fl4.there
    have S4 := J4.suite he4 hd4 na nL nF
    refine store_ok (X := X.suite a ((a, oe4) :: (X.pn ++ pins))) (v := .ref a) S4 hN hi (.inl hln) rfl (fun s5 S5 => ?_) (.inr hln)
    refine wpAny_mono ((hsu a oe4 cls d (X.pn ++ pins) hz4 ⟨_, hd4⟩).run [] s5 _ H' _ S5 (hgo J.len a na)) (fun fl s6 hsp => ?_) (fun _ _ z => False.elim z)
    match fl, hsp with
    | .brk, ⟨_, _, _, q⟩ => exact False.elim q
    | .cont, ⟨_, _, _, q⟩ => exact False.elim q
    | .ret u, ⟨_, _, _, _, _, q⟩ => exact False.elim q
    | .next, ⟨σ6, H6, S6, q6⟩ =>
      obtain ⟨g6, n6, _⟩ := S6.pin (a, oe4) (List.mem_append_left _ List.mem_cons_self)
      have J6 : Inv X ((a, oe4) :: pins) σ6 H6 s6 := (S6.unsuite ok).pins_of fun p hp => by
        rcases List.mem_cons.mp hp with e | hp
        · rw [e]
          exact ⟨g6, n6, nL, nF, fun v z => by
            have z' : oe4.data = .cell v := z
            rw [hd4] at z'
            cases z'⟩
        · exact (S6.unsuite ok).pin p (List.mem_append_right _ hp)
      exact gone_ok J6 hN hi hln fun s7 J7 => ⟨_, _, keep_pinned J7 hz4 ⟨_, hd4⟩ n0 npp, q6⟩
end
/-- isinstance(e, c), e such an exception -/
def rIsK (K : PySem.W.Frag) (D : Addr) : List V → Hp → VK → Prop := fun xs H Q => ∃ (a : Addr) (c : V) (cv : Value) (b : Bool), xs = [.ref a, c] ∧ H a = some (ExK (.ref D) none a) ∧ ClsV c cv ∧ PySem.W.kitOne K (.ref D) cv = some b ∧ Q (.bl b) H
theorem call_isK {X : Cx} {D : Addr} (C : ExcC X.K D) : CallR X (.builtin "isinstance") (rIsK X.K D) := by
  intro pins s σ H xs us Q I r h
  obtain ⟨a, c, cv, b, rfl, ha, hcv, e, q⟩ := h
  obtain ⟨u1, u2, rfl, r1, r2⟩ := vals2 r
  obtain rfl : u1 = Value.ref a := r1
  obtain rfl := hcv.eq r2
  obtain ⟨⟨oe, g, hz, vs, hv⟩, _, _⟩ := I.hok a _ ha
  have J : PySem.W.InstAt s.heap a oe D none := by
    obtain ⟨oc, od, oda, osl⟩ := oe
    obtain ⟨h1, h2⟩ := hz
    dsimp only at h1 h2 hv
    subst h1 h2 hv
    exact ⟨g, rfl, rfl, trivial⟩
  exact PySem.W.kia_one (PySem.W.handS_kitx_exc C.hg C.hk C.hs C.hd C.ha C.hn C.ht C.hm) I.kIn J e (fun z => nomatch z) fun tk => ⟨.bl b, H, I.kept (t' := tk) fun _ _ z => z, rfl, q⟩
end Vk
/-! A kept exception with fields of its own. -/
namespace Vk
open PySem PySem.Spec PyProof.Rows L2
/-- a kept exception of the class C with these fields -/
def KxF (H : Hp) (a C : Addr) (fs : List (Str × V)) : Prop := ∃ dd, H a = some (ExK (.ref C) (some dd) a) ∧ H dd = some (.xd fs)
theorem KxF.same {H H' : Hp} {a C : Addr} {fs : List (Str × V)} (k : KxF H a C fs) (s : Same H H') : KxF H' a C fs := by
  obtain ⟨dd, h1, h2⟩ := k
  exact ⟨dd, s _ _ h1, s _ _ h2⟩
theorem KxF.inst {X : Cx} {pins : List (Addr × Obj)} {σ : L2.St} {H : Hp} {s : Shared} {a C : Addr} {fs : List (Str × V)} (I : Inv X pins σ H s) (k : KxF H a C fs) : ∃ (oe od : Obj) (mA : Str → Option Value), PySem.W.InstAt s.heap a oe C (some od) ∧ (∀ f, PySem.W.lookIn f od = some (mA f)) ∧ ∀ f, RelO (fs.lookup f) (mA f) := by
  obtain ⟨dd, h1, h2⟩ := k
  obtain ⟨⟨oe, g, hz, vs, hd⟩, _, _⟩ := I.hok a _ h1
  obtain ⟨mA, hns, hr⟩ := (show ObjOk X.prog X.w H s.heap dd (.xd fs) from I.hok dd _ h2)
  obtain ⟨od, ho, hl⟩ := lookIn_ns hns
  exact ⟨oe, od, mA, ⟨g, hz.1, by unfold PySem.W.notCls; rw [hd] <;> rfl, by rw [hz.2]; exact ho⟩, hl, hr⟩
/-- isinstance(e, c) -/
def rIsF (K : PySem.W.Frag) (C : Addr) : List V → Hp → VK → Prop := fun xs H Q => ∃ (a : Addr) (fs : List (Str × V)) (c : V) (cv : Value) (b : Bool), xs = [.ref a, c] ∧ KxF H a C fs ∧ ClsV c cv ∧ PySem.W.kitOne K (.ref C) cv = some b ∧ Q (.bl b) H
theorem call_isF {X : Cx} {C : Addr} (E : ExcC X.K C) : CallR X (.builtin "isinstance") (rIsF X.K C) := by
  intro pins s σ H xs us Q I r h
  obtain ⟨a, fs, c, cv, b, rfl, k, hcv, e, q⟩ := h
  obtain ⟨u1, u2, rfl, r1, r2⟩ := vals2 r
  obtain rfl : u1 = Value.ref a := r1
  obtain rfl := hcv.eq r2
  obtain ⟨oe, od, mA, J, _, _⟩ := k.inst I
  have hcl : (PySem.W.clsIn X.K C).isSome = true := by
    obtain ⟨cd, hc, _⟩ := PySem.W.any_some E.hd
    rw [hc]
    rfl
  exact PySem.W.kia_one (PySem.W.kitx_exc (od := some od) hcl E.hg E.hk E.hs E.ha E.hn E.ht E.hm) I.kIn J e (fun z => nomatch z) fun tk => ⟨.bl b, H, I.kept (t' := tk) fun _ _ z => z, rfl, q⟩
/-- e.f -/
def tKf (C : Addr) (f : Str) (te : TE) : TE := fun σ H Q => te σ H fun x H1 => ∃ (a : Addr) (fs : List (Str × V)) (v : V), x = .ref a ∧ KxF H1 a C fs ∧ fs.lookup f = some v ∧ Q v H1
theorem pe_kf {X : Cx} {C : Addr} {e : Expr} {te : TE} {pos : Pos} {n : Str} (T : XfC X.K C) (hno : PySem.W.findIn X.K (.ref C) n = some none) (he : PE X e te) (hb : attributeBase e n X.env (eval e X.env) = eval e X.env := by rfl) :
    PE X (.Attribute e n pos) (tKf C n te) := by
  refine ⟨fun pins s σ H Q I h => attr_of hb (thn (he.run pins s σ H _ I h) fun u s1 hh => ?_)⟩
  obtain ⟨x, H1, I1, rx, a, fs, v, rfl, k, l, q⟩ := hh
  obtain rfl : u = Value.ref a := rx
  obtain ⟨oe, od, mA, J, hl, hr⟩ := k.inst I1
  obtain ⟨u, hu, ru⟩ := RelO.some_of (v := v) (o := mA n) (by rw [← l]; exact hr n)
  exact HandSPX.exc_get I1.kIn J T.ga T.gg T.exC (PySem.W.findObj_own T.hdC hno rfl (by rw [hl, hu])) (handed_of ru) ⟨v, H1, I1.tok _, ru, q⟩
end Vk
namespace K00
open PySem PySem.Spec PyProof.Rows L2 Vk
def clsBody : Stmt → List Stmt
  | .ClassDef _ _ _ b .. => b
  | _ => []
abbrev s_init : Stmt := (clsBody (topS 4)).getD 0 (.Pass ⟨0, 0, 0, 0⟩)
theorem sc_init : FnScope ["self", "place"] ["self", "place"] (defScope s_init) := ⟨rfl, rfl, rfl, by decide +kernel, rfl, by decide +kernel, by decide +kernel⟩
abbrev s_need : Stmt := topS 9
theorem sc_need : FnScope ["value", "m", "place", "entry"] ["value", "m"] (defScope s_need) := ⟨rfl, rfl, rfl, by decide +kernel, rfl, by decide +kernel, by decide +kernel⟩
def spInit (K : PySem.W.Frag) (C : Addr) : Sp := fun vs H Q _ => ∃ (a : Addr) (y : V), vs = [.ref a, y] ∧ H a = some (exo a C none) ∧ ∀ dx, H dx = none → dx ≠ a → Q .non (upd (upd H dx (exd dx [("place", y)])) a (exo a C (some dx)))
/-- the first entry that is no number -/
def bad (xs : List V) : Option Nat := xs.findIdx? fun e => !Vk.isInt e
def wrongOf (n : Nat) (xs : List V) : Option Int := if xs.length = n + 1 then (bad xs).map fun i => ((i : Nat) : Int) else some (-1)
def Told (C : Addr) (H : Hp) (k : Int) (E : XK) : Prop := ∀ dx H', Same H H' → H' dx = some (.xd [("place", V.int k)]) → E (.ref C) (some dx) H'
def spNeed (C : Addr) : Sp := fun vs H Q E => ∃ (x : V) (n : Nat), vs = [x, .int n] ∧ ((∃ t, Oky H x t ∧ t ≠ "tuple" ∧ Told C H (-1) E) ∨
  ∃ a xs, x = .ref a ∧ Tp H a xs ∧ xs.length ≤ 100 ∧ (∀ e ∈ xs, ∃ t, Oky H e t) ∧ (∀ k, wrongOf n xs = some k → Told C H k E) ∧ (wrongOf n xs = none → ∀ H', Same H H' → Q .non H'))
section
variable {P : Program} {w : World} {K : PySem.W.Frag} {mg : Str → Option Value} {base : Heap}
theorem ok_init {f C : Addr} {fd : FuncData} (F : Fun K "__init__" "NotForm.__init__" s_init f fd) (T : OexC K C) (hno : PySem.W.findIn K (.ref C) "place" = some none) : FnOk P w K mg base CX0 1 f fd ["self", "place"] (spInit K C) := by
  have sc := sc_init
  refine F.ok sc (fun vs H Q E h => ?_) (fun cdv A outer s H vs Q E hr h => ?_)
  · obtain ⟨a, y, rfl, _⟩ := h
    rfl
  · obtain ⟨a, y, rfl, ha, q⟩ := h
    refine ⟨_, pss_one (ps_ost (pv 0) (pv 1)), ?_⟩
    exact ⟨y, rfl, .ref a, rfl, a, C, rfl, T, hno, .inl ⟨ha, fun dx n ne => q dx n ne⟩⟩
/-- what is known of the class -/
structure NfT (P : Program) (w : World) (K : PySem.W.Frag) (mg : Str → Option Value) (base : Heap) (C : Addr) : Prop where
  g : mg "NotForm" = some (.ref C)
  T : OexC K C
  i : ∃ fI fd, PySem.W.findIn K (.ref C) "__init__" = some (some (.ref fI)) ∧ PySem.W.typeIn K (.ref fI) = some (.type "function") ∧ FnOk P w K mg base CX0 1 fI fd ["self", "place"] (spInit K C) ∧ Binds K fd ["self", "place"] []
theorem made {C : Addr} {H : Hp} {y : V} {E : XK} (h : ∀ dx H', Same H H' → H' dx = some (.xd [("place", y)]) → E (.ref C) (some dx) H') : ∀ a, H a = none → spInit K C (.ref a :: ([y] ++ [])) (upd H a (exo a C none))
    (fun v H2 => v = .non ∧ ∃ (d : Addr) (fs : List (Str × V)), H2 a = some (exo a C (some d)) ∧ H2 d = some (exd d fs) ∧ H d = none ∧ E (.ref C) (some d) (upd (del H2 a) d (.xd fs))) (fun _ _ _ => False) := by
  intro a na
  refine ⟨a, y, rfl, upd_same, fun dx nd ne => ⟨rfl, dx, [("place", y)], upd_same, ?_, ?_, ?_⟩⟩
  · rw [upd_ne ne, upd_same]
  · rw [upd_ne ne] at nd
    exact nd
  · refine h dx _ (fun b o e => ?_) upd_same
    have hb : b ≠ a := ne_of_none e na
    have nd' : H dx = none := by
      rw [upd_ne ne] at nd
      exact nd
    have hd : b ≠ dx := ne_of_none e nd'
    rw [upd_ne hd, del_ne hb, upd_ne hb, upd_ne hd, upd_ne hb]
    exact e
theorem bad_take {xs : List V} {i : Nat} {e : V} (h : bad (xs.take i) = none) (he : xs[i]? = some e) : bad (xs.take (i + 1)) = if Vk.isInt e = true then none else some i := by
  unfold bad at *
  rw [List.take_add_one, he]
  rw [List.findIdx?_append, h]
  have hi : (xs.take i).length = i := by
    rw [List.length_take]
    have := (List.getElem?_eq_some_iff.mp he).1
    omega
  show Option.or none (Option.map (fun x => x + (xs.take i).length) (List.findIdx? (fun e => !Vk.isInt e) [e])) = _
  rw [hi]
  cases hb : Vk.isInt e <;> simp [List.findIdx?_cons, hb]
theorem bad_some {xs : List V} {i k : Nat} (h : bad (xs.take i) = some k) : bad xs = some k := by
  unfold bad at *
  conv => lhs; rw [← List.take_append_drop i xs]
  rw [List.findIdx?_append, h]
  rfl
theorem ok_need {f C : Addr} {fd : FuncData} (F : Fun K "need_form" "need_form" s_need f fd) (N : NfT P w K mg base C) (C_is_number : Cal P w K mg base 1 "is_number" ["value"] spIsn) (m_isinstance : mg "isinstance" = none) (m_tuple : mg "tuple" = none) (m_len : mg "len" = none) (m_enumerate : mg "enumerate" = none) :
    FnOk P w K mg base (L2.CX P w) 3 f fd ["value", "m"] (spNeed C) := by
  have sc := sc_need
  obtain ⟨fI, fdI, iC, tI, FI, bI⟩ := N.i
  refine F.okX sc (fun vs H Q E h => ?_) (fun cdv A outer s H vs Q E hr h => ?_)
  · obtain ⟨x, n, rfl, _⟩ := h
    rfl
  · obtain ⟨x, n, rfl, h⟩ := h
    refine ⟨_, (pss_cons (ps_if (PW.pt (pw_or (pt_not (pt_val (pe_callB call_isi (by rfl) m_isinstance (by decide +kernel) (pa_cons (pv 0) (pa_cons (pe_bltn (v := .ty "tuple") (by rfl) m_tuple (by decide +kernel) rfl) pa_nil))))) (pw_or1 (pt_cmpR op_ne (pe_callB call_len_seq (by rfl) m_len (by decide +kernel) (pa_cons (pv 0) pa_nil)) (pe_op op_add (pv 1) pe_int) (nomark _)))))
      (pss_one (ps_raise rfl (takes_of rfl rfl rfl rfl) (pmk_oex (dvs := []) N.T iC tI FI (hr.mono (by decide)) bI .nil pass0 rfl N.g (pa_cons (pe_un un_neg pe_int) pa_nil))))
      pss_nil)
    (pss_one (ps_for (passes_of rfl) rfl (pi_enumK (by rfl) m_enumerate (pa_cons (pv 0) pa_nil)) (pg_tup (n := 2) (by rfl) (pgs_cons (pg_name (i := 2) sc.nd rfl (Or.inl rfl)) (pgs_cons (pg_name (i := 3) sc.nd rfl (Or.inl rfl)) pgs_nil)))
      (pss_one (ps_if (pt_not (pt_val (call_ C_is_number (hr.mono (by decide)) (by rfl) (pa_cons (pv 3) pa_nil))))
      (pss_one (ps_raise rfl (takes_of rfl rfl rfl rfl) (pmk_oex (dvs := []) N.T iC tI FI (hr.mono (by decide)) bI .nil pass0 rfl N.g (pa_cons (pv 2) pa_nil))))
      pss_nil))))), ?_⟩
    rcases h with ⟨t, hx, ht, hE⟩ | ⟨a, xs, rfl, ha, hz, hes, hE, q⟩
    · refine ⟨x, rfl, x, .ty "tuple", _, _, _, rfl, .ty _, hx.ty, kit_ty hx.kTup, _, rfl, ?_⟩
      rw [decide_eq_false ht]
      exact iteT (iteT ⟨1, rfl, by show 1 ≤ 1000; decide, made hE⟩)
    · have hx : Oky H (.ref a) "tuple" := .tup ha
      refine ⟨.ref a, rfl, .ref a, .ty "tuple", _, _, _, rfl, .ty _, hx.ty, kit_ty hx.kTup, _, rfl, iteF ?_⟩
      refine ⟨.ref a, rfl, a, xs, rfl, .inr ha.t, .int n, rfl, n, 1, rfl, rfl, rfl, _, rfl, ite2 (fun hl => ?_) (fun hl => ?_)⟩
      · have n2 : xs.length ≠ n + 1 := fun z => by
          rw [z] at hl
          simp at hl
        have e : wrongOf n xs = some (-1) := if_neg n2
        exact ⟨1, rfl, by show 1 ≤ 1000; decide, made (hE _ e)⟩
      · have n2 : xs.length = n + 1 := by
          by_cases z : xs.length = n + 1
          · exact z
          · refine absurd ?_ hl
            rw [decide_eq_false (fun y => z (by have := V.int.inj y; omega))]
            rfl
        have e : wrongOf n xs = (bad xs).map fun i => ((i : Nat) : Int) := if_pos n2
        refine ⟨.ref a, rfl, false, a, xs, rfl, ha.t, ?_⟩
        refine for_it (walk_enumK (K := K) (b := false) (a := a) (xs := xs)) (fun i σ H' => (∃ y2 y3, σ = [some (.ref a), some (.int n), y2, y3]) ∧ Same H H' ∧ bad (xs.take i) = none) ⟨⟨none, none, rfl⟩, Same.refl _, rfl⟩ (fun i σ H' _ p => (ha.same p.2.1).t) ?_ ?_
        · rintro i x σ H' H6 hi ⟨⟨y2, y3, rfl⟩, sH, hb⟩ ⟨T, u, v, rfl, nT, rfl, hu, hv⟩
          obtain rfl := Option.some.inj hu
          have sT := sH.trans (same_new (o := .tup [.int (i : Nat), v]) nT)
          obtain ⟨t, ht⟩ := hes _ (List.mem_of_getElem? hv)
          have hb2 := bad_take hb hv
          refine ⟨T, [.int (i : Nat), v], rfl, SqT.of upd_same, rfl, .int (i : Nat), [v], rfl, v, [], rfl, rfl, v, rfl, v, t, rfl, ht.same sT, _, rfl, ?_⟩
          generalize upd H' T (.tup [.int (i : Nat), v]) = H6 at sT ⊢
          cases hv2 : Vk.isInt v with
          | true =>
            rw [hv2] at hb2
            exact iteF ⟨⟨_, _, rfl⟩, sT, hb2⟩
          | false =>
            rw [hv2] at hb2
            have e1 : wrongOf n xs = some ((i : Nat) : Int) := by
              rw [e, bad_some hb2]
              rfl
            refine iteT ⟨.int (i : Nat), rfl, by show 1 ≤ 1000; decide, made fun dx H' s' hd => hE _ e1 dx H' (sT.trans s') hd⟩
        · rintro σ H' ⟨⟨y2, y3, rfl⟩, sH, hb⟩
          rw [List.take_length] at hb
          exact q (by rw [e, hb]; rfl) H' sH
end
end K00
namespace K00
open PySem PySem.Spec PyProof.Rows L2 Vk
abbrev s_of : Stmt := topS 21
theorem sc_of : FnScope ["m", "some"] ["m", "some"] (defScope s_of) := ⟨rfl, rfl, rfl, by decide +kernel, rfl, by decide +kernel, by decide +kernel⟩
abbrev s_like : Stmt := topS 22
theorem sc_like : FnScope ["got", "due"] ["got", "due"] (defScope s_like) := ⟨rfl, rfl, rfl, by decide +kernel, rfl, by decide +kernel, by decide +kernel⟩
abbrev s_shared : Stmt := topS 23
theorem sc_shared : FnScope ["a", "b"] ["a", "b"] (defScope s_shared) := ⟨rfl, rfl, rfl, by decide +kernel, rfl, by decide +kernel, by decide +kernel⟩
abbrev s_whole : Stmt := topS 24
theorem sc_whole : FnScope ["x"] ["x"] (defScope s_whole) := ⟨rfl, rfl, rfl, by decide +kernel, rfl, by decide +kernel, by decide +kernel⟩
abbrev s_form : Stmt := topS 25
theorem sc_form : FnScope ["m", "n", "wide", "k"] ["m", "n"] (defScope s_form) := ⟨rfl, rfl, rfl, by decide +kernel, rfl, by decide +kernel, by decide +kernel⟩
/-- two values of the same data -/
def spLike (K : PySem.W.Frag) : Sp := fun vs H Q _ => ∃ x y d, vs = [x, y] ∧ Dp K H x d ∧ Dp K H y d ∧ Fit d ∧ Q (.bl true) H
def spGcd : Sp := fun vs H Q _ => ∃ a c : Int, vs = [.int a, .int c] ∧ Q (.int (Int.gcd a c)) H

def spOf : Sp := fun vs H Q _ => ∃ (m c L : Addr) (n : Nat) (xs : List V), vs = [.ref m, .ref L] ∧ MOk H m c n ∧ n ≤ 100000 ∧ H L = some (.lst xs) ∧ 0 < xs.length ∧ xs.length ≤ 100 ∧ ∀ H' v, SameBut m H H' → MOk H' m c (n + 1) → v ∈ xs → Q v H'
def spForm : Sp := fun vs H Q _ => ∃ (m c : Addr) (n q : Nat), vs = [.ref m, .int n] ∧ MOk H m c q ∧ q ≤ 90000 ∧ n ≤ 90 ∧ ∀ H' r xs, SameBut m H H' → MOk H' m c (q + n + 2) → H r = none → Row H' r xs → (∀ x ∈ xs, SmZ 70 x) → xs.length = n + 1 → Q (.ref r) H'
section
variable {P : Program} {w : World} {K : PySem.W.Frag} {mg : Str → Option Value} {base : Heap}
theorem ok_isn {f : Addr} {fd : FuncData} (F : Fun K "is_number" "is_number" s_isn f fd) (m_isinstance : mg "isinstance" = none) (m_int : mg "int" = none) (m_bool : mg "bool" = none) : FnOk P w K mg base CX0 1 f fd ["value"] spIsn := by
  have sc := sc_isn
  refine F.ok sc (fun vs H Q E h => ?_) (fun cdv A outer s H vs Q E hr h => ?_)
  · obtain ⟨x, t, rfl, _⟩ := h
    rfl
  · obtain ⟨x, t, rfl, hx, q⟩ := h
    refine ⟨_, (pss_one (ps_ret (pe_and (pe_callB call_isi (by rfl) m_isinstance (by decide +kernel) (pa_cons (pv 0) (pa_cons (pe_bltn (v := .ty "int") (by rfl) m_int (by decide +kernel) rfl) pa_nil))) (pe_one (pe_not (pe_callB call_isi (by rfl) m_isinstance (by decide +kernel) (pa_cons (pv 0) (pa_cons (pe_bltn (v := .ty "bool") (by rfl) m_bool (by decide +kernel) rfl) pa_nil)))))))), ?_⟩
    refine ⟨x, rfl, x, .ty "int", _, _, _, rfl, .ty _, hx.ty, kit_ty hx.kInt, _, rfl, ite2 (fun h => ?_) (fun h => ?_)⟩
    · refine ⟨x, rfl, x, .ty "bool", _, _, _, rfl, .ty _, hx.ty, kit_ty hx.kBool, _, rfl, ?_⟩
      rw [hx.isInt] at q
      have e : decide (t = "int") = !decide (t = "bool") := by
        cases hx <;> revert h <;> decide
      rw [e] at q
      exact q
    · rw [hx.isInt] at q
      have e : decide (t = "int") = false := by
        cases hx <;> revert h <;> decide
      rw [e] at q
      exact q
theorem ok_whole {f : Addr} {fd : FuncData} (F : Fun K "_law_is_whole" "_law_is_whole" s_whole f fd) (m_isinstance : mg "isinstance" = none) (m_int : mg "int" = none) (m_bool : mg "bool" = none) : FnOk P w K mg base CX0 1 f fd ["x"] spIsn := by
  have sc := sc_whole
  refine F.ok sc (fun vs H Q E h => ?_) (fun cdv A outer s H vs Q E hr h => ?_)
  · obtain ⟨x, t, rfl, _⟩ := h
    rfl
  · obtain ⟨x, t, rfl, hx, q⟩ := h
    refine ⟨_, (pss_one (ps_ret (pe_and (pe_callB call_isi (by rfl) m_isinstance (by decide +kernel) (pa_cons (pv 0) (pa_cons (pe_bltn (v := .ty "int") (by rfl) m_int (by decide +kernel) rfl) pa_nil))) (pe_one (pe_not (pe_callB call_isi (by rfl) m_isinstance (by decide +kernel) (pa_cons (pv 0) (pa_cons (pe_bltn (v := .ty "bool") (by rfl) m_bool (by decide +kernel) rfl) pa_nil)))))))), ?_⟩
    refine ⟨x, rfl, x, .ty "int", _, _, _, rfl, .ty _, hx.ty, kit_ty hx.kInt, _, rfl, ite2 (fun h => ?_) (fun h => ?_)⟩
    · refine ⟨x, rfl, x, .ty "bool", _, _, _, rfl, .ty _, hx.ty, kit_ty hx.kBool, _, rfl, ?_⟩
      rw [hx.isInt] at q
      have e : decide (t = "int") = !decide (t = "bool") := by
        cases hx <;> revert h <;> decide
      rw [e] at q
      exact q
    · rw [hx.isInt] at q
      have e : decide (t = "int") = false := by
        cases hx <;> revert h <;> decide
      rw [e] at q
      exact q
theorem ok_shared {f : Addr} {fd : FuncData} (F : Fun K "_law_shared" "_law_shared" s_shared f fd) (m_abs : mg "abs" = none) (m_int : mg "int" = none) : FnOk P w K mg base CX0 1 f fd ["a", "b"] spGcd := by
  have sc := sc_shared
  refine F.ok sc (fun vs H Q E h => ?_) (fun cdv A outer s H vs Q E hr h => ?_)
  · obtain ⟨a, c, rfl, _⟩ := h
    rfl
  · obtain ⟨a, c, rfl, q⟩ := h
    refine ⟨_, (pss_cons (ps_par (i := 0) (j := 1) (by rfl) sc.nd rfl rfl (by decide) rfl rfl (pa_cons (pe_callB call_abs (by rfl) m_abs (by decide +kernel) (pa_cons (pv 0) pa_nil)) (pa_cons (pe_callB call_abs (by rfl) m_abs (by decide +kernel) (pa_cons (pv 1) pa_nil)) pa_nil)) (by rfl))
    (pss_cons (ps_while PassesOwn.never (pt_cmpR op_ne (pv 1) pe_int (nomark _))
      (pss_one (ps_par (i := 0) (j := 1) (by rfl) sc.nd rfl rfl (by decide) rfl rfl (pa_cons (pv 1) (pa_cons (pe_op op_modN (pe_callTy call_int1 (by rfl) m_int (by decide +kernel) (pa_cons (pv 0) pa_nil)) (pv 1)) pa_nil)) (by rfl))))
    (pss_one (ps_ret (pv 0))))), ?_⟩
    have ab : ∀ x : Int, (if x < 0 then -x else x) = (x.natAbs : Int) := fun x => by split <;> omega
    refine ⟨.int a, rfl, a, rfl, .int c, rfl, c, rfl, _, _, rfl, ?_⟩
    rw [ab a, ab c]
    refine while_by (fun σ H' => ∃ x y : Nat, σ = [some (.int x), some (.int y)] ∧ H' = H ∧ Nat.gcd x y = Int.gcd a c) (fun σ _ => match σ with | [_, some (.int y)] => y.toNat | _ => 0) ⟨_, _, rfl, rfl, rfl⟩ ?_ (fun σ H Q Q' hq ⟨v, e1, e2, k, e3, q⟩ => ⟨v, e1, e2, k, e3, hq _ _ q⟩)
    rintro σ H' ⟨x, y, rfl, rfl, hg⟩
    refine ⟨.int y, rfl, rfl, _, rfl, ite2 (fun h => ?_) (fun h => ?_)⟩
    · have hy : y ≠ 0 := fun z => by
        rw [z] at h
        exact absurd h (by decide)
      refine ⟨.int y, rfl, .int x, rfl, .inl ⟨x, rfl, .int y, rfl, x, y, rfl, rfl, by omega, _, _, rfl, ?_⟩⟩
      have e : Int.fmod (x : Int) (y : Int) = ((x % y : Nat) : Int) := by
        rw [Int.fmod_eq_emod_of_nonneg _ (by omega), Int.natCast_emod]
      have e2 : ([some (V.int y), some (V.int (Int.fmod (x : Int) (y : Int)))] : List (Option V)) = [some (V.int y), some (V.int ((x % y : Nat) : Int))] := by rw [e]
      refine ⟨⟨y, x % y, e2, rfl, ?_⟩, ?_⟩
      · rw [← hg, Nat.gcd_comm x y, Nat.gcd_rec y x, Nat.gcd_comm]
      · show (Int.fmod (x : Int) (y : Int)).toNat < (y : Int).toNat
        rw [e, Int.toNat_natCast, Int.toNat_natCast]
        exact Nat.mod_lt _ (by omega)
    · have hy : y = 0 := by
        by_cases z : (y : Int) = 0
        · omega
        · exact absurd (by rw [decide_eq_false (fun w => z (V.int.inj w))]; rfl) h
      subst hy
      refine ⟨.int x, rfl, ?_⟩
      rw [← hg, Nat.gcd_zero_right] at q
      exact q
theorem ok_like {f : Addr} {fd : FuncData} (F : Fun K "_law_like" "_law_like" s_like f fd) (m_repr : mg "repr" = none) : FnG P w K mg base 1 f fd ["got", "due"] (spLike K) := by
  have sc := sc_like
  refine okG F sc (fun vs H Q E h => ?_) (fun cdv A outer s H vs Q E hG hr h => ?_)
  · obtain ⟨x, y, d, rfl, _⟩ := h
    rfl
  · obtain ⟨x, y, d, rfl, h1, h2, hf, q⟩ := h
    have hG' : Quiet (cxOf CX0 P w K mg base ["got", "due"] "_law_like" (defScope s_like) f cdv A outer s H E).nox.A := hG.deeper _
    refine ⟨_, (pss_one (ps_ret (pe_cmpR op_eq (pe_callB (call_rep hG' hr.units) (by rfl) m_repr (by decide +kernel) (pa_cons (pv 0) pa_nil)) (pe_callB (call_rep hG' hr.units) (by rfl) m_repr (by decide +kernel) (pa_cons (pv 1) pa_nil)) (nomark _)))), ?_⟩
    refine ⟨x, rfl, x, d, rfl, h1, hf.s, hf.h, hf.dp, hf.len (Nat.le_refl _), y, rfl, y, d, rfl, h2, hf.s, hf.h, hf.dp, hf.len (Nat.le_refl _), rfl, ?_⟩
    rw [decide_eq_true rfl]
    exact q
theorem ok_of {f : Addr} {fd : FuncData} (F : Fun K "_law_of" "_law_of" s_of f fd) (C__law_draw : Cal P w K mg base 1 "_law_draw" ["m", "bound"] spDraw) (m_len : mg "len" = none) : FnOk P w K mg base CX0 2 f fd ["m", "some"] spOf := by
  have sc := sc_of
  refine F.ok sc (fun vs H Q E h => ?_) (fun cdv A outer s H vs Q E hr h => ?_)
  · obtain ⟨m, c, L, n, xs, rfl, _⟩ := h
    rfl
  · obtain ⟨m, c, L, n, xs, rfl, hM, hn, hL, h0, h1, q⟩ := h
    refine ⟨_, (pss_one (ps_ret (pe_ix ix_list (pv 1) (call_ C__law_draw (hr.mono (by decide)) (by rfl) (pa_cons (pv 0) (pa_cons (pe_callB call_len_seq (by rfl) m_len (by decide +kernel) (pa_cons (pv 1) pa_nil)) pa_nil))) (fun _ _ => rfl)))), ?_⟩
    have hLm : L ≠ m := by
      obtain ⟨_, _, _, _, h2, _⟩ := hM
      exact ne_of hL h2 (by intro z; cases z)
    refine ⟨.ref L, rfl, .ref m, rfl, .ref L, rfl, L, xs, rfl, .inl (SqL.of hL), m, c, n, xs.length, rfl, hM, hn, by omega, ?_, fun H1 v b1 M1 v0 v1 => ?_⟩
    · have e : ((xs.length : Nat) : Int).natAbs = xs.length := by omega
      rw [e]
      exact Nat.lt_of_le_of_lt h1 (by decide)
    · obtain ⟨j, rfl⟩ : ∃ j : Nat, v = j := ⟨v.toNat, by omega⟩
      have hj : j < xs.length := by omega
      exact ⟨L, xs, j, xs[j], rfl, rfl, SqL.of (b1 _ _ hLm hL), atI_nat (List.getElem?_eq_getElem hj), q H1 xs[j] b1 M1 (List.getElem_mem hj)⟩
end
end K00
namespace K00
open PySem PySem.Spec PyProof.Rows L2 Vk
theorem MOk.m_some {H : Hp} {m c : Addr} {n : Nat} (h : MOk H m c n) : ∃ kvs, H m = some (.dK kvs) := by
  obtain ⟨L, sd, sp, cells, h1, _⟩ := h
  exact ⟨_, h1⟩
theorem MOk.c_some {H : Hp} {m c : Addr} {n : Nat} (h : MOk H m c n) : ∃ xs, H c = some (.lst xs) := by
  obtain ⟨L, sd, sp, cells, _, h2, _⟩ := h
  exact ⟨_, h2⟩
theorem MOk.mono {H : Hp} {m c : Addr} {n n' : Nat} (h : MOk H m c n) (l : n ≤ n') : MOk H m c n' := by
  obtain ⟨L, sd, sp, cells, h1, h2, h3, h4, h5⟩ := h
  exact ⟨L, sd, sp, cells, h1, h2, h3, h4, by omega⟩
theorem MOk.put {H : Hp} {m c D : Addr} {n : Nat} {o : HO} (h : MOk H m c n) (dm : D ≠ m) (dc : D ≠ c) : MOk (upd H D o) m c n := by
  obtain ⟨L, sd, sp, cells, h1, h2, h3, h4, h5⟩ := h
  exact ⟨L, sd, sp, cells, by rw [upd_ne (Ne.symm dm)]; exact h1, by rw [upd_ne (Ne.symm dc)]; exact h2, h3, h4, h5⟩
/-- a comprehension of drawn numbers -/
theorem lc_drawn {n : Nat} {g : TG} {te : TE} {vs : List Nat} {σ : L2.St} {H1 : Hp} {D : Addr} {Qd : Hp → Prop} {m c : Addr} {q : Nat} (lw up : Int) (hz : n < sizeLine) (hM : MOk H1 m c q) (nD : H1 D = none)
    (hs : ∀ (i : Nat) (H : Hp) (Qy : VK), i < n → MOk H m c (q + i) → (∀ H4 v, SameBut m H H4 → MOk H4 m c (q + i + 1) → lw ≤ v → v ≤ up → Qy (.int v) H4) → g (.int (0 + i)) (wipe σ vs) H fun σ2 H2 => wipe σ2 vs = wipe σ vs ∧ te σ2 H2 Qy)
    (hd : ∀ H (xs : List Int), SameBut m H1 H → MOk H m c (q + n) → H D = some (.lst (xs.map V.int)) → xs.length = n → (∀ x ∈ xs, lw ≤ x ∧ x ≤ up) → Qd H) :
    ∃ W : Nat → Nat → Hp → Prop, (∃ m, W 0 m (upd H1 D (.lst []))) ∧ ∀ i m H, W i m H →
      ((Itr 0 n).stop i H ∧ Qd H) ∨ ((Itr 0 n).go i H ∧ ∃ Nx : Hp → Prop, (∀ H', Nx H' → ∃ m', m' < m ∧ W (i + 1) m' H') ∧ ∀ x H', (Itr 0 n).yld i H x H' → g x (wipe σ vs) H' fun σ2 H2 => wipe σ2 vs = wipe σ vs ∧ tYes σ2 H2 fun b H3 =>
        if b = true then te σ2 H3 fun y H4 => ∃ acc, H4 D = some (.lst acc) ∧ acc.length < sizeLine ∧ Nx (upd H4 D (.lst (acc ++ [y]))) else Nx H3) := by
  obtain ⟨kvs, hm⟩ := hM.m_some
  obtain ⟨ys, hc⟩ := hM.c_some
  have dm : D ≠ m := Ne.symm (ne_of_none hm nD)
  have dc : D ≠ c := Ne.symm (ne_of_none hc nD)
  refine lc_it (walk_range (lo := 0) (n := n)) (tt := tYes) (fun i H => ∃ xs : List Int, SameBut m H1 H ∧ MOk H m c (q + i) ∧ H D = some (.lst (xs.map V.int)) ∧ xs.length = i ∧ ∀ x ∈ xs, lw ≤ x ∧ x ≤ up) ⟨[], SameBut.of (same_new nD), hM.put dm dc, upd_same, rfl, fun x hx => by cases hx⟩ (fun _ _ _ _ => True.intro) ?_ ?_
  · rintro i x H H' hi ⟨xs, sb, M, d, l, bd⟩ ⟨rfl, rfl⟩
    refine hs i H' (fun y H4 => ∃ acc, H4 D = some (.lst acc) ∧ acc.length < sizeLine ∧ ∃ xs : List Int, SameBut m H1 (upd H4 D (.lst (acc ++ [y]))) ∧ MOk (upd H4 D (.lst (acc ++ [y]))) m c (q + (i + 1)) ∧ upd H4 D (.lst (acc ++ [y])) D = some (.lst (xs.map V.int)) ∧ xs.length = i + 1 ∧ ∀ x ∈ xs, lw ≤ x ∧ x ≤ up) hi M fun H4 v b4 M4 v0 v1 => ?_
    refine ⟨xs.map V.int, b4 _ _ dm d, by rw [List.length_map]; omega, xs ++ [v], fun b o hb e => ?_, M4.put dm dc, ?_, by rw [List.length_append, l]; rfl, fun x hx => ?_⟩
    · rw [upd_ne (ne_of_none e nD)]
      exact b4 _ _ hb (sb _ _ hb e)
    · rw [upd_same, List.map_append]
      rfl
    · rcases List.mem_append.mp hx with hx | hx
      · exact bd x hx
      · rw [List.mem_singleton] at hx
        subst hx
        exact ⟨v0, v1⟩
  · rintro H ⟨xs, sb, M, d, l, bd⟩
    exact hd H xs sb M d l bd
theorem smz_of {a b : Int} {n : Nat} (h0 : -b ≤ a) (h1 : a ≤ b) (hb : b.natAbs < 2 ^ n) : SmZ n a := by
  unfold SmZ
  have : a.natAbs ≤ b.natAbs := by omega
  omega
section
variable {P : Program} {w : World} {K : PySem.W.Frag} {mg : Str → Option Value} {base : Heap}
theorem ok_form {f : Addr} {fd : FuncData} (F : Fun K "_law_form" "_law_form" s_form f fd) (C__law_of : Cal P w K mg base 2 "_law_of" ["m", "some"] spOf) (C__law_draw : Cal P w K mg base 1 "_law_draw" ["m", "bound"] spDraw) (m_tuple : mg "tuple" = none) (m_range : mg "range" = none) : FnOk P w K mg base CX0 3 f fd ["m", "n"] spForm := by
  have sc := sc_form
  refine F.ok sc (fun vs H Q E h => ?_) (fun cdv A outer s H vs Q E hr h => ?_)
  · obtain ⟨m, c, n, q, rfl, _⟩ := h
    rfl
  · obtain ⟨m, c, n, q, rfl, hM, hq, hn, k⟩ := h
    refine ⟨_, (pss_cons (ps_set (i := 2) sc.nd rfl (Or.inr rfl) (call_ C__law_of (hr.mono (by decide)) (by rfl) (pa_cons (pv 0) (pa_cons (pe_lst (pa_cons pe_int (pa_cons pe_int (pa_cons pe_int (pa_cons pe_int (pa_cons (pe_op op_pow pe_int pe_int) pa_nil)))))) pa_nil))))
    (pss_one (ps_ret (pe_callTy call_tuple_of (by rfl) m_tuple (by decide +kernel) (pa_cons (pe_lc (own := [("k", 3)]) (g := gName 3) (by rfl) sc.nd (pi_range1 rfl m_range (pa_cons (pe_op op_add (pv 1) pe_int) pa_nil)) (blkOk_by (own := [("k", 3)]) (N := ["m", "n", "wide", "k"]) (sc := defScope s_form) (by decide +kernel)) (fun _ _ _ _ _ => pg_name (i := 3) sc.nd rfl (Or.inl rfl)) (fun _ _ _ _ _ => pts_nil) (fun _ _ _ _ _ => (pe_op op_sub (call_ C__law_draw (hr.mono (by decide)) (by rfl) (pa_cons (pv 0) (pa_cons (pe_op op_add (pe_op op_mulW pe_int (pv 2)) pe_int) pa_nil))) (pv 2)))) pa_nil))))), ?_⟩
    refine ⟨.ref m, rfl, 10, 20, rfl, rfl, ⟨by decide, by decide, by decide⟩, by show 5 ≤ sizeLine; decide, fun L nL => ?_⟩
    have sL : Same H (upd H L (.lst [.int 1, .int 2, .int 3, .int 9, .int (10 ^ (20 : Int).toNat)])) := same_new nL
    refine ⟨m, c, L, q, _, rfl, hM.same sL, by omega, upd_same, by decide, by decide, fun H1 v b1 M1 hv => ?_⟩
    have B1 : SameBut m H H1 := (SameBut.of sL).trans b1
    obtain ⟨wd, rfl, w0, w1⟩ : ∃ wd : Int, v = .int wd ∧ 1 ≤ wd ∧ wd ≤ 10 ^ 20 := by
      simp only [List.mem_cons, List.not_mem_nil, or_false] at hv
      rcases hv with rfl | rfl | rfl | rfl | rfl
      · exact ⟨1, rfl, by decide, by decide⟩
      · exact ⟨2, rfl, by decide, by decide⟩
      · exact ⟨3, rfl, by decide, by decide⟩
      · exact ⟨9, rfl, by decide, by decide⟩
      · exact ⟨_, rfl, by decide, by decide⟩
    clear sL
    refine ⟨.int n, rfl, n, 1, rfl, rfl, (n : Int) + 1, rfl, by omega, by omega, fun D nD => ?_⟩
    have en : ((n : Int) + 1).toNat = n + 1 := by omega
    rw [en]
    refine lc_drawn (n := n + 1) (m := m) (c := c) (q := q + 1) (-wd) wd (small (by omega)) M1 nD ?_ ?_
    · intro i H' Qy hi M' hQ
      refine ⟨rfl, .ref m, rfl, .int wd, rfl, 2, wd, rfl, rfl, ?_, 2 * wd, 1, rfl, rfl, m, c, q + 1 + i, 2 * wd + 1, rfl, M', by omega, by omega, ?_, fun H4 v b4 M4 v0 v1 => ⟨.int wd, rfl, v, wd, rfl, rfl, hQ H4 _ b4 M4 (by omega) (by omega)⟩⟩
      · have : (wd : Int).natAbs.log2 < 100 := PySem.Flt.log2_lt_of (by decide) (Nat.lt_of_le_of_lt (show wd.natAbs ≤ 10 ^ 20 by omega) (by decide))
        have h2 : (2 : Int).natAbs.log2 = 1 := by decide
        show (2 : Int).natAbs.log2 + wd.natAbs.log2 < _
        rw [h2]
        exact Nat.lt_trans (by omega : 1 + wd.natAbs.log2 < 200) (by decide)
      · exact Nat.lt_of_le_of_lt (show (2 * wd + 1).natAbs ≤ 2 * 10 ^ 20 + 1 by omega) (by decide)
    · intro H2 xs b2 M2 d2 l2 bd
      refine ⟨D, _, rfl, .inl ⟨SqL.of d2, fun r nr => ?_⟩⟩
      have sm : ∀ x ∈ xs, SmZ 70 x := fun x hx => smz_of (bd x hx).1 (bd x hx).2 (Nat.lt_of_le_of_lt (show wd.natAbs ≤ 10 ^ 20 by omega) (by decide))
      obtain ⟨kvs, hm2⟩ := M2.m_some
      have nrH : H r = none := (B1.trans b2).free ⟨_, hm2⟩ nr
      exact k _ r xs ((B1.trans b2).trans (SameBut.of (same_new nr))) ((M2.same (same_new nr)).mono (by omega)) nrH ⟨upd_same, by omega, fun x hx => Nat.lt_trans (sm x hx) (by decide)⟩ sm l2
end
end K00
namespace K00
open PySem PySem.Spec PyProof.Rows L2 Vk
abbrev s_at : Stmt := topS 26
theorem sc_at : FnScope ["form", "t", "k"] ["form", "t"] (defScope s_at) := ⟨rfl, rfl, rfl, by decide +kernel, rfl, by decide +kernel, by decide +kernel⟩
abbrev s_llow : Stmt := topS 31
theorem sc_llow : FnScope ["form", "g", "entry"] ["form"] (defScope s_llow) := ⟨rfl, rfl, rfl, by decide +kernel, rfl, by decide +kernel, by decide +kernel⟩
theorem ix_tupK {X : Cx} {K : PySem.W.Frag} (h : X.K = K) : IxR X (rIxT K) := by
  subst h
  exact ix_tup
theorem atI_at {xs : List V} {j : Int} {i : Nat} {v : V} (e : j = ((i : Nat) : Int)) (h : xs[i]? = some v) : atI xs j = some v := by
  rw [e]
  exact atI_nat h
theorem get_map {α β : Type} {f : α → β} {xs : List α} {i : Nat} {x : α} (h : xs[i]? = some x) : (xs.map f)[i]? = some (f x) := by
  rw [List.getElem?_map, h]
  rfl
section
variable {P : Program} {w : World} {K : PySem.W.Frag} {mg : Str → Option Value} {base : Heap}
theorem ok_at {f : Addr} {fd : FuncData} (F : Fun K "_law_at" "_law_at" s_at f fd) (m_sum : mg "sum" = none) (m_len : mg "len" = none) (m_range : mg "range" = none) : FnOk P w K mg base CX0 1 f fd ["form", "t"] spFval := by
  have sc := sc_at
  refine F.ok sc (fun vs H Q E h => ?_) (fun cdv A outer s H vs Q E hr h => ?_)
  · obtain ⟨a, b, c, xs, ys, rfl, _⟩ := h
    rfl
  · obtain ⟨a, b, c, xs, ys, rfl, ha, hb, hl, q⟩ := h
    refine ⟨_, (pss_one (ps_ret (pe_op op_add (pe_ix ix_tup (pv 0) pe_int (fun _ _ => rfl)) (pe_callB (cr_sum rfl) (by rfl) m_sum (by decide +kernel) (pa_cons (pe_lc (own := [("k", 2)]) (g := gName 2) (by rfl) sc.nd (pi_range1 rfl m_range (pa_cons (pe_callB call_len_seq (by rfl) m_len (by decide +kernel) (pa_cons (pv 1) pa_nil)) pa_nil)) (blkOk_by (own := [("k", 2)]) (N := ["form", "t", "k"]) (sc := defScope s_at) (by decide +kernel)) (fun _ _ _ _ _ => pg_name (i := 2) sc.nd rfl (Or.inl rfl)) (fun _ _ _ _ _ => pts_nil) (fun _ _ _ _ _ => (pe_op op_mulW (pe_ix (ix_tupK (K := K) rfl) (pv 0) (pe_op op_add (pv 2) pe_int) (fun _ _ => rfl)) (pe_ix (ix_tupK (K := K) rfl) (pv 1) (pv 2) (fun _ _ => rfl))))) pa_nil))))), ?_⟩
    refine ⟨.ref a, rfl, a, _, 0, .int c, rfl, rfl, ha.1.t, atI_nat (j := 0) rfl, .ref b, rfl, b, _, rfl, .inr hb.1.t, ((ys.map V.int).length : Int), rfl, by omega, ?_, fun D nD => ?_⟩
    · rw [List.length_map]
      have := hb.2.1
      omega
    have e0 : ((ys.map V.int).length : Int).toNat = ys.length := by
      rw [List.length_map]
      omega
    rw [e0]
    refine lc_to (walk_range (lo := 0) (n := ys.length)) ((List.zipWith (· * ·) xs ys).map V.int) (by rw [List.length_map, List.length_zipWith]; omega) (small hb.2.1) nD (fun H' s => True.intro) ?_ ?_
    · rintro i x y H0 H1 Qy hy hi s0 ⟨rfl, rfl⟩ hq
      obtain ⟨z, hz, rfl⟩ := map_get hy
      obtain ⟨p, r, hp, hr', rfl⟩ := zip_get hz
      refine ⟨rfl, .ref a, rfl, .int (0 + i), rfl, 0 + i, 1, rfl, rfl, a, _, 0 + i + 1, .int p, rfl, rfl, (ha.1.same s0).t, atI_at (i := i + 1) (by omega) (get_map (xs := c :: xs) hp), .ref b, rfl, .int (0 + i), rfl, b, _, 0 + i, .int r, rfl, rfl, (hb.1.same s0).t, atI_at (i := i) (by omega) (get_map hr'), p, r, rfl, rfl, ?_, hq _ (Same.refl _)⟩
      exact Nat.lt_trans (wide (ha.tail.2 _ (List.mem_of_getElem? hp)) (hb.2.2 _ (List.mem_of_getElem? hr'))) (by decide)
    · intro H' s d
      exact ⟨D, List.zipWith (· * ·) xs ys, rfl, SqL.of d, c, dot xs ys, rfl, rfl, q H' s⟩
theorem ok_llow {f : Addr} {fd : FuncData} (F : Fun K "_law_lowered" "_law_lowered" s_llow f fd) (C__law_shared : Cal P w K mg base 1 "_law_shared" ["a", "b"] spGcd) (m_tuple : mg "tuple" = none) : FnOk P w K mg base CX0 2 f fd ["form"] spLow := by
  have sc := sc_llow
  refine F.ok sc (fun vs H Q E h => ?_) (fun cdv A outer s H vs Q E hr h => ?_)
  · obtain ⟨a, c, xs, rfl, _⟩ := h
    rfl
  · obtain ⟨a, c, xs, rfl, ha, q⟩ := h
    refine ⟨_, (pss_cons (ps_set (i := 1) sc.nd rfl (Or.inr rfl) pe_int)
    (pss_cons (ps_for PassesOwn.never rfl (pi_tup (pe_slice sl_tupA (pv 0) (po_some pe_int) po_none)) (pg_name (i := 2) sc.nd rfl (Or.inl rfl))
      (pss_one (ps_set (i := 1) sc.nd rfl (Or.inr rfl) (call_ C__law_shared (hr.mono (by decide)) (by rfl) (pa_cons (pv 1) (pa_cons (pv 2) pa_nil))))))
    (pss_one (ps_ret (pe_ifExp (pt_cmpR op_eq (pv 1) pe_int (nomark _)) (pv 0) (pe_callTy call_tuple_of (by rfl) m_tuple (by decide +kernel) (pa_cons (pe_lc (own := [("entry", 2)]) (g := gName 2) (by rfl) sc.nd (pi_tup (pv 0)) (blkOk_by (own := [("entry", 2)]) (N := ["form", "g", "entry"]) (sc := defScope s_llow) (by decide +kernel)) (fun _ _ _ _ _ => pg_name (i := 2) sc.nd rfl (Or.inl rfl)) (fun _ _ _ _ _ => pts_nil) (fun _ _ _ _ _ => (pe_op op_fdivX (pv 2) (pv 1)))) pa_nil))))))), ?_⟩
    refine ⟨.ref a, rfl, 1, rfl, ?_⟩
    unfold tNoPart
    refine slice_tp ha.1 fun r H1 s1 hr1 => ?_
    rw [List.map_cons, cut1] at hr1
    refine ⟨r, rfl, ⟨_, hr1.t⟩, ?_⟩
    refine for_it (walk_tup (K := K) (a := r) (xs := xs.map V.int)) (fun i σ H' => (∃ y, σ = [some (.ref a), some (.int (gI (xs.take i))), y]) ∧ H' = H1) ⟨⟨none, rfl⟩, rfl⟩ (fun i σ H' _ p => by rw [p.2]; exact hr1.t) ?_ ?_
    · rintro i x σ H' H2 hi ⟨⟨y, rfl⟩, rfl⟩ ⟨rfl, hx⟩
      obtain ⟨z, hz, rfl⟩ := map_get hx
      refine ⟨.int (gI (xs.take i)), rfl, .int z, rfl, _, z, rfl, ?_⟩
      exact ⟨⟨some (.int z), by rw [gI_take hz]; rfl⟩, rfl⟩
    · rintro σ H' ⟨⟨y, rfl⟩, rfl⟩
      rw [List.length_map, List.take_length]
      refine ⟨.int (gI xs), rfl, rfl, _, rfl, tif_bothH (fun v H3 => ∃ p, v = .ref p ∧ Same H H3 ∧ Tp H3 p ((lowL (c :: xs)).map V.int)) ?_ ?_ ?_⟩
      · rintro v H3 ⟨p, rfl, s3, t3⟩
        exact q p H3 s3 t3
      · intro e hQ
        have e0 : gI xs = 0 := V.int.inj (of_decide_eq_true e)
        have el : lowL (c :: xs) = c :: xs := if_pos e0
        exact ⟨.ref a, rfl, hQ _ _ ⟨a, rfl, s1, by rw [el]; exact ha.1.same s1⟩⟩
      · intro e hQ
        have e0 : gI xs ≠ 0 := fun z => by
          rw [z] at e
          exact absurd e (by decide)
        have el : lowL (c :: xs) = (c :: xs).map fun x => x.fdiv (gI xs) := if_neg e0
        have zg : CDivX 0 (gI xs) := ⟨e0, Nat.lt_trans (smz_log (by decide) (gI_small ha.tail.2)) (by decide)⟩
        refine ⟨.ref a, rfl, a, rfl, ⟨_, (ha.1.same s1).t⟩, fun D nD => ?_⟩
        refine lc_to (walk_tup (K := K) (a := a) (xs := (c :: xs).map V.int)) (((c :: xs).map fun x => x.fdiv (gI xs)).map V.int) (by rw [List.length_map, List.length_map, List.length_map]) (by rw [List.length_map]; exact small ha.2.1) nD (fun H' s => ((ha.1.same s1).same s).t) ?_ ?_
        · rintro i x y H3 H4 Qy hy hi s0 ⟨rfl, hx⟩ hq
          obtain ⟨z, hz, rfl⟩ := map_get hy
          obtain ⟨p, hp, rfl⟩ := map_get hz
          obtain ⟨p', hp', rfl⟩ := map_get hx
          obtain rfl := Option.some.inj (hp.symm.trans hp')
          exact ⟨rfl, .int p, rfl, .int (gI xs), rfl, p, gI xs, rfl, rfl, zg, hq _ (Same.refl _)⟩
        · intro H3 s3 d3
          exact ⟨D, _, rfl, .inl ⟨SqL.of d3, fun l nl => hQ _ _ ⟨l, rfl, (s1.trans s3).trans (same_new nl), by rw [el]; exact upd_same⟩⟩⟩
end
end K00
namespace K00
open PySem PySem.Spec PyProof.Rows L2 Vk
abbrev s_put : Stmt := topS 30
theorem sc_put : FnScope ["form", "forms", "n", "found", "k", "j"] ["form", "forms", "n"] (defScope s_put) := ⟨rfl, rfl, rfl, by decide +kernel, rfl, by decide +kernel, by decide +kernel⟩
abbrev s_wrong : Stmt := topS 27
theorem sc_wrong : FnScope ["value", "n", "wrong", "k"] ["value", "n"] (defScope s_wrong) := ⟨rfl, rfl, rfl, by decide +kernel, rfl, by decide +kernel, by decide +kernel⟩
theorem ixN_at {n j : Nat} (hj : j < n) : ixN n (j : Int) = some j := by
  unfold ixN
  rw [if_pos (by omega), if_pos (by omega), Int.toNat_natCast]
/-- A up to j, B behind -/
def mix (A B : List Int) (j : Nat) : List Int := A.take j ++ B.drop j
theorem mix_len {A B : List Int} {j : Nat} (h : A.length = B.length) : (mix A B j).length = B.length := by
  unfold mix
  rw [List.length_append, List.length_take, List.length_drop]
  omega
theorem mix_at {A B : List Int} {j : Nat} (h : A.length = B.length) (hj : j < B.length) : (mix A B j)[j]? = B[j]? := by
  unfold mix
  rw [List.getElem?_append_right (by rw [List.length_take]; omega), List.length_take, List.getElem?_drop]
  congr 1
  omega
theorem mix_set {A B : List Int} {j : Nat} {v : Int} (h : A.length = B.length) (hv : A[j]? = some v) : (mix A B j).set j v = mix A B (j + 1) := by
  have hj : j < A.length := (List.getElem?_eq_some_iff.mp hv).1
  unfold mix
  rw [List.set_append_right _ _ (by rw [List.length_take]; omega), List.length_take, List.take_add_one, hv, List.append_assoc]
  congr 1
  have e : j - min j A.length = 0 := by omega
  rw [e]
  cases hB : B.drop j with
  | nil =>
    have : (B.drop j).length = 0 := by rw [hB]; rfl
    rw [List.length_drop] at this
    omega
  | cons b r =>
    rw [← List.drop_drop, hB]
    rfl
def spWrong : Sp := fun vs H Q _ => ∃ (x : V) (n : Nat), vs = [x, .int n] ∧ n ≤ 90 ∧ ((∃ t, Oky H x t ∧ t ≠ "tuple" ∧ Q (.int (-1)) H) ∨
  ∃ a xs, x = .ref a ∧ Tp H a xs ∧ xs.length ≤ 100 ∧ (∀ e ∈ xs, ∃ t, Oky H e t) ∧ ∀ H', Same H H' → Q (match wrongOf n xs with | some k => .int k | none => .non) H')
section
variable {P : Program} {w : World} {K : PySem.W.Frag} {mg : Str → Option Value} {base : Heap}
theorem ok_put {f : Addr} {fd : FuncData} (F : Fun K "_law_put" "_law_put" s_put f fd) (m_tuple : mg "tuple" = none) (m_len : mg "len" = none) (m_range : mg "range" = none) : FnOk P w K mg base CX0 1 f fd ["form", "forms", "n"] spPutin := by
  have sc := sc_put
  refine F.ok sc (fun vs H Q E h => ?_) (fun cdv A outer s H vs Q E hr h => ?_)
  · obtain ⟨a, b, n, c, cs, ps, rows, rfl, _⟩ := h
    rfl
  · obtain ⟨a, b, n, c, cs, ps, rows, rfl, hn, ha, hb, hR, hl, q⟩ := h
    refine ⟨_, (pss_cons (ps_set (i := 3) sc.nd rfl (Or.inl rfl) (pe_op op_cat (pe_lst (pa_cons (pe_ix ix_tup (pv 0) pe_int (fun _ _ => rfl)) pa_nil)) (pe_op op_rep (pe_lst (pa_cons pe_int pa_nil)) (pv 2))))
    (pss_cons (ps_for PassesOwn.never rfl (pi_range1 rfl m_range (pa_cons (pe_callB call_len_seq (by rfl) m_len (by decide +kernel) (pa_cons (pv 1) pa_nil)) pa_nil)) (pg_name (i := 4) sc.nd rfl (Or.inl rfl))
      (pss_one (ps_for PassesOwn.never rfl (pi_range1 rfl m_range (pa_cons (pe_op op_add (pv 2) pe_int) pa_nil)) (pg_name (i := 5) sc.nd rfl (Or.inl rfl))
      (pss_one (ps_asg (pe_op op_add (pe_ix ix_list (pv 3) (pv 5) (fun _ _ => rfl)) (pe_op op_mulW (pe_ix ix_tup (pv 0) (pe_op op_add (pv 4) pe_int) (fun _ _ => rfl)) (pe_ix ix_tup (pe_ix ix_tup (pv 1) (pv 4) (fun _ _ => rfl)) (pv 5) (fun _ _ => rfl)))) (pg_sub (pv 3) (pv 5) set_list))))))
    (pss_one (ps_ret (pe_callTy call_tuple_of (by rfl) m_tuple (by decide +kernel) (pa_cons (pv 3) pa_nil)))))), ?_⟩
    have hrl : ∀ (i : Nat) (r : List Int), rows[i]? = some r → r.length = n + 1 := fun i r hr => by
      have hi : i < rows.length := (List.getElem?_eq_some_iff.mp hr).1
      have hp : i < ps.length := by rw [hR.1]; exact hi
      exact (hR.2 i ps[i] r (List.getElem?_eq_getElem hp) hr).2
    refine ⟨.ref a, rfl, a, _, 0, .int c, rfl, rfl, ha.1.t, atI_nat (j := 0) rfl, by show 1 ≤ sizeLine; decide, fun p1 n1 => ?_⟩
    have s1 : Same H (upd H p1 (.lst [.int c])) := same_new n1
    have g1 : upd H p1 (.lst [.int c]) p1 = some (.lst [.int c]) := upd_same
    generalize upd H p1 (.lst [.int c]) = H1 at s1 g1 ⊢
    refine ⟨by show 1 ≤ sizeLine; decide, fun p2 n2 => ?_⟩
    have s2 : Same H1 (upd H1 p2 (.lst [.int 0])) := same_new n2
    have g2 : upd H1 p2 (.lst [.int 0]) p2 = some (.lst [.int 0]) := upd_same
    generalize upd H1 p2 (.lst [.int 0]) = H2 at s2 g2 ⊢
    refine ⟨.int n, rfl, p2, n, [.int 0], rfl, rfl, g2, by omega, by omega, Nat.le_of_lt (small (by show 1 * n ≤ 100; omega)), fun p3 n3 => ?_⟩
    have e3 : (List.replicate (n : Int).toNat [V.int 0]).flatten = (List.replicate n (0 : Int)).map V.int := by
      rw [Int.toNat_natCast, flat1, List.map_replicate]
    rw [e3]
    have s3 : Same H2 (upd H2 p3 (.lst ((List.replicate n (0 : Int)).map V.int))) := same_new n3
    have g3 : upd H2 p3 (.lst ((List.replicate n (0 : Int)).map V.int)) p3 = some (.lst ((List.replicate n (0 : Int)).map V.int)) := upd_same
    generalize upd H2 p3 (.lst ((List.replicate n (0 : Int)).map V.int)) = H3 at s3 g3 ⊢
    refine ⟨p1, p3, [.int c], _, rfl, rfl, s3 _ _ (s2 _ _ g1), g3, Nat.le_of_lt (small (by rw [List.length_map, List.length_replicate]; show 1 + n ≤ 100; omega)), fun D nD0 => ?_⟩
    have s03 := (s1.trans s2).trans s3
    have nD : H D = none := s03.free nD0
    have s4 : Same H3 (upd H3 D (.lst ([.int c] ++ (List.replicate n (0 : Int)).map V.int))) := same_new nD0
    have g4 : upd H3 D (.lst ([.int c] ++ (List.replicate n (0 : Int)).map V.int)) D = some (.lst ((putI c cs rows n 0).map V.int)) := upd_same
    generalize upd H3 D (.lst ([.int c] ++ (List.replicate n (0 : Int)).map V.int)) = H4 at s4 g4 ⊢
    have s04 := s03.trans s4
    clear s1 s2 s3 s4 g1 g2 g3 n1 n2 n3 nD0 s03
    have lps : (ps.map V.ref).length = cs.length := by rw [List.length_map, hR.1, hl]
    have hcs := ha.tail.1
    refine ⟨.ref b, rfl, b, _, rfl, .inr (hb.same s04).t, ((ps.map V.ref).length : Int), rfl, by omega, by omega, ?_⟩
    have e0 : ((ps.map V.ref).length : Int).toNat = cs.length := by omega
    rw [e0]
    refine for_range (lo := 0) (n := cs.length) (fun i σ H' => (∃ y4 y5, σ = [some (.ref a), some (.ref b), some (.int n), some (.ref D), y4, y5]) ∧ Same H H' ∧ H' D = some (.lst ((putI c cs rows n i).map V.int))) ⟨⟨none, none, rfl⟩, s04, g4⟩ ?_ ?_
    · rintro i σ H' hi ⟨⟨y4, y5, rfl⟩, sH, gD⟩
      have hir : i < rows.length := by omega
      have hip : i < ps.length := by rw [hR.1]; exact hir
      have hrow : rows[i]? = some rows[i] := List.getElem?_eq_getElem hir
      have hpsi : ps[i]? = some ps[i] := List.getElem?_eq_getElem hip
      have hf : cs[i]? = some cs[i] := List.getElem?_eq_getElem hi
      obtain ⟨Rp, lp⟩ := hR.2 i _ _ hpsi hrow
      have step : putI c cs rows n (i + 1) = List.zipWith (fun a b => a + cs[i] * b) (putI c cs rows n i) rows[i] := by
        show List.zipWith (fun a b => a + cs.getD i 0 * b) (putI c cs rows n i) (rows.getD i []) = _
        rw [List.getD_eq_getElem?_getD, List.getD_eq_getElem?_getD, hf, hrow]
        rfl
      have lI : (putI c cs rows n i).length = n + 1 := putI_len hrl i (by omega)
      have lI1 : (putI c cs rows n (i + 1)).length = n + 1 := putI_len hrl (i + 1) (by omega)
      refine ⟨.int n, rfl, n, 1, rfl, rfl, (n : Int) + 1, rfl, by omega, by omega, ?_⟩
      have en : ((n : Int) + 1).toNat = n + 1 := by omega
      rw [en]
      refine for_range (lo := 0) (n := n + 1) (fun j σ H' => (∃ y5, σ = [some (.ref a), some (.ref b), some (.int n), some (.ref D), some (.int (0 + i)), y5]) ∧ Same H H' ∧ H' D = some (.lst ((mix (putI c cs rows n (i + 1)) (putI c cs rows n i) j).map V.int))) ⟨⟨_, rfl⟩, sH, by rw [gD]; rfl⟩ ?_ ?_
      · rintro j σ H5 hj ⟨⟨y5, rfl⟩, s5, g5⟩
        have ha1 : (putI c cs rows n i)[j]? = some (putI c cs rows n i)[j] := List.getElem?_eq_getElem (by omega)
        have hb1 : rows[i][j]? = some rows[i][j] := List.getElem?_eq_getElem (by omega)
        have hz : (putI c cs rows n (i + 1))[j]? = some ((putI c cs rows n i)[j] + cs[i] * rows[i][j]) := by
          rw [step, List.getElem?_zipWith, ha1, hb1]
        have lm := mix_len (j := j) (lI1.trans lI.symm)
        refine ⟨.ref D, rfl, .int (0 + j), rfl, D, _, 0 + j, .int (putI c cs rows n i)[j], rfl, rfl, SqL.of g5, atI_at (i := j) (by omega) (get_map ((mix_at (lI1.trans lI.symm) (by omega)).trans ha1)), .ref a, rfl, .int (0 + i), rfl, 0 + i, 1, rfl, rfl, a, _, 0 + i + 1, .int cs[i], rfl, rfl, (ha.1.same s5).t, atI_at (i := i + 1) (by omega) (get_map (xs := c :: cs) hf), .ref b, rfl, .int (0 + i), rfl, b, _, 0 + i, .ref ps[i], rfl, rfl, (hb.same s5).t, atI_at (i := i) (by omega) (get_map hpsi), .int (0 + j), rfl, ps[i], _, 0 + j, .int rows[i][j], rfl, rfl, (Rp.same s5).1.t, atI_at (i := j) (by omega) (get_map hb1), cs[i], rows[i][j], rfl, rfl, ?_, _, _, rfl, rfl, .ref D, rfl, .int (0 + j), rfl, D, _, 0 + j, j, rfl, rfl, g5, ?_, ?_⟩
        · exact Nat.lt_trans (wide (ha.tail.2 _ (List.mem_of_getElem? hf)) (Rp.2.2 _ (List.mem_of_getElem? hb1))) (by decide)
        · rw [List.length_map, lm, Int.zero_add]
          exact ixN_at (by omega)
        · refine ⟨⟨_, rfl⟩, same_put s5 nD, ?_⟩
          rw [upd_same, ← mix_set (lI1.trans lI.symm) hz, List.map_set]
      · rintro σ H5 ⟨⟨y5, rfl⟩, s5, g5⟩
        refine ⟨⟨_, _, rfl⟩, s5, ?_⟩
        rw [g5]
        unfold mix
        rw [List.take_of_length_le (by omega), List.drop_of_length_le (by omega), List.append_nil]
    · rintro σ H' ⟨⟨y4, y5, rfl⟩, sH, gD⟩
      exact ⟨.ref D, rfl, D, _, rfl, .inl ⟨SqL.of gD, fun l nl => q l _ (sH.trans (same_new nl)) upd_same⟩⟩
end
end K00
namespace K00
open PySem PySem.Spec PyProof.Rows L2 Vk
theorem iteF' {c : Bool} {A B : Prop} (hc : c = false) (h : B) : if c = true then A else B := by
  subst hc
  exact iteF h
theorem iteT' {c : Bool} {A B : Prop} (hc : c = true) (h : A) : if c = true then A else B := by
  subst hc
  exact iteT h
section
variable {P : Program} {w : World} {K : PySem.W.Frag} {mg : Str → Option Value} {base : Heap}
theorem ok_wrong {f : Addr} {fd : FuncData} (F : Fun K "_law_wrong" "_law_wrong" s_wrong f fd) (C__law_is_whole : Cal P w K mg base 1 "_law_is_whole" ["x"] spIsn) (m_isinstance : mg "isinstance" = none) (m_tuple : mg "tuple" = none) (m_len : mg "len" = none) (m_range : mg "range" = none) : FnOk P w K mg base CX0 2 f fd ["value", "n"] spWrong := by
  have sc := sc_wrong
  refine F.ok sc (fun vs H Q E h => ?_) (fun cdv A outer s H vs Q E hr h => ?_)
  · obtain ⟨x, n, rfl, _⟩ := h
    rfl
  · obtain ⟨x, n, rfl, hn, h⟩ := h
    refine ⟨_, (pss_cons (ps_if (PW.pt (pw_or (pt_not (pt_val (pe_callB call_isi (by rfl) m_isinstance (by decide +kernel) (pa_cons (pv 0) (pa_cons (pe_bltn (v := .ty "tuple") (by rfl) m_tuple (by decide +kernel) rfl) pa_nil))))) (pw_or1 (pt_cmpR op_ne (pe_callB call_len_seq (by rfl) m_len (by decide +kernel) (pa_cons (pv 0) pa_nil)) (pe_op op_add (pv 1) pe_int) (nomark _)))))
      (pss_one (ps_ret (pe_un un_neg pe_int)))
      pss_nil)
    (pss_cons (ps_setLc (i := 2) (own := [("k", 3)]) (g := gName 3) (by rfl) sc.nd rfl rfl (sw_true rfl rfl rfl (by decide +kernel)) (pi_range1 rfl m_range (pa_cons (pe_op op_add (pv 1) pe_int) pa_nil)) (blkOk_by (own := [("k", 3)]) (N := ["value", "n", "wrong", "k"]) (sc := defScope s_wrong) (by decide +kernel)) (fun _ _ _ _ _ => pg_name (i := 3) sc.nd rfl (Or.inl rfl)) (fun _ _ _ _ _ => (pts_one (pt_not (pt_val (call_ C__law_is_whole (hr.mono (by decide)) (by rfl) (pa_cons (pe_ix (ix_tupK (K := K) rfl) (pv 0) (pv 3) (fun _ _ => rfl)) pa_nil)))))) (fun _ _ _ _ _ => (pv 3)))
    (pss_one (ps_ret (pe_ifExp (pt_cmpR (op_neD hr.units) (pv 2) (pe_lst pa_nil) (nomark _)) (pe_ix ix_list (pv 2) pe_int (fun _ _ => rfl)) pe_non))))), ?_⟩
    rcases h with ⟨t, hx, ht, q⟩ | ⟨a, xs, rfl, ha, hz, hes, q⟩
    · refine ⟨x, rfl, x, .ty "tuple", _, _, _, rfl, .ty _, hx.ty, kit_ty hx.kTup, _, rfl, ?_⟩
      rw [decide_eq_false ht]
      exact iteT (iteT ⟨1, rfl, q⟩)
    · have hx : Oky H (.ref a) "tuple" := .tup ha
      refine ⟨.ref a, rfl, .ref a, .ty "tuple", _, _, _, rfl, .ty _, hx.ty, kit_ty hx.kTup, _, rfl, iteF ?_⟩
      refine ⟨.ref a, rfl, a, xs, rfl, .inr ha.t, .int n, rfl, n, 1, rfl, rfl, rfl, _, rfl, ite2 (fun hl => ?_) (fun hl => ?_)⟩
      · have n2 : xs.length ≠ n + 1 := fun z => by
          rw [z] at hl
          simp at hl
        have e : wrongOf n xs = some (-1) := if_neg n2
        have q := q H (Same.refl _)
        rw [e] at q
        exact ⟨1, rfl, q⟩
      · have n2 : xs.length = n + 1 := by
          by_cases z : xs.length = n + 1
          · exact z
          · refine absurd ?_ hl
            rw [decide_eq_false (fun y => z (by have := V.int.inj y; omega))]
            rfl
        have e : wrongOf n xs = (bad xs).map fun i => ((i : Nat) : Int) := if_pos n2
        refine ⟨.int n, rfl, n, 1, rfl, rfl, (n : Int) + 1, rfl, by omega, by omega, fun D nD => ?_⟩
        have en : ((n : Int) + 1).toNat = n + 1 := by omega
        rw [en]
        refine lc_range (lo := 0) (n := n + 1) (fun i H' => ∃ acc : List Int, H' = upd H D (.lst (acc.map V.int)) ∧ acc.length ≤ i ∧ (acc = [] → bad (xs.take i) = none) ∧ ∀ k r, acc = k :: r → ∃ j : Nat, bad (xs.take i) = some j ∧ k = j) ⟨[], rfl, Nat.le_refl _, fun _ => rfl, fun k r z => by cases z⟩ ?_ ?_
        · rintro i H' hi ⟨acc, rfl, la, b0, b1⟩
          have hv : xs[i]? = some xs[i] := List.getElem?_eq_getElem (by omega)
          have sD : Same H (upd H D (.lst (acc.map V.int))) := same_new nD
          obtain ⟨t, ht⟩ := hes _ (List.mem_of_getElem? hv)
          refine ⟨rfl, .ref a, rfl, .int (0 + i), rfl, a, xs, 0 + i, xs[i], rfl, rfl, (ha.same sD).t, atI_at (i := i) (by omega) hv, xs[i], t, rfl, ht.same sD, _, rfl, ?_⟩
          cases hb : Vk.isInt xs[i] with
          | true =>
            refine iteF ⟨acc, rfl, by omega, fun z => ?_, fun k r z => ?_⟩
            · rw [bad_take (b0 z) hv, hb]
              rfl
            · obtain ⟨j, hj, rfl⟩ := b1 k r z
              refine ⟨j, ?_, rfl⟩
              have h2 : bad ((xs.take (i + 1)).take i) = some j := by
                rw [List.take_take, Nat.min_eq_left (Nat.le_succ i)]
                exact hj
              exact bad_some h2
          | false =>
            refine iteT ⟨.int (0 + i), rfl, acc.map V.int, upd_same, by rw [List.length_map]; exact small (by omega), acc ++ [0 + (i : Int)], ?_, by rw [List.length_append]; show acc.length + 1 ≤ i + 1; omega, fun z => absurd z (by simp), fun k r z => ?_⟩
            · rw [upd_upd, List.map_append]
              rfl
            · cases acc with
              | nil =>
                have z2 : (0 + (i : Int)) :: [] = k :: r := z
                cases z2
                refine ⟨i, ?_, by omega⟩
                rw [bad_take (b0 rfl) hv, hb]
                rfl
              | cons k' r' =>
                have z2 : k' :: (r' ++ [0 + (i : Int)]) = k :: r := z
                cases z2
                obtain ⟨j, hj, rfl⟩ := b1 _ r' rfl
                refine ⟨j, ?_, rfl⟩
                have h2 : bad ((xs.take (i + 1)).take i) = some j := by
                  rw [List.take_take, Nat.min_eq_left (Nat.le_succ i)]
                  exact hj
                exact bad_some h2
        · rintro H' ⟨acc, rfl, la, b0, b1⟩
          rw [List.take_of_length_le (by omega)] at b0 b1
          have sD : Same H (upd H D (.lst (acc.map V.int))) := same_new nD
          have gD : upd H D (.lst (acc.map V.int)) D = some (.lst (acc.map V.int)) := upd_same
          generalize upd H D (.lst (acc.map V.int)) = H1 at sD gD ⊢
          refine ⟨.ref D, rfl, Nat.zero_le _, fun e0 ne0 => ?_⟩
          have s2 : Same H1 (upd H1 e0 (.lst [])) := same_new ne0
          have l2 : upd H1 e0 (.lst []) e0 = some (.lst ([] : List V)) := upd_same
          generalize upd H1 e0 (.lst []) = H2 at s2 l2 ⊢
          have d2 := s2 _ _ gD
          refine ⟨.list (acc.map PyData.int), .list [], .lst (SqL.of d2) (dp_ints acc), .lst (SqL.of l2) .nil, shaped_ints acc, shaped_ints [], _, rfl, ?_⟩
          have q := q H2 (sD.trans s2)
          rw [e] at q
          cases acc with
          | nil =>
            rw [b0 rfl] at q
            exact iteF' (by decide) q
          | cons k r =>
            obtain ⟨j, hj, rfl⟩ := b1 k r rfl
            rw [hj] at q
            refine iteT' ?_ ⟨.ref D, rfl, D, _, 0, .int j, rfl, rfl, SqL.of d2, atI_nat (j := 0) rfl, q⟩
            rfl
end
end K00
namespace K00
open PySem PySem.Spec PyProof.Rows L2 Vk
abbrev s_heard : Stmt := topS 28
theorem sc_heard : FnScope ["value", "n", "error", "told", "e", "alone"] ["value", "n"] (defScope s_heard) := ⟨rfl, rfl, rfl, by decide +kernel, rfl, by decide +kernel, by decide +kernel⟩
/-- what is known of the classes -/
structure Exs (K : PySem.W.Frag) (mg : Str → Option Value) (CT CF CN : Addr) : Prop where
  gT : mg "TallyError" = some (.ref CT)
  gF : mg "NotForm" = some (.ref CF)
  gN : mg "NotFit" = some (.ref CN)
  C : ExcC K CF
  xf : XfC K CF
  no : PySem.W.findIn K (.ref CF) "place" = some none
  e : PySem.W.exmOne K (.ref CF) (.ref CT) = some true
  kV : PySem.W.kitOne K (.ref CF) (.type "ValueError") = some true
  kF : PySem.W.kitOne K (.ref CF) (.ref CF) = some true
  kN : PySem.W.kitOne K (.ref CF) (.ref CN) = some false
def spHeard : Sp := fun vs H Q _ => ∃ (x : V) (n : Nat), vs = [x, .int n] ∧ ((∃ t, Oky H x t ∧ t ≠ "tuple" ∧ ∀ H', Same H H' → Q (.int (-1)) H') ∨
  ∃ a xs, x = .ref a ∧ Tp H a xs ∧ xs.length ≤ 100 ∧ (∀ e ∈ xs, ∃ t, Oky H e t) ∧ ∀ H', Same H H' → Q (match wrongOf n xs with | some k => .int k | none => .str "form") H')
section
variable {P : Program} {w : World} {K : PySem.W.Frag} {mg : Str → Option Value} {base : Heap}
theorem ok_heard {f fN CT CF CN : Addr} {fd fdN : FuncData} (F : Fun K "_law_heard" "_law_heard" s_heard f fd) (X : Exs K mg CT CF CN) (N : FnOk P w K mg base (L2.CX P w) 3 fN fdN ["value", "m"] (spNeed CF)) (gN : mg "need_form" = some (.ref fN)) (kN : PySem.W.keepIn K (.ref fN) = true) (bN : Binds K fdN ["value", "m"] [])
    (m_isinstance : mg "isinstance" = none) (m_ValueError : mg "ValueError" = none) : FnOk P w K mg base CX0 4 f fd ["value", "n"] spHeard := by
  have sc := sc_heard
  refine F.ok sc (fun vs H Q E h => ?_) (fun cdv A outer s H vs Q E hr h => ?_)
  · obtain ⟨x, n, rfl, _⟩ := h
    rfl
  · obtain ⟨x, n, rfl, h⟩ := h
    refine ⟨_, (pss_cons (ps_set (i := 2) sc.nd rfl (Or.inl rfl) pe_non)
    (pss_cons (ps_try_keep (i := 4) (c := .ref CT)
      (tb := fun W => tAsg (tCallS (spNeed CF) (WE W) (tCons (tVar 0) (tCons (tVar 1) tNil))) (gName 3))
      (ts := fun _ _ _ => tAsg (tVar 4) (gName 2))
      rfl rfl rfl sc.nd rfl rfl ⟨rfl, by decide, .inl X.gT⟩
      (fun W pn xe tk _ => pss_one (ps_set (i := 3) sc.nd rfl (Or.inl rfl) (pe_callS N (hr.mono (by decide)) (by rfl) gN kN bN (passAt tk) (pa_cons (pv 0) (pa_cons (pv 1) pa_nil)))))
      (fun a oe cls d pn _ _ => pss_one (ps_set (i := 2) sc.nd rfl (Or.inl rfl) (pv 4))))
    (pss_cons (ps_if (pt_cmpR op_isN (pv 2) pe_non (nomark _))
      (pss_one (ps_ret (pe_ifExp (pt_cmpR op_isN (pv 3) pe_non (nomark _)) pe_str pe_str)))
      pss_nil)
    (pss_cons (ps_set (i := 5) sc.nd rfl (Or.inl rfl) (pe_and (pe_callB (call_isF X.C) (by rfl) m_isinstance (by decide +kernel) (pa_cons (pv 2) (pa_cons (pe_glob (v := .ref CF) rfl X.gF rfl) pa_nil))) (pe_and (pe_callB (call_isF X.C) (by rfl) m_isinstance (by decide +kernel) (pa_cons (pv 2) (pa_cons (pe_bltn (v := .ty "ValueError") (by rfl) m_ValueError (by decide +kernel) rfl) pa_nil))) (pe_one (pe_not (pe_callB (call_isF X.C) (by rfl) m_isinstance (by decide +kernel) (pa_cons (pv 2) (pa_cons (pe_glob (v := .ref CN) rfl X.gN rfl) pa_nil))))))))
    (pss_one (ps_ret (pe_ifExp (pt_val (pv 5)) (pe_kf X.xf X.no (pv 2)) pe_str))))))), ?_⟩
    rcases h with ⟨t, hx, ht, q⟩ | ⟨a, xs, rfl, ha, hz, hes, q⟩
    · refine ⟨x, rfl, .int n, rfl, x, n, rfl, .inl ⟨t, hx, ht, fun dx H' s' hd => ?_⟩⟩
      refine ⟨X.e, fun hl a0 na => ⟨.ref a0, rfl, ?_⟩⟩
      have hda : dx ≠ a0 := ne_of_none hd na
      have KX : KxF (upd H' a0 (ExK (.ref CF) (some dx) a0)) a0 CF [("place", V.int (-1))] := ⟨dx, upd_same, by rw [upd_ne hda]; exact hd⟩
      have SX : Same H (upd H' a0 (ExK (.ref CF) (some dx) a0)) := s'.trans (same_new na)
      refine ⟨.ref a0, rfl, rfl, _, rfl, iteF' (decide_eq_false (fun z => by cases z)) ?_⟩
      refine ⟨.ref a0, rfl, a0, _, .ref CF, _, true, rfl, KX, .own _, X.kF, _, rfl, iteT ⟨.ref a0, rfl, a0, _, .ty "ValueError", _, true, rfl, KX, .ty _, X.kV, _, rfl, iteT ⟨.ref a0, rfl, a0, _, .ref CN, _, false, rfl, KX, .own _, X.kN, _, rfl, ?_⟩⟩⟩
      exact ⟨.bl true, rfl, _, rfl, iteT ⟨.ref a0, rfl, a0, _, .int (-1), rfl, KX, rfl, q _ SX⟩⟩
    · refine ⟨.ref a, rfl, .int n, rfl, .ref a, n, rfl, .inr ⟨a, xs, rfl, ha, hz, hes, fun k hk dx H' s' hd => ?_, fun hk H' s' => ?_⟩⟩
      · have qk : ∀ H', Same H H' → Q (.int k) H' := fun H2 s2 => by
          have z := q H2 s2
          rw [hk] at z
          exact z
        refine ⟨X.e, fun hl a0 na => ⟨.ref a0, rfl, ?_⟩⟩
        have hda : dx ≠ a0 := ne_of_none hd na
        have KX : KxF (upd H' a0 (ExK (.ref CF) (some dx) a0)) a0 CF [("place", V.int k)] := ⟨dx, upd_same, by rw [upd_ne hda]; exact hd⟩
        have SX : Same H (upd H' a0 (ExK (.ref CF) (some dx) a0)) := s'.trans (same_new na)
        refine ⟨.ref a0, rfl, rfl, _, rfl, iteF' (decide_eq_false (fun z => by cases z)) ?_⟩
        refine ⟨.ref a0, rfl, a0, _, .ref CF, _, true, rfl, KX, .own _, X.kF, _, rfl, iteT ⟨.ref a0, rfl, a0, _, .ty "ValueError", _, true, rfl, KX, .ty _, X.kV, _, rfl, iteT ⟨.ref a0, rfl, a0, _, .ref CN, _, false, rfl, KX, .own _, X.kN, _, rfl, ?_⟩⟩⟩
        exact ⟨.bl true, rfl, _, rfl, iteT ⟨.ref a0, rfl, a0, _, .int k, rfl, KX, rfl, qk _ SX⟩⟩
      · have z := q H' s'
        rw [hk] at z
        exact ⟨.non, rfl, rfl, _, rfl, iteT ⟨.non, rfl, rfl, _, rfl, iteT z⟩⟩
end
end K00
namespace K00
open PySem PySem.Spec PyProof.Rows L2 Vk
abbrev s_bent : Stmt := topS 29
theorem sc_bent : FnScope ["m", "form", "spot", "odd", "some"] ["m", "form"] (defScope s_bent) := ⟨rfl, rfl, rfl, by decide +kernel, rfl, by decide +kernel, by decide +kernel⟩
/-- a value of some kind, not the drawn dict -/
def Ky (m : Addr) (H : Hp) (x : V) : Prop := x ≠ .ref m ∧ ∃ t, Oky H x t
/-- a value that is judged -/
def Kn (m : Addr) (H : Hp) (x : V) : Prop := x ≠ .ref m ∧ ((∃ t, Oky H x t ∧ t ≠ "tuple") ∨ ∃ a xs, x = .ref a ∧ Tp H a xs ∧ xs.length ≤ 100 ∧ ∀ e ∈ xs, Ky m H e)
theorem Ky.but {m : Addr} {H H' : Hp} {x : V} (h : Ky m H x) (s : SameBut m H H') : Ky m H' x := by
  obtain ⟨n, t, h⟩ := h
  refine ⟨n, t, ?_⟩
  cases h with
  | non => exact .non
  | bl b => exact .bl b
  | int i => exact .int i
  | str x => exact .str x
  | lst e => exact .lst (s _ _ (fun z => n (by rw [z])) e)
  | tup e => exact .tup (s _ _ (fun z => n (by rw [z])) e)
  | dK e => exact .dK (s _ _ (fun z => n (by rw [z])) e)
theorem Kn.but {m : Addr} {H H' : Hp} {x : V} (h : Kn m H x) (s : SameBut m H H') : Kn m H' x := by
  obtain ⟨n, ⟨t, h, ht⟩ | ⟨a, xs, rfl, ha, hl, hes⟩⟩ := h
  · refine ⟨n, .inl ⟨t, ?_, ht⟩⟩
    cases h with
    | non => exact .non
    | bl b => exact .bl b
    | int i => exact .int i
    | str x => exact .str x
    | lst e => exact .lst (s _ _ (fun z => n (by rw [z])) e)
    | tup e => exact absurd rfl ht
    | dK e => exact .dK (s _ _ (fun z => n (by rw [z])) e)
  · exact ⟨n, .inr ⟨a, xs, rfl, s _ _ (fun z => n (by rw [z])) ha, hl, fun e he => (hes e he).but s⟩⟩
theorem Ky.int {m : Addr} {H : Hp} (i : Int) : Ky m H (.int i) := ⟨(fun z => by cases z), _, .int i⟩
theorem ky_row {m : Addr} {H : Hp} {xs : List Int} : ∀ e ∈ xs.map V.int, Ky m H e := fun e he => by
  obtain ⟨i, _, rfl⟩ := List.mem_map.mp he
  exact Ky.int i
theorem Kn.tp {m a : Addr} {H : Hp} {xs : List V} (hm : ∃ kvs, H m = some (.dK kvs)) (ha : Tp H a xs) (hl : xs.length ≤ 100) (h : ∀ e ∈ xs, Ky m H e) : Kn m H (.ref a) := by
  obtain ⟨kvs, hm⟩ := hm
  exact ⟨fun z => ne_of ha hm (by intro w; cases w) (V.ref.inj z), .inr ⟨a, xs, rfl, ha, hl, h⟩⟩
theorem Kn.lst {m a : Addr} {H : Hp} {xs : List V} (hm : ∃ kvs, H m = some (.dK kvs)) (ha : H a = some (.lst xs)) : Kn m H (.ref a) := by
  obtain ⟨kvs, hm⟩ := hm
  exact ⟨fun z => ne_of ha hm (by intro w; cases w) (V.ref.inj z), .inl ⟨_, .lst ha, by decide⟩⟩
theorem Ky.tp {m a : Addr} {H : Hp} {xs : List V} (hm : ∃ kvs, H m = some (.dK kvs)) (ha : Tp H a xs) : Ky m H (.ref a) := by
  obtain ⟨kvs, hm⟩ := hm
  exact ⟨fun z => ne_of ha hm (by intro w; cases w) (V.ref.inj z), _, .tup ha⟩
theorem Ky.lst {m a : Addr} {H : Hp} {xs : List V} (hm : ∃ kvs, H m = some (.dK kvs)) (ha : H a = some (.lst xs)) : Ky m H (.ref a) := by
  obtain ⟨kvs, hm⟩ := hm
  exact ⟨fun z => ne_of ha hm (by intro w; cases w) (V.ref.inj z), _, .lst ha⟩
theorem cut_mem {xs : List V} {lo hi : Option Int} {e : V} (h : e ∈ cutV xs lo hi) : e ∈ xs := by
  unfold cutV at h
  exact List.mem_of_mem_drop (List.mem_of_mem_take h)
theorem cut_len {xs : List V} {lo hi : Option Int} : (cutV xs lo hi).length ≤ xs.length := by
  unfold cutV
  rw [List.length_take, List.length_drop]
  omega
def spBent : Sp := fun vs H Q _ => ∃ (m c f : Addr) (q : Nat) (xs : List Int), vs = [.ref m, .ref f] ∧ MOk H m c q ∧ q ≤ 80000 ∧ Row H f xs ∧ 0 < xs.length ∧ xs.length ≤ 90 ∧ ∀ H' v, SameBut m H H' → MOk H' m c (q + 4) → Kn m H' v → Q v H'
section
variable {P : Program} {w : World} {K : PySem.W.Frag} {mg : Str → Option Value} {base : Heap}
theorem ok_bent {f : Addr} {fd : FuncData} (F : Fun K "_law_bent" "_law_bent" s_bent f fd) (C__law_draw : Cal P w K mg base 1 "_law_draw" ["m", "bound"] spDraw) (C__law_of : Cal P w K mg base 2 "_law_of" ["m", "some"] spOf) (m_len : mg "len" = none) (m_list : mg "list" = none) : FnOk P w K mg base CX0 3 f fd ["m", "form"] spBent := by
  have sc := sc_bent
  refine F.ok sc (fun vs H Q E h => ?_) (fun cdv A outer s H vs Q E hr h => ?_)
  · obtain ⟨m, c, f, q, xs, rfl, _⟩ := h
    rfl
  · obtain ⟨m, c, f, q, xs, rfl, hM, hq, hf, h0, h1, k⟩ := h
    refine ⟨_, (pss_cons (ps_set (i := 2) sc.nd rfl (Or.inl rfl) (call_ C__law_draw (hr.mono (by decide)) (by rfl) (pa_cons (pv 0) (pa_cons (pe_callB call_len_seq (by rfl) m_len (by decide +kernel) (pa_cons (pv 1) pa_nil)) pa_nil))))
    (pss_cons (ps_set (i := 3) sc.nd rfl (Or.inl rfl) (call_ C__law_of (hr.mono (by decide)) (by rfl) (pa_cons (pv 0) (pa_cons (pe_lst (pa_cons pe_bl (pa_cons pe_bl (pa_cons pe_non (pa_cons pe_str (pa_cons (pe_tup (pa_cons pe_int pa_nil)) (pa_cons pe_int (pa_cons (pe_lst pa_nil) (pa_cons (pe_op op_pow pe_int pe_int) pa_nil))))))))) pa_nil))))
    (pss_cons (ps_set (i := 4) sc.nd rfl (Or.inl rfl) (pe_lst (pa_cons (pe_op op_catA (pe_op op_catA (pe_slice sl_tupA (pv 1) po_none (po_some (pv 2))) (pe_tup (pa_cons (pv 3) pa_nil))) (pe_slice sl_tupA (pv 1) (po_some (pe_op op_add (pv 2) pe_int)) po_none)) (pa_cons (pe_slice sl_tupA (pv 1) po_none (po_some (pe_un un_neg pe_int))) (pa_cons (pe_op op_catA (pv 1) (pe_tup (pa_cons pe_int pa_nil))) (pa_cons (pe_callTy call_list_of (by rfl) m_list (by decide +kernel) (pa_cons (pv 1) pa_nil)) (pa_cons (pe_tup (pa_cons (pv 1) pa_nil)) (pa_cons pe_non (pa_cons pe_int (pa_cons pe_str (pa_cons (pe_tup pa_nil) pa_nil)))))))))))
    (pss_one (ps_ret (call_ C__law_of (hr.mono (by decide)) (by rfl) (pa_cons (pv 0) (pa_cons (pe_lst (pa_cons (pe_ix ix_list (pv 4) pe_int (fun _ _ => rfl)) (pa_cons (pe_ix ix_list (pv 4) pe_int (fun _ _ => rfl)) (pa_cons (call_ C__law_of (hr.mono (by decide)) (by rfl) (pa_cons (pv 0) (pa_cons (pv 4) pa_nil))) pa_nil)))) pa_nil)))))))), ?_⟩
    have lx : (xs.map V.int).length = xs.length := List.length_map ..
    refine ⟨.ref m, rfl, .ref f, rfl, f, _, rfl, .inr hf.1.t, m, c, q, ((xs.map V.int).length : Int), rfl, hM, by omega, by omega, Nat.lt_of_le_of_lt (show (((xs.map V.int).length : Nat) : Int).natAbs ≤ 90 by omega) (by decide), fun H1 sp b1 M1 v0 v1 => ?_⟩
    obtain ⟨kvs0, hm0⟩ := hM.m_some
    obtain ⟨kvs1, hm1⟩ := M1.m_some
    have hf1 := hf.1.but hm0 b1
    refine ⟨.ref m, rfl, by show 1 ≤ sizeLine; decide, fun t nt => ?_⟩
    have s2 : Same H1 (upd H1 t (.tup [.int 1])) := same_new nt
    have g2 : Tp (upd H1 t (.tup [.int 1])) t [.int 1] := upd_same
    generalize upd H1 t (.tup [.int 1]) = H2 at s2 g2 ⊢
    refine ⟨by show 0 ≤ sizeLine; decide, fun l nl => ?_⟩
    have s3 : Same H2 (upd H2 l (.lst [])) := same_new nl
    have g3 : upd H2 l (.lst []) l = some (.lst ([] : List V)) := upd_same
    generalize upd H2 l (.lst []) = H3 at s3 g3 ⊢
    refine ⟨10, 30, rfl, rfl, ⟨by decide, by decide, by decide⟩, by show 8 ≤ sizeLine; decide, fun L nL => ?_⟩
    have s4 := same_new (o := .lst [.bl true, .bl false, .non, .str "1", .ref t, .int 7, .ref l, .int (10 ^ (30 : Int).toNat)]) nL
    have g4 : upd H3 L (.lst [.bl true, .bl false, .non, .str "1", .ref t, .int 7, .ref l, .int (10 ^ (30 : Int).toNat)]) L = some (.lst [.bl true, .bl false, .non, .str "1", .ref t, .int 7, .ref l, .int (10 ^ (30 : Int).toNat)]) := upd_same
    refine ⟨m, c, L, q + 1, _, rfl, ((M1.same s2).same s3).same s4, by omega, g4, by show 0 < 8; decide, by show 8 ≤ 100; decide, fun H5 odd b5 M5 hodd => ?_⟩
    generalize upd H3 L (.lst [.bl true, .bl false, .non, .str "1", .ref t, .int 7, .ref l, .int (10 ^ (30 : Int).toNat)]) = H4 at s4 g4 b5
    have s14 := (s2.trans s3).trans s4
    have hm4 : ∃ kvs, H4 m = some (.dK kvs) := ⟨_, s14 _ _ hm1⟩
    have Kodd4 : Ky m H4 odd := by
      simp only [List.mem_cons, List.not_mem_nil, or_false] at hodd
      rcases hodd with rfl | rfl | rfl | rfl | rfl | rfl | rfl | rfl
      · exact ⟨(fun z => by cases z), _, .bl _⟩
      · exact ⟨(fun z => by cases z), _, .bl _⟩
      · exact ⟨(fun z => by cases z), _, .non⟩
      · exact ⟨(fun z => by cases z), _, .str _⟩
      · exact Ky.tp hm4 ((g2.same s3).same s4)
      · exact Ky.int _
      · exact Ky.lst hm4 (s4 _ _ g3)
      · exact Ky.int _
    have Kodd := Kodd4.but b5
    have B5 : SameBut m H H5 := (b1.trans (SameBut.of s14)).trans b5
    have hf5 : Tp H5 f (xs.map V.int) := hf.1.but hm0 B5
    obtain ⟨kvs5, hm5⟩ := M5.m_some
    clear s2 s3 s4 g2 g3 g4 nt nl nL s14 Kodd4 hm4 hodd b5 b1 hm1 M1
    refine ⟨.ref f, rfl, ?_⟩
    unfold tNoPart tPart
    refine ⟨.int sp, rfl, sp, rfl, ?_⟩
    refine slice_tp hf5 fun r6 H6 s6 h6 => ?_
    refine ⟨odd, rfl, by show 1 ≤ sizeLine; decide, fun p7 n7 => ?_⟩
    have s7 : Same H6 (upd H6 p7 (.tup [odd])) := same_new n7
    have h7 : Tp (upd H6 p7 (.tup [odd])) p7 [odd] := upd_same
    generalize upd H6 p7 (.tup [odd]) = H7 at s7 h7 ⊢
    have lc : (cutV (xs.map V.int) none (some sp)).length ≤ 90 := Nat.le_trans cut_len (by omega)
    have lc2 : (cutV (xs.map V.int) (some (sp + 1)) none).length ≤ 90 := Nat.le_trans cut_len (by omega)
    refine cat_tp (h6.same s7) h7 (Nat.le_of_lt (Nat.lt_of_le_of_lt (show _ ≤ 91 by show _ + 1 ≤ 91; omega) (by decide))) fun r8 H8 s8 h8 => ?_
    refine ⟨.ref f, rfl, .int sp, rfl, sp, 1, rfl, rfl, sp + 1, rfl, ?_⟩
    refine slice_tp (((hf5.same s6).same s7).same s8) fun r9 H9 s9 h9 => ?_
    refine cat_tp (h8.same s9) h9 (Nat.le_of_lt (Nat.lt_of_le_of_lt (show _ ≤ 200 by rw [List.length_append]; show _ + 1 + _ ≤ 200; omega) (by decide))) fun v1 H10 s10 t1 => ?_
    have s510 := ((((s6.trans s7).trans s8).trans s9).trans s10)
    have e1 : ∀ e ∈ cutV (xs.map V.int) none (some sp) ++ [odd] ++ cutV (xs.map V.int) (some (sp + 1)) none, Ky m H10 e := fun e he => by
      rcases List.mem_append.mp he with he | he
      · rcases List.mem_append.mp he with he | he
        · exact ky_row e (cut_mem he)
        · rw [List.mem_singleton] at he
          subst he
          exact Kodd.but (SameBut.of s510)
      · exact ky_row e (cut_mem he)
    have l1 : (cutV (xs.map V.int) none (some sp) ++ [odd] ++ cutV (xs.map V.int) (some (sp + 1)) none).length ≤ 100 := by
      have z : (cutV (xs.map V.int) none (some sp)).length + (cutV (xs.map V.int) (some (sp + 1)) none).length ≤ xs.length := by
        unfold cutV
        obtain ⟨j, rfl⟩ : ∃ j : Nat, sp = j := ⟨sp.toNat, by omega⟩
        have ej : ((j : Int) + 1) = ((j + 1 : Nat) : Int) := by omega
        rw [ej, HT.sIx_none, HT.sIx_nat, HT.sIx_none, HT.sIx_nat, List.length_take, List.length_drop, List.length_take, List.length_drop, lx]
        omega
      rw [List.length_append, List.length_append]
      show _ + 1 + _ ≤ 100
      omega
    have K1 : Kn m H10 (.ref v1) := Kn.tp ⟨_, s510 _ _ hm5⟩ t1 l1 e1
    have f10 := hf5.same s510
    have m10 := s510 _ _ hm5
    generalize cutV (xs.map V.int) none (some sp) ++ [odd] ++ cutV (xs.map V.int) (some (sp + 1)) none = w1 at t1 l1 e1
    clear s6 s7 s8 s9 s10 h6 h7 h8 h9 n7 lc lc2 e1 Kodd
    refine ⟨.ref f, rfl, 1, rfl, -1, rfl, ?_⟩
    refine slice_tp f10 fun v2 H11 s11 t2 => ?_
    have K2 : Kn m H11 (.ref v2) := Kn.tp ⟨_, s11 _ _ m10⟩ t2 (Nat.le_trans cut_len (by omega)) fun e he => ky_row e (cut_mem he)
    refine ⟨.ref f, rfl, by show 1 ≤ sizeLine; decide, fun p n => ?_⟩
    have s12 : Same H11 (upd H11 p (.tup [.int 0])) := same_new n
    have h12 : Tp (upd H11 p (.tup [.int 0])) p [.int 0] := upd_same
    generalize upd H11 p (.tup [.int 0]) = H12 at s12 h12 ⊢
    refine cat_tp ((f10.same s11).same s12) h12 (Nat.le_of_lt (Nat.lt_of_le_of_lt (show _ ≤ 91 by show _ + 1 ≤ 91; omega) (by decide))) fun v3 H13 s13 t3 => ?_
    have m13 := s13 _ _ (s12 _ _ (s11 _ _ m10))
    have K3 : Kn m H13 (.ref v3) := Kn.tp ⟨_, m13⟩ t3 (by rw [List.length_append]; show _ + 1 ≤ 100; omega) fun e he => by
      rcases List.mem_append.mp he with he | he
      · exact ky_row e he
      · rw [List.mem_singleton] at he
        subst he
        exact Ky.int 0
    have f13 := ((f10.same s11).same s12).same s13
    refine ⟨.ref f, rfl, f, _, rfl, .inr f13.t, fun v4 n4 => ?_⟩
    have s14 : Same H13 (upd H13 v4 (.lst (xs.map V.int))) := same_new n4
    have t4 : upd H13 v4 (.lst (xs.map V.int)) v4 = some (.lst (xs.map V.int)) := upd_same
    generalize upd H13 v4 (.lst (xs.map V.int)) = H14 at s14 t4 ⊢
    have K4 : Kn m H14 (.ref v4) := Kn.lst ⟨_, s14 _ _ m13⟩ t4
    refine ⟨.ref f, rfl, by show 1 ≤ sizeLine; decide, fun v5 n5 => ?_⟩
    have s15 : Same H14 (upd H14 v5 (.tup [.ref f])) := same_new n5
    have t5 : Tp (upd H14 v5 (.tup [.ref f])) v5 [.ref f] := upd_same
    generalize upd H14 v5 (.tup [.ref f]) = H15 at s15 t5 ⊢
    have m15 := s15 _ _ (s14 _ _ m13)
    have f15 := (f13.same s14).same s15
    have K5 : Kn m H15 (.ref v5) := Kn.tp ⟨_, m15⟩ t5 (by show 1 ≤ 100; decide) fun e he => by
      rw [List.mem_singleton] at he
      subst he
      exact Ky.tp ⟨_, m15⟩ f15
    refine ⟨by show 0 ≤ sizeLine; decide, fun v9 n9 => ?_⟩
    have s16 : Same H15 (upd H15 v9 (.tup [])) := same_new n9
    have t9 : Tp (upd H15 v9 (.tup [])) v9 [] := upd_same
    generalize upd H15 v9 (.tup []) = H16 at s16 t9 ⊢
    have K9 : Kn m H16 (.ref v9) := Kn.tp ⟨_, s16 _ _ m15⟩ t9 (by show 0 ≤ 100; decide) fun e he => by cases he
    refine ⟨by show 9 ≤ sizeLine; decide, fun S nS => ?_⟩
    have s17 : Same H16 (upd H16 S (.lst [.ref v1, .ref v2, .ref v3, .ref v4, .ref v5, .non, .int 3, .str "form", .ref v9])) := same_new nS
    have gS : upd H16 S (.lst [.ref v1, .ref v2, .ref v3, .ref v4, .ref v5, .non, .int 3, .str "form", .ref v9]) S = some (.lst [.ref v1, .ref v2, .ref v3, .ref v4, .ref v5, .non, .int 3, .str "form", .ref v9]) := upd_same
    generalize upd H16 S (.lst [.ref v1, .ref v2, .ref v3, .ref v4, .ref v5, .non, .int 3, .str "form", .ref v9]) = H17 at s17 gS ⊢
    have s517 := (((((((s510.trans s11).trans s12).trans s13).trans s14).trans s15).trans s16).trans s17)
    have M17 := M5.same s517
    have KS : ∀ e ∈ [V.ref v1, .ref v2, .ref v3, .ref v4, .ref v5, .non, .int 3, .str "form", .ref v9], Kn m H17 e := fun e he => by
      simp only [List.mem_cons, List.not_mem_nil, or_false] at he
      rcases he with rfl | rfl | rfl | rfl | rfl | rfl | rfl | rfl | rfl
      · exact K1.but (SameBut.of ((((((s11.trans s12).trans s13).trans s14).trans s15).trans s16).trans s17))
      · exact K2.but (SameBut.of (((((s12.trans s13).trans s14).trans s15).trans s16).trans s17))
      · exact K3.but (SameBut.of (((s14.trans s15).trans s16).trans s17))
      · exact K4.but (SameBut.of ((s15.trans s16).trans s17))
      · exact K5.but (SameBut.of (s16.trans s17))
      · exact ⟨(fun z => by cases z), .inl ⟨_, .non, by decide⟩⟩
      · exact ⟨(fun z => by cases z), .inl ⟨_, .int _, by decide⟩⟩
      · exact ⟨(fun z => by cases z), .inl ⟨_, .str _, by decide⟩⟩
      · exact K9.but (SameBut.of s17)
    have KV1 := KS _ (List.mem_cons_self)
    have B17 := B5.trans (SameBut.of s517)
    refine ⟨.ref m, rfl, .ref S, rfl, S, _, 0, .ref v1, rfl, rfl, SqL.of gS, atI_nat (j := 0) rfl, .ref S, rfl, S, _, 0, .ref v1, rfl, rfl, SqL.of gS, atI_nat (j := 0) rfl, .ref m, rfl, .ref S, rfl, m, c, S, q + 1 + 1, _, rfl, M17, by omega, gS, by show 0 < 9; decide, by show 9 ≤ 100; decide, fun H18 v b18 M18 hv => ?_⟩
    refine ⟨by show 3 ≤ sizeLine; decide, fun T nT => ?_⟩
    have s19 : Same H18 (upd H18 T (.lst [.ref v1, .ref v1, v])) := same_new nT
    have gT : upd H18 T (.lst [.ref v1, .ref v1, v]) T = some (.lst [.ref v1, .ref v1, v]) := upd_same
    generalize upd H18 T (.lst [.ref v1, .ref v1, v]) = H19 at s19 gT ⊢
    have B19 := b18.trans (SameBut.of s19)
    refine ⟨m, c, T, q + 1 + 1 + 1, _, rfl, M18.same s19, by omega, gT, by show 0 < 3; decide, by show 3 ≤ 100; decide, fun H20 v' b20 M20 hv' => ?_⟩
    refine k H20 v' (B17.trans (B19.trans b20)) M20 ?_
    simp only [List.mem_cons, List.not_mem_nil, or_false] at hv'
    rcases hv' with rfl | rfl | rfl
    · exact KV1.but (B19.trans b20)
    · exact KV1.but (B19.trans b20)
    · exact (KS _ hv).but (B19.trans b20)
end
end K00
namespace K00
open PySem PySem.Spec PyProof.Rows L2 Vk
/-- a form's value -/
def val : List Int → List Int → Int
  | [], _ => 0
  | x :: xs, t => x + dot xs t
theorem dot_nil (t : List Int) : dot [] t = 0 := by
  unfold dot
  rfl
theorem dot_cons (x y : Int) (xs ys : List Int) : dot (x :: xs) (y :: ys) = x * y + dot xs ys := by
  unfold dot
  rw [List.zipWith_cons_cons, List.sum_cons]
theorem dot_zero : ∀ (n : Nat) (t : List Int), dot (List.replicate n 0) t = 0
  | 0, t => dot_nil t
  | n + 1, [] => by
    unfold dot
    rw [List.zipWith_nil_right]
    rfl
  | n + 1, y :: t => by
    rw [List.replicate_succ, dot_cons, dot_zero n t]
    simp
theorem dot_lin (f : Int) : ∀ (u v t : List Int), u.length = v.length → u.length = t.length → dot (List.zipWith (fun a b => a + f * b) u v) t = dot u t + f * dot v t
  | [], [], _, _, _ => by simp [dot_nil]
  | a :: u, b :: v, y :: t, h1, h2 => by
    rw [List.zipWith_cons_cons, dot_cons, dot_cons, dot_cons, dot_lin f u v t (by simpa using h1) (by simpa using h2), Int.add_mul, Int.mul_add, Int.mul_assoc]
    omega
  | a :: u, b :: v, [], _, h2 => by simp at h2
  | [], b :: v, _, h1, _ => by simp at h1
  | a :: u, [], _, h1, _ => by simp at h1
theorem val_lin (f : Int) (u v t : List Int) (n : Nat) (h1 : u.length = n + 1) (h2 : v.length = n + 1) (h3 : t.length = n) : val (List.zipWith (fun a b => a + f * b) u v) t = val u t + f * val v t := by
  cases u with
  | nil => simp at h1
  | cons a u =>
    cases v with
    | nil => simp at h2
    | cons b v =>
      rw [List.zipWith_cons_cons]
      show a + f * b + dot _ t = a + dot u t + f * (b + dot v t)
      simp only [List.length_cons] at h1 h2
      rw [dot_lin f u v t (by omega) (by omega), Int.mul_add]
      omega
theorem dot_snoc (x y : Int) : ∀ (xs ys : List Int), xs.length = ys.length → dot (xs ++ [x]) (ys ++ [y]) = dot xs ys + x * y
  | [], [], _ => by
    show dot [x] [y] = _
    rw [dot_cons, dot_nil]
    omega
  | a :: xs, b :: ys, h => by
    rw [List.cons_append, List.cons_append, dot_cons, dot_cons, dot_snoc x y xs ys (by simpa using h)]
    omega
  | [], b :: ys, h => by simp at h
  | a :: xs, [], h => by simp at h
theorem val_putI {c : Int} {cs : List Int} {rows : List (List Int)} {n : Nat} {t : List Int} (hr : ∀ (i : Nat) (r : List Int), rows[i]? = some r → r.length = n + 1) (hl : cs.length = rows.length) (ht : t.length = n) :
    ∀ i, i ≤ cs.length → val (putI c cs rows n i) t = c + dot (cs.take i) ((rows.take i).map fun r => val r t)
  | 0, _ => by
    show c + dot (List.replicate n 0) t = c + dot [] _
    rw [dot_zero, dot_nil]
  | i + 1, hi => by
    have ih := val_putI (c := c) hr hl ht i (by omega)
    have hrow : rows[i]? = some rows[i] := List.getElem?_eq_getElem (by omega)
    have hf : cs[i]? = some cs[i] := List.getElem?_eq_getElem (by omega)
    have step : putI c cs rows n (i + 1) = List.zipWith (fun a b => a + cs[i] * b) (putI c cs rows n i) rows[i] := by
      show List.zipWith (fun a b => a + cs.getD i 0 * b) (putI c cs rows n i) (rows.getD i []) = _
      rw [List.getD_eq_getElem?_getD, List.getD_eq_getElem?_getD, hf, hrow]
      rfl
    rw [step, val_lin _ _ _ _ n (putI_len hr i (by omega)) (hr i _ hrow) ht, ih, List.take_add_one, List.take_add_one, hf, hrow, List.map_append]
    show _ = c + dot (cs.take i ++ [cs[i]]) (_ ++ [val rows[i] t])
    rw [dot_snoc _ _ _ _ (by rw [List.length_map, List.length_take, List.length_take]; omega)]
    omega
/-! ### sizes -/
theorem nat_mul_le {a b A B : Nat} (h1 : a ≤ A) (h2 : b ≤ B) : a * b ≤ A * B := Nat.mul_le_mul h1 h2
theorem dot_le {A B : Nat} : ∀ (xs ys : List Int), (∀ x ∈ xs, x.natAbs ≤ A) → (∀ y ∈ ys, y.natAbs ≤ B) → (dot xs ys).natAbs ≤ xs.length * (A * B)
  | [], _, _, _ => by
    rw [dot_nil]
    exact Nat.zero_le _
  | x :: xs, [], _, _ => by
    unfold dot
    rw [List.zipWith_nil_right]
    exact Nat.zero_le _
  | x :: xs, y :: ys, h1, h2 => by
    have ih := dot_le xs ys (fun z hz => h1 z (List.mem_cons_of_mem _ hz)) (fun z hz => h2 z (List.mem_cons_of_mem _ hz))
    have k := nat_mul_le (h1 x List.mem_cons_self) (h2 y List.mem_cons_self)
    rw [dot_cons, List.length_cons, Nat.succ_mul]
    have e : (x * y).natAbs = x.natAbs * y.natAbs := Int.natAbs_mul x y
    have := Int.natAbs_add_le (x * y) (dot xs ys)
    omega
theorem val_le {A B : Nat} (xs t : List Int) (h1 : ∀ x ∈ xs, x.natAbs ≤ A) (h2 : ∀ y ∈ t, y.natAbs ≤ B) : (val xs t).natAbs ≤ A + xs.length * (A * B) := by
  cases xs with
  | nil => exact Nat.zero_le _
  | cons x xs =>
    have k := dot_le xs t (fun z hz => h1 z (List.mem_cons_of_mem _ hz)) h2
    have k1 := h1 x List.mem_cons_self
    show (x + dot xs t).natAbs ≤ _
    have := Int.natAbs_add_le x (dot xs t)
    rw [List.length_cons, Nat.succ_mul]
    omega
theorem putI_le {c : Int} {cs : List Int} {rows : List (List Int)} {n A : Nat} (hc : c.natAbs ≤ A) (h1 : ∀ x ∈ cs, x.natAbs ≤ A) (h2 : ∀ r ∈ rows, ∀ x ∈ r, x.natAbs ≤ A) : ∀ i, ∀ x ∈ putI c cs rows n i, x.natAbs ≤ A + i * (A * A)
  | 0, x, hx => by
    have hx : x ∈ c :: List.replicate n 0 := hx
    rcases List.mem_cons.mp hx with rfl | hx
    · omega
    · rw [(List.mem_replicate.mp hx).2]
      exact Nat.zero_le _
  | i + 1, x, hx => by
    have hx : x ∈ List.zipWith (fun a b => a + cs.getD i 0 * b) (putI c cs rows n i) (rows.getD i []) := hx
    obtain ⟨j, hj⟩ := List.getElem?_of_mem hx
    obtain ⟨a, b, ha, hb, rfl⟩ := zip_get hj
    have ih := putI_le (n := n) hc h1 h2 i a (List.mem_of_getElem? ha)
    have hf : (cs.getD i 0).natAbs ≤ A := by
      rw [List.getD_eq_getElem?_getD]
      cases h : cs[i]? with
      | none => exact Nat.zero_le _
      | some y => exact h1 y (List.mem_of_getElem? h)
    have hbA : b.natAbs ≤ A := by
      cases h : rows[i]? with
      | none =>
        rw [List.getD_eq_getElem?_getD, h] at hb
        cases hb
      | some r =>
        rw [List.getD_eq_getElem?_getD, h] at hb
        exact h2 r (List.mem_of_getElem? h) b (List.mem_of_getElem? hb)
    have k := nat_mul_le hf hbA
    have e : (cs.getD i 0 * b).natAbs = (cs.getD i 0).natAbs * b.natAbs := Int.natAbs_mul _ _
    have := Int.natAbs_add_le a (cs.getD i 0 * b)
    rw [Nat.succ_mul]
    omega
/-! ### lowered -/
theorem gI_dvd : ∀ (xs : List Int) (g : Int), (xs.foldl (fun g x => ((Int.gcd g x : Nat) : Int)) g ∣ g) ∧ ∀ x ∈ xs, xs.foldl (fun g x => ((Int.gcd g x : Nat) : Int)) g ∣ x
  | [], g => ⟨Int.dvd_refl _, fun x hx => by cases hx⟩
  | y :: ys, g => by
    obtain ⟨h1, h2⟩ := gI_dvd ys ((Int.gcd g y : Nat) : Int)
    refine ⟨Int.dvd_trans h1 (Int.gcd_dvd_left _ _), fun x hx => ?_⟩
    rcases List.mem_cons.mp hx with rfl | hx
    · exact Int.dvd_trans h1 (Int.gcd_dvd_right _ _)
    · exact h2 x hx
theorem dot_div (g : Int) : ∀ (xs t : List Int), (∀ x ∈ xs, g ∣ x) → dot xs t = g * dot (xs.map fun x => x.fdiv g) t
  | [], t, _ => by
    rw [List.map_nil, dot_nil, Int.mul_zero]
  | x :: xs, [], _ => by
    unfold dot
    rw [List.zipWith_nil_right, List.zipWith_nil_right]
    exact (Int.mul_zero g).symm
  | x :: xs, y :: t, h => by
    have e : x = g * x.fdiv g := (Int.mul_fdiv_cancel' (h x List.mem_cons_self)).symm
    rw [List.map_cons, dot_cons, dot_cons, dot_div g xs t fun z hz => h z (List.mem_cons_of_mem _ hz), Int.mul_add, ← Int.mul_assoc, ← e]
theorem low_sign (c : Int) (xs t : List Int) : (0 ≤ val (lowL (c :: xs)) t) ↔ (0 ≤ val (c :: xs) t) := by
  by_cases g0 : gI xs = 0
  · have e : lowL (c :: xs) = c :: xs := if_pos g0
    rw [e]
  · have e : lowL (c :: xs) = (c :: xs).map fun x => x.fdiv (gI xs) := if_neg g0
    have gp : 0 < gI xs := by
      have := gI_nonneg xs
      omega
    rw [e, List.map_cons]
    show 0 ≤ c.fdiv (gI xs) + dot (xs.map fun x => x.fdiv (gI xs)) t ↔ 0 ≤ c + dot xs t
    rw [dot_div (gI xs) xs t (gI_dvd xs 0).2, Int.fdiv_eq_ediv_of_nonneg _ (Int.le_of_lt gp)]
    generalize dot (xs.map fun x => x.fdiv (gI xs)) t = S
    generalize gI xs = g at gp
    have k := Int.le_ediv_iff_mul_le (a := -S) (b := c) gp
    have e2 : -S * g = -(g * S) := by
      rw [Int.neg_mul, Int.mul_comm]
    rw [e2] at k
    constructor
    · intro h
      have := k.mp (by omega)
      omega
    · intro h
      have := k.mpr (by omega)
      omega
/-! ### data -/
theorem fit_ints : ∀ ns : List Int, (∀ x ∈ ns, SmZ 1900 x) → FitLN 0 ns.length (ns.map PyData.int)
  | [], _ => .nil
  | n :: r, h => .cons (a := 0) (b := r.length) (.int (h n List.mem_cons_self)) (fit_ints r fun x hx => h x (List.mem_cons_of_mem _ hx)) (by rw [List.length_cons]; omega)
/-- a row's data -/
def dRow (ns : List Int) : PyData := .tuple (ns.map PyData.int)
theorem Tp.dp {K : PySem.W.Frag} {H : Hp} {a : Addr} {ns : List Int} (h : Tp H a (ns.map V.int)) : Dp K H (.ref a) (dRow ns) := .tup h.t (dp_ints ns)
theorem fit_row {ns : List Int} (hl : ns.length ≤ 100) (h : ∀ x ∈ ns, SmZ 1900 x) : FitN 1 100 (dRow ns) := FitN.mono (FitN.tup (fit_ints ns h)) (Nat.le_refl _) hl
theorem smz_mono {a : Int} {n m : Nat} (h : SmZ n a) (l : n ≤ m) : SmZ m a := Nat.lt_of_lt_of_le h (Nat.pow_le_pow_right (by decide) l)
theorem bad_none {xs : List V} : bad xs = none ↔ xs.all Vk.isInt = true := by
  unfold bad
  rw [List.findIdx?_eq_none_iff, List.all_eq_true]
  constructor
  · intro h x hx
    have := h x hx
    simpa using this
  · intro h x hx
    rw [h x hx]
    rfl
theorem tupOk_wrong (n : Nat) (xs : List V) : tupOk (n + 1) xs = (wrongOf n xs).isNone := by
  unfold tupOk wrongOf
  by_cases hl : xs.length = n + 1
  · rw [decide_eq_true hl, if_pos hl, Bool.true_and]
    cases hb : bad xs with
    | none => rw [bad_none.mp hb]; rfl
    | some k =>
      have : ¬ xs.all Vk.isInt = true := fun z => by
        rw [bad_none.mpr z] at hb
        cases hb
      rw [Bool.eq_false_iff.mpr this]
      rfl
  · rw [decide_eq_false hl, if_neg hl]
    rfl
end K00
namespace K00
open PySem PySem.Spec PyProof.Rows L2 Vk
theorem Row.but {m a : Addr} {H H' : Hp} {xs : List Int} {kvs : List (Key × V)} (h : Row H a xs) (hm : H m = some (.dK kvs)) (s : SameBut m H H') : Row H' a xs := ⟨h.1.but hm s, h.2⟩
theorem Rws.but {m : Addr} {H H' : Hp} {ps : List Addr} {rows : List (List Int)} {n : Nat} {kvs : List (Key × V)} (h : Rws H ps rows n) (hm : H m = some (.dK kvs)) (s : SameBut m H H') : Rws H' ps rows n :=
  ⟨h.1, fun i p r h1 h2 => ⟨(h.2 i p r h1 h2).1.but hm s, (h.2 i p r h1 h2).2⟩⟩
theorem sb_put {m D : Addr} {H1 H4 : Hp} {o : HO} (nD : H1 D = none) (s : SameBut m H1 H4) : SameBut m H1 (upd H4 D o) := fun b u hb e => by
  rw [upd_ne (ne_of_none e nD)]
  exact s _ _ hb e
/-- drawn numbers along a tuple -/
theorem lc_drawnT {K : PySem.W.Frag} {r : Addr} {vsx : List V} {g : TG} {te : TE} {vs : List Nat} {σ : L2.St} {H1 : Hp} {D : Addr} {Qd : Hp → Prop} {m c : Addr} {q : Nat} (lw up : Int) (hz : vsx.length < sizeLine) (hM : MOk H1 m c q) (hr : Tp H1 r vsx) (nD : H1 D = none)
    (hs : ∀ (i : Nat) (x : V) (H : Hp) (Qy : VK), vsx[i]? = some x → MOk H m c (q + i) → (∀ H4 v, SameBut m H H4 → MOk H4 m c (q + i + 1) → lw ≤ v → v ≤ up → Qy (.int v) H4) → g x (wipe σ vs) H fun σ2 H2 => wipe σ2 vs = wipe σ vs ∧ te σ2 H2 Qy)
    (hd : ∀ H (xs : List Int), SameBut m H1 H → MOk H m c (q + vsx.length) → H D = some (.lst (xs.map V.int)) → xs.length = vsx.length → (∀ x ∈ xs, lw ≤ x ∧ x ≤ up) → Qd H) :
    ∃ W : Nat → Nat → Hp → Prop, (∃ m, W 0 m (upd H1 D (.lst []))) ∧ ∀ i m H, W i m H →
      ((Itt K r).stop i H ∧ Qd H) ∨ ((Itt K r).go i H ∧ ∃ Nx : Hp → Prop, (∀ H', Nx H' → ∃ m', m' < m ∧ W (i + 1) m' H') ∧ ∀ x H', (Itt K r).yld i H x H' → g x (wipe σ vs) H' fun σ2 H2 => wipe σ2 vs = wipe σ vs ∧ tYes σ2 H2 fun b H3 =>
        if b = true then te σ2 H3 fun y H4 => ∃ acc, H4 D = some (.lst acc) ∧ acc.length < sizeLine ∧ Nx (upd H4 D (.lst (acc ++ [y]))) else Nx H3) := by
  obtain ⟨kvs, hm⟩ := hM.m_some
  obtain ⟨ys, hc⟩ := hM.c_some
  have dm : D ≠ m := Ne.symm (ne_of_none hm nD)
  have dc : D ≠ c := Ne.symm (ne_of_none hc nD)
  refine lc_it (walk_tup (K := K) (a := r) (xs := vsx)) (tt := tYes) (fun i H => ∃ xs : List Int, SameBut m H1 H ∧ MOk H m c (q + i) ∧ H D = some (.lst (xs.map V.int)) ∧ xs.length = i ∧ ∀ x ∈ xs, lw ≤ x ∧ x ≤ up) ⟨[], SameBut.of (same_new nD), hM.put dm dc, upd_same, rfl, fun x hx => by cases hx⟩ (fun i H _ ⟨_, sb, _⟩ => (hr.but hm sb).t) ?_ ?_
  · rintro i x H H' hi ⟨xs, sb, M, d, l, bd⟩ ⟨rfl, hx⟩
    refine hs i x H' (fun y H4 => ∃ acc, H4 D = some (.lst acc) ∧ acc.length < sizeLine ∧ ∃ xs : List Int, SameBut m H1 (upd H4 D (.lst (acc ++ [y]))) ∧ MOk (upd H4 D (.lst (acc ++ [y]))) m c (q + (i + 1)) ∧ upd H4 D (.lst (acc ++ [y])) D = some (.lst (xs.map V.int)) ∧ xs.length = i + 1 ∧ ∀ x ∈ xs, lw ≤ x ∧ x ≤ up) hx M fun H4 v b4 M4 v0 v1 => ?_
    refine ⟨xs.map V.int, b4 _ _ dm d, by rw [List.length_map]; omega, xs ++ [v], sb_put nD (sb.trans b4), M4.put dm dc, ?_, by rw [List.length_append, l]; rfl, fun x hx => ?_⟩
    · rw [upd_same, List.map_append]
      rfl
    · rcases List.mem_append.mp hx with hx | hx
      · exact bd x hx
      · rw [List.mem_singleton] at hx
        subst hx
        exact ⟨v0, v1⟩
  · rintro H ⟨xs, sb, M, d, l, bd⟩
    exact hd H xs sb M d l bd
/-- drawn rows -/
theorem lc_rows {n wd : Nat} {g : TG} {te : TE} {vs : List Nat} {σ : L2.St} {H1 : Hp} {D : Addr} {Qd : Hp → Prop} {m c : Addr} {q : Nat} (hz : n < sizeLine) (hM : MOk H1 m c q) (nD : H1 D = none)
    (hs : ∀ (i : Nat) (H : Hp) (Qy : VK), i < n → MOk H m c (q + i * (wd + 2)) → (∀ H4 p xs, SameBut m H H4 → MOk H4 m c (q + (i + 1) * (wd + 2)) → Row H4 p xs → (∀ x ∈ xs, SmZ 70 x) → xs.length = wd + 1 → Qy (.ref p) H4) → g (.int (0 + i)) (wipe σ vs) H fun σ2 H2 => wipe σ2 vs = wipe σ vs ∧ te σ2 H2 Qy)
    (hd : ∀ H (ps : List Addr) (rows : List (List Int)), SameBut m H1 H → MOk H m c (q + n * (wd + 2)) → H D = some (.lst (ps.map V.ref)) → ps.length = n → Rws H ps rows (wd + 1) → (∀ r ∈ rows, ∀ x ∈ r, SmZ 70 x) → Qd H) :
    ∃ W : Nat → Nat → Hp → Prop, (∃ m, W 0 m (upd H1 D (.lst []))) ∧ ∀ i m H, W i m H →
      ((Itr 0 n).stop i H ∧ Qd H) ∨ ((Itr 0 n).go i H ∧ ∃ Nx : Hp → Prop, (∀ H', Nx H' → ∃ m', m' < m ∧ W (i + 1) m' H') ∧ ∀ x H', (Itr 0 n).yld i H x H' → g x (wipe σ vs) H' fun σ2 H2 => wipe σ2 vs = wipe σ vs ∧ tYes σ2 H2 fun b H3 =>
        if b = true then te σ2 H3 fun y H4 => ∃ acc, H4 D = some (.lst acc) ∧ acc.length < sizeLine ∧ Nx (upd H4 D (.lst (acc ++ [y]))) else Nx H3) := by
  obtain ⟨kvs, hm⟩ := hM.m_some
  obtain ⟨ys, hc⟩ := hM.c_some
  have dm : D ≠ m := Ne.symm (ne_of_none hm nD)
  have dc : D ≠ c := Ne.symm (ne_of_none hc nD)
  refine lc_it (walk_range (lo := 0) (n := n)) (tt := tYes) (fun i H => ∃ (ps : List Addr) (rows : List (List Int)), SameBut m H1 H ∧ MOk H m c (q + i * (wd + 2)) ∧ H D = some (.lst (ps.map V.ref)) ∧ ps.length = i ∧ Rws H ps rows (wd + 1) ∧ ∀ r ∈ rows, ∀ x ∈ r, SmZ 70 x)
    ⟨[], [], SameBut.of (same_new nD), (hM.put dm dc).mono (by omega), upd_same, rfl, ⟨rfl, fun i p r h => by cases h⟩, fun x hx => by cases hx⟩ (fun _ _ _ _ => True.intro) ?_ ?_
  · rintro i x H H' hi ⟨ps, rows, sb, M, d, l, hR, bd⟩ ⟨rfl, rfl⟩
    refine hs i H' (fun y H4 => ∃ acc, H4 D = some (.lst acc) ∧ acc.length < sizeLine ∧ ∃ (ps : List Addr) (rows : List (List Int)), SameBut m H1 (upd H4 D (.lst (acc ++ [y]))) ∧ MOk (upd H4 D (.lst (acc ++ [y]))) m c (q + (i + 1) * (wd + 2)) ∧ upd H4 D (.lst (acc ++ [y])) D = some (.lst (ps.map V.ref)) ∧ ps.length = i + 1 ∧ Rws (upd H4 D (.lst (acc ++ [y]))) ps rows (wd + 1) ∧ ∀ r ∈ rows, ∀ x ∈ r, SmZ 70 x) hi M fun H4 p xs b4 M4 hp zx lx => ?_
    have d4 := b4 _ _ dm d
    obtain ⟨kv, hmH⟩ := M.m_some
    have off : ∀ {a : Addr} {zs : List Int}, Row H4 a zs → Row (upd H4 D (.lst (ps.map V.ref ++ [.ref p]))) a zs := fun {a zs} h => ⟨by
      show upd H4 D _ a = _
      rw [upd_ne (ne_of h.1 d4 (by intro z; cases z))]
      exact h.1, h.2⟩
    refine ⟨ps.map V.ref, d4, by rw [List.length_map]; omega, ps ++ [p], rows ++ [xs], sb_put nD (sb.trans b4), M4.put dm dc, ?_, by rw [List.length_append, l]; rfl, ⟨by rw [List.length_append, List.length_append, hR.1]; rfl, ?_⟩, ?_⟩
    · rw [upd_same, List.map_append]
      rfl
    · intro j a zs h1 h2
      by_cases hj : j < ps.length
      · rw [List.getElem?_append_left hj] at h1
        rw [List.getElem?_append_left (by rw [← hR.1]; exact hj)] at h2
        obtain ⟨q1, q2⟩ := hR.2 j a zs h1 h2
        exact ⟨off (q1.but hmH b4), q2⟩
      · rw [List.getElem?_append_right (by omega)] at h1
        rw [List.getElem?_append_right (by rw [← hR.1]; omega)] at h2
        have j0 : j - ps.length = 0 := by
          have := (List.getElem?_eq_some_iff.mp h1).1
          simp only [List.length_cons, List.length_nil] at this
          omega
        rw [j0] at h1
        rw [← hR.1, j0] at h2
        obtain rfl : p = a := Option.some.inj h1
        obtain rfl : xs = zs := Option.some.inj h2
        exact ⟨off hp, lx⟩
    · intro r hr x hx
      rcases List.mem_append.mp hr with hr | hr
      · exact bd r hr x hx
      · rw [List.mem_singleton] at hr
        subst hr
        exact zx x hx
  · rintro H ⟨ps, rows, sb, M, d, l, hR, bd⟩
    exact hd H ps rows sb M d l hR bd
/-- what wrong and heard tell -/
def rW : Option Int → V
  | some k => .int k
  | none => .non
def rH : Option Int → V
  | some k => .int k
  | none => .str "form"
def dH : Option Int → PyData
  | some k => .int k
  | none => .str "form"
/-- a value is judged alike by all three -/
theorem judge {m : Addr} {H : Hp} {x : V} {n : Nat} (hn : n ≤ 90) (k : Kn m H x) : ∃ w : Option Int, (∀ i, w = some i → SmZ 300 i) ∧
    (∀ (H' : Hp) (Q : VK) (E : XK), Same H H' → (∀ H'', Same H' H'' → Q (rW w) H'') → spWrong [x, .int n] H' Q E) ∧
    (∀ (H' : Hp) (Q : VK) (E : XK), Same H H' → (∀ H'', Same H' H'' → Q (.bl w.isNone) H'') → spIsform [x, .int n] H' Q E) ∧
    (∀ (H' : Hp) (Q : VK) (E : XK), Same H H' → (∀ H'', Same H' H'' → Q (rH w) H'') → spHeard [x, .int n] H' Q E) := by
  obtain ⟨_, ⟨t, h, ht⟩ | ⟨a, xs, rfl, ha, hl, hes⟩⟩ := k
  · refine ⟨some (-1), fun i e => ?_, fun H' Q E s q => ⟨x, n, rfl, hn, .inl ⟨t, h.same s, ht, q _ (Same.refl _)⟩⟩, fun H' Q E s q => ⟨x, n, rfl, .inl ⟨t, h.same s, ht, q _ (Same.refl _)⟩⟩, fun H' Q E s q => ⟨x, n, rfl, .inl ⟨t, h.same s, ht, q⟩⟩⟩
    obtain rfl := Option.some.inj e
    exact Nat.lt_trans (by decide) (by decide : 2 < 2 ^ 300)
  · have oky : ∀ {H'}, Same H H' → ∀ e ∈ xs, ∃ t, Oky H' e t := fun s e he => by
      obtain ⟨_, t, h⟩ := hes e he
      exact ⟨t, h.same s⟩
    refine ⟨wrongOf n xs, fun i e => ?_, fun H' Q E s q => ⟨.ref a, n, rfl, hn, .inr ⟨a, xs, rfl, ha.same s, hl, oky s, fun H'' s' => ?_⟩⟩, fun H' Q E s q => ⟨.ref a, n, rfl, .inr ⟨a, xs, rfl, ha.same s, hl, oky s, fun H'' s' => ?_⟩⟩, fun H' Q E s q => ⟨.ref a, n, rfl, .inr ⟨a, xs, rfl, ha.same s, hl, oky s, fun H'' s' => ?_⟩⟩⟩
    · unfold wrongOf at e
      split at e
      · cases hb : bad xs with
        | none =>
          rw [hb] at e
          cases e
        | some j =>
          rw [hb] at e
          obtain rfl := Option.some.inj e
          unfold bad at hb
          have hj : j < xs.length := by
            obtain ⟨h1, _⟩ := List.findIdx?_eq_some_iff_getElem.mp hb
            exact h1
          unfold SmZ
          exact Nat.lt_of_le_of_lt (show ((j : Nat) : Int).natAbs ≤ 100 by omega) (by decide)
      · obtain rfl := Option.some.inj e
        exact Nat.lt_trans (by decide) (by decide : 2 < 2 ^ 300)
    · have z := q H'' s'
      cases h : wrongOf n xs with
      | none => rw [h] at z; exact z
      | some k => rw [h] at z; exact z
    · have z := q H'' s'
      rw [← tupOk_wrong] at z
      exact z
    · have z := q H'' s'
      cases h : wrongOf n xs with
      | none => rw [h] at z; exact z
      | some k => rw [h] at z; exact z
theorem dp_rH {K : PySem.W.Frag} {H : Hp} (w : Option Int) : Dp K H (rH w) (dH w) := by
  cases w with
  | none => exact .str _
  | some k => exact .int _
theorem fit_two {w : Option Int} (h : ∀ i, w = some i → SmZ 300 i) : Fit (.list [.bool w.isNone, dH w]) := by
  have f : FitN 0 100 (dH w) := by
    cases w with
    | none => exact .str _ (by decide +kernel) (by decide +kernel)
    | some k => exact .int (smz_mono (h k rfl) (by decide))
  exact FitN.mono (FitN.list (k := 0) (n := 102) (.cons (a := 0) (b := 101) (.bl _) (.cons (a := 100) (b := 0) f .nil (by decide)) (by decide))) (by decide) (by decide)
theorem kn_row {m a : Addr} {H : Hp} {xs : List Int} (hm : ∃ kvs, H m = some (.dK kvs)) (h : Row H a xs) : Kn m H (.ref a) := Kn.tp hm h.1 (by rw [List.length_map]; exact h.2.1) ky_row
theorem low_small {c : Int} {xs : List Int} {n : Nat} (h : ∀ x ∈ c :: xs, SmZ n x) : ∀ x ∈ lowL (c :: xs), SmZ n x := by
  by_cases g0 : gI xs = 0
  · have e : lowL (c :: xs) = c :: xs := if_pos g0
    rw [e]
    exact h
  · have e : lowL (c :: xs) = (c :: xs).map fun x => x.fdiv (gI xs) := if_neg g0
    rw [e]
    intro x hx
    obtain ⟨y, hy, rfl⟩ := List.mem_map.mp hx
    rw [Int.fdiv_eq_ediv_of_nonneg _ (gI_nonneg xs)]
    exact Nat.lt_of_le_of_lt (Int.natAbs_ediv_le_natAbs y (gI xs)) (h y hy)
theorem low_len (c : Int) (xs : List Int) : (lowL (c :: xs)).length = xs.length + 1 := by
  by_cases g0 : gI xs = 0
  · have e : lowL (c :: xs) = c :: xs := if_pos g0
    rw [e, List.length_cons]
  · have e : lowL (c :: xs) = (c :: xs).map fun x => x.fdiv (gI xs) := if_neg g0
    rw [e, List.length_map, List.length_cons]
theorem mod_prod {w e : Int} (hw : w = 2 ∨ w = 6) : -12 ≤ w * (Int.fmod e 5 - 2) ∧ w * (Int.fmod e 5 - 2) ≤ 12 ∧ SmZ 300 w ∧ SmZ 300 (Int.fmod e 5 - 2) := by
  have h0 := Int.fmod_nonneg_of_pos e (show (0 : Int) < 5 by decide)
  have h1 := Int.fmod_lt_of_pos e (show (0 : Int) < 5 by decide)
  generalize Int.fmod e 5 = r at h0 h1
  refine ⟨?_, ?_, smz_of (b := 6) (by omega) (by omega) (by decide), smz_of (b := 6) (by omega) (by omega) (by decide)⟩
  · rcases hw with rfl | rfl <;> omega
  · rcases hw with rfl | rfl <;> omega
theorem rowc {H : Hp} {p : Addr} (xs : List Int) (h : (xs.all fun x => decide (x.natAbs < 16)) = true) (hl : xs.length ≤ 100) (t : Tp H p (xs.map V.int)) : Row H p xs := ⟨t, hl, fun x hx => by
  have := of_decide_eq_true (List.all_eq_true.mp h x hx)
  exact Nat.lt_trans this (by decide : 16 < 2 ^ 300)⟩
theorem tp_to {H : Hp} {a : Addr} {xs ys : List Int} (e : xs = ys) (t : Tp H a (xs.map V.int)) : Tp H a (ys.map V.int) := e ▸ t
theorem fitc (xs : List Int) (h : (xs.all fun x => decide (x.natAbs < 16)) = true) (hl : xs.length ≤ 100) : FitN 1 100 (dRow xs) := fit_row hl fun x hx => by
  have := of_decide_eq_true (List.all_eq_true.mp h x hx)
  exact Nat.lt_trans this (by decide : 16 < 2 ^ 1900)
end K00
namespace K00
open PySem PySem.Spec PyProof.Rows L2 Vk
abbrev s_law : Stmt := topS 32
theorem sc_law : FnScope ["script", "turn", "some", "m", "t", "value", "k", "due", "forms_so", "told", "thick", "n", "wide", "form", "far", "wrong", "j", "entry", "one"] ["script"] (defScope s_law) := ⟨rfl, rfl, rfl, by decide +kernel, rfl, by decide +kernel, by decide +kernel⟩
def spLaw (K : PySem.W.Frag) : Sp := fun vs H Q _ => ∃ (a : Addr) (ns : List Int), vs = [.ref a] ∧ SqL K H a (ns.map V.int) ∧ ns.length ≤ 63 ∧ ∀ H', Q (.bl true) H'
theorem sm_but {m : Addr} {H0 H H' : Hp} (nm : H0 m = none) (s : Same H0 H) (b : SameBut m H H') : Same H0 H' := fun a o e => b a o (ne_of_none e nm) (s a o e)
theorem sql_same {K : PySem.W.Frag} {H H' : Hp} {a : Addr} {xs : List V} (h : SqL K H a xs) (s : Same H H') : SqL K H' a xs := s.seq h
theorem nat_of {v : Int} (h : 0 ≤ v) : ∃ n : Nat, v = n := ⟨v.toNat, by omega⟩
theorem iteF2 {c : Bool} {A B : Prop} (hc : c = false) (h : B) : if c = true then A else B := iteF' hc h
section
variable {P : Program} {w : World} {K : PySem.W.Frag} {mg : Str → Option Value} {base : Heap}
theorem ok_law {f : Addr} {fd : FuncData} (F : Fun K "law" "law" s_law f fd) (C__law_begun : Cal P w K mg base 1 "_law_begun" ["script", "k"] (spBegun K)) (C__law_draw : Cal P w K mg base 1 "_law_draw" ["m", "bound"] spDraw) (C__law_form : Cal P w K mg base 3 "_law_form" ["m", "n"] spForm) (C__law_bent : Cal P w K mg base 3 "_law_bent" ["m", "form"] spBent) (C__law_wrong : Cal P w K mg base 2 "_law_wrong" ["value", "n"] spWrong) (C_is_form : Cal P w K mg base 3 "is_form" ["value", "m"] spIsform) (C__law_heard : Cal P w K mg base 4 "_law_heard" ["value", "n"] spHeard) (C_form_sum : Cal P w K mg base 1 "form_sum" ["one", "other"] spFsum) (C_form_times : Cal P w K mg base 1 "form_times" ["form", "n"] spFtimes) (C_form_value : Cal P w K mg base 2 "form_value" ["form", "t"] spFval) (C__law_at : Cal P w K mg base 1 "_law_at" ["form", "t"] spFval) (C_put_in : Cal P w K mg base 2 "put_in" ["form", "forms", "n"] spPutin) (C__law_put : Cal P w K mg base 1 "_law_put" ["form", "forms", "n"] spPutin) (C_lowered : Cal P w K mg base 2 "lowered" ["form"] spLow) (C__law_lowered : Cal P w K mg base 2 "_law_lowered" ["form"] spLow) (C__law_of : Cal P w K mg base 2 "_law_of" ["m", "some"] spOf) (C__law_like : CalG P w K mg base 1 "_law_like" ["got", "due"] (spLike K)) (m_range : mg "range" = none) (m_max : mg "max" = none) (m_min : mg "min" = none) (m_len : mg "len" = none) (m_tuple : mg "tuple" = none) : FnG P w K mg base 5 f fd ["script"] (spLaw K) := by
  have sc := sc_law
  refine okG F sc (fun vs H Q E h => ?_) (fun cdv A outer s H vs Q E hG0 hr h => ?_)
  · obtain ⟨a, ns, rfl, _⟩ := h
    rfl
  · obtain ⟨a0, ns, rfl, hS, hl, k0⟩ := h
    have hG := hG0.deeper (envOfC "law" (defScope s_law) s.heap.objs.size f cdv)
    refine ⟨_, (pss_cons (ps_for PassesOwn.never rfl (pi_range1 rfl m_range (pa_cons (pe_callB (call_max2 rfl) (by rfl) m_max (by decide +kernel) (pa_cons pe_int (pa_cons (pe_callB (call_min2 rfl) (by rfl) m_min (by decide +kernel) (pa_cons pe_int (pa_cons (pe_callB call_len_seq (by rfl) m_len (by decide +kernel) (pa_cons (pv 0) pa_nil)) pa_nil))) pa_nil))) pa_nil)) (pg_name (i := 1) sc.nd rfl (Or.inl rfl))
      (pss_cons (ps_set (i := 3) sc.nd rfl (Or.inr rfl) (call_ C__law_begun (hr.mono (by decide)) (by rfl) (pa_cons (pv 0) (pa_cons (pv 1) pa_nil))))
    (pss_cons (ps_asg (pe_tup (pa_cons (call_ C__law_draw (hr.mono (by decide)) (by rfl) (pa_cons (pv 3) (pa_cons pe_int pa_nil))) (pa_cons (call_ C__law_draw (hr.mono (by decide)) (by rfl) (pa_cons (pv 3) (pa_cons pe_int pa_nil))) pa_nil))) (pg_tup (by rfl) (pgs_cons (pg_name (i := 11) sc.nd rfl (Or.inl rfl)) (pgs_cons (pg_name (i := 12) sc.nd rfl (Or.inr rfl)) pgs_nil))))
    (pss_cons (ps_asg (pe_tup (pa_cons (call_ C__law_form (hr.mono (by decide)) (by rfl) (pa_cons (pv 3) (pa_cons (pv 11) pa_nil))) (pa_cons (call_ C__law_form (hr.mono (by decide)) (by rfl) (pa_cons (pv 3) (pa_cons (pv 11) pa_nil))) pa_nil))) (pg_tup (by rfl) (pgs_cons (pg_name (i := 13) sc.nd rfl (Or.inr rfl)) (pgs_cons (pg_name (i := 14) sc.nd rfl (Or.inr rfl)) pgs_nil))))
    (pss_cons (ps_set (i := 4) sc.nd rfl (Or.inr rfl) (pe_callTy call_tuple_of (by rfl) m_tuple (by decide +kernel) (pa_cons (pe_lc (own := [("k", 6)]) (g := gName 6) (by rfl) sc.nd (pi_range1 rfl m_range (pa_cons (pv 11) pa_nil)) (blkOk_by (own := [("k", 6)]) (N := ["script", "turn", "some", "m", "t", "value", "k", "due", "forms_so", "told", "thick", "n", "wide", "form", "far", "wrong", "j", "entry", "one"]) (sc := defScope s_law) (by decide +kernel)) (fun _ _ _ _ _ => pg_name (i := 6) sc.nd rfl (Or.inl rfl)) (fun _ _ _ _ _ => pts_nil) (fun _ _ _ _ _ => (pe_op op_sub (call_ C__law_draw (hr.mono (by decide)) (by rfl) (pa_cons (pv 3) (pa_cons pe_int pa_nil))) pe_int))) pa_nil)))
    (pss_cons (ps_for PassesOwn.never rfl (pi_list (pe_lst (pa_cons (pv 13) (pa_cons (call_ C__law_bent (hr.mono (by decide)) (by rfl) (pa_cons (pv 3) (pa_cons (pv 13) pa_nil))) (pa_cons (call_ C__law_bent (hr.mono (by decide)) (by rfl) (pa_cons (pv 3) (pa_cons (pv 13) pa_nil))) (pa_cons (call_ C__law_bent (hr.mono (by decide)) (by rfl) (pa_cons (pv 3) (pa_cons (pv 13) pa_nil))) pa_nil)))))) (pg_name (i := 5) sc.nd rfl (Or.inl rfl))
      (pss_cons (ps_set (i := 15) sc.nd rfl (Or.inl rfl) (call_ C__law_wrong (hr.mono (by decide)) (by rfl) (pa_cons (pv 5) (pa_cons (pv 11) pa_nil))))
    (pss_one (ps_if (pt_not (pt_val (callG hG C__law_like (hr.mono (by decide)) (by rfl) (pa_cons (pe_lst (pa_cons (call_ C_is_form (hr.mono (by decide)) (by rfl) (pa_cons (pv 5) (pa_cons (pv 11) pa_nil))) (pa_cons (call_ C__law_heard (hr.mono (by decide)) (by rfl) (pa_cons (pv 5) (pa_cons (pv 11) pa_nil))) pa_nil))) (pa_cons (pe_lst (pa_cons (pe_cmpR op_isN (pv 15) pe_non (nomark _)) (pa_cons (pe_ifExp (pt_cmpR op_isN (pv 15) pe_non (nomark _)) pe_str (pv 15)) pa_nil))) pa_nil)))))
      (pss_one (ps_ret pe_bl))
      pss_nil))))
    (pss_cons (ps_set (i := 6) sc.nd rfl (Or.inr rfl) (pe_op op_sub (call_ C__law_draw (hr.mono (by decide)) (by rfl) (pa_cons (pv 3) (pa_cons pe_int pa_nil))) pe_int))
    (pss_cons (ps_set (i := 7) sc.nd rfl (Or.inl rfl) (pe_lst (pa_cons (pe_callTy call_tuple_of (by rfl) m_tuple (by decide +kernel) (pa_cons (pe_lc (own := [("j", 16)]) (g := gName 16) (by rfl) sc.nd (pi_range1 rfl m_range (pa_cons (pe_op op_add (pv 11) pe_int) pa_nil)) (blkOk_by (own := [("j", 16)]) (N := ["script", "turn", "some", "m", "t", "value", "k", "due", "forms_so", "told", "thick", "n", "wide", "form", "far", "wrong", "j", "entry", "one"]) (sc := defScope s_law) (by decide +kernel)) (fun _ _ _ _ _ => pg_name (i := 16) sc.nd rfl (Or.inl rfl)) (fun _ _ _ _ _ => pts_nil) (fun _ _ _ _ _ => (pe_op op_add (pe_ix (ix_tupK (K := K) rfl) (pv 13) (pv 16) (fun _ _ => rfl)) (pe_ix (ix_tupK (K := K) rfl) (pv 14) (pv 16) (fun _ _ => rfl))))) pa_nil)) (pa_cons (pe_callTy call_tuple_of (by rfl) m_tuple (by decide +kernel) (pa_cons (pe_lc (own := [("entry", 17)]) (g := gName 17) (by rfl) sc.nd (pi_tup (pv 13)) (blkOk_by (own := [("entry", 17)]) (N := ["script", "turn", "some", "m", "t", "value", "k", "due", "forms_so", "told", "thick", "n", "wide", "form", "far", "wrong", "j", "entry", "one"]) (sc := defScope s_law) (by decide +kernel)) (fun _ _ _ _ _ => pg_name (i := 17) sc.nd rfl (Or.inl rfl)) (fun _ _ _ _ _ => pts_nil) (fun _ _ _ _ _ => (pe_op op_mulW (pv 6) (pv 17)))) pa_nil)) pa_nil))))
    (pss_cons (ps_if (pt_not (pt_val (callG hG C__law_like (hr.mono (by decide)) (by rfl) (pa_cons (pe_lst (pa_cons (call_ C_form_sum (hr.mono (by decide)) (by rfl) (pa_cons (pv 13) (pa_cons (pv 14) pa_nil))) (pa_cons (call_ C_form_times (hr.mono (by decide)) (by rfl) (pa_cons (pv 13) (pa_cons (pv 6) pa_nil))) pa_nil))) (pa_cons (pv 7) pa_nil)))))
      (pss_one (ps_ret pe_bl))
      pss_nil)
    (pss_cons (ps_if (pt_not (pt_val (callG hG C__law_like (hr.mono (by decide)) (by rfl) (pa_cons (call_ C_form_value (hr.mono (by decide)) (by rfl) (pa_cons (pv 13) (pa_cons (pv 4) pa_nil))) (pa_cons (call_ C__law_at (hr.mono (by decide)) (by rfl) (pa_cons (pv 13) (pa_cons (pv 4) pa_nil))) pa_nil)))))
      (pss_one (ps_ret pe_bl))
      pss_nil)
    (pss_cons (ps_set (i := 8) sc.nd rfl (Or.inl rfl) (pe_callTy call_tuple_of (by rfl) m_tuple (by decide +kernel) (pa_cons (pe_lc (own := [("j", 16)]) (g := gName 16) (by rfl) sc.nd (pi_range1 rfl m_range (pa_cons (pv 11) pa_nil)) (blkOk_by (own := [("j", 16)]) (N := ["script", "turn", "some", "m", "t", "value", "k", "due", "forms_so", "told", "thick", "n", "wide", "form", "far", "wrong", "j", "entry", "one"]) (sc := defScope s_law) (by decide +kernel)) (fun _ _ _ _ _ => pg_name (i := 16) sc.nd rfl (Or.inl rfl)) (fun _ _ _ _ _ => pts_nil) (fun _ _ _ _ _ => (call_ C__law_form (hr.mono (by decide)) (by rfl) (pa_cons (pv 3) (pa_cons (pv 12) pa_nil))))) pa_nil)))
    (pss_cons (ps_set (i := 4) sc.nd rfl (Or.inr rfl) (pe_callTy call_tuple_of (by rfl) m_tuple (by decide +kernel) (pa_cons (pe_lc (own := [("j", 16)]) (g := gName 16) (by rfl) sc.nd (pi_range1 rfl m_range (pa_cons (pv 12) pa_nil)) (blkOk_by (own := [("j", 16)]) (N := ["script", "turn", "some", "m", "t", "value", "k", "due", "forms_so", "told", "thick", "n", "wide", "form", "far", "wrong", "j", "entry", "one"]) (sc := defScope s_law) (by decide +kernel)) (fun _ _ _ _ _ => pg_name (i := 16) sc.nd rfl (Or.inl rfl)) (fun _ _ _ _ _ => pts_nil) (fun _ _ _ _ _ => (pe_op op_sub (call_ C__law_draw (hr.mono (by decide)) (by rfl) (pa_cons (pv 3) (pa_cons pe_int pa_nil))) pe_int))) pa_nil)))
    (pss_cons (ps_set (i := 9) sc.nd rfl (Or.inl rfl) (call_ C_put_in (hr.mono (by decide)) (by rfl) (pa_cons (pv 13) (pa_cons (pv 8) (pa_cons (pv 12) pa_nil)))))
    (pss_cons (ps_if (pt_not (pt_val (callG hG C__law_like (hr.mono (by decide)) (by rfl) (pa_cons (pv 9) (pa_cons (call_ C__law_put (hr.mono (by decide)) (by rfl) (pa_cons (pv 13) (pa_cons (pv 8) (pa_cons (pv 12) pa_nil)))) pa_nil)))))
      (pss_one (ps_ret pe_bl))
      pss_nil)
    (pss_cons (ps_if (pt_cmpR op_ne (call_ C__law_at (hr.mono (by decide)) (by rfl) (pa_cons (pv 9) (pa_cons (pv 4) pa_nil))) (call_ C__law_at (hr.mono (by decide)) (by rfl) (pa_cons (pv 13) (pa_cons (pe_callTy call_tuple_of (by rfl) m_tuple (by decide +kernel) (pa_cons (pe_lc (own := [("one", 18)]) (g := gName 18) (by rfl) sc.nd (pi_tup (pv 8)) (blkOk_by (own := [("one", 18)]) (N := ["script", "turn", "some", "m", "t", "value", "k", "due", "forms_so", "told", "thick", "n", "wide", "form", "far", "wrong", "j", "entry", "one"]) (sc := defScope s_law) (by decide +kernel)) (fun _ _ _ _ _ => pg_name (i := 18) sc.nd rfl (Or.inl rfl)) (fun _ _ _ _ _ => pts_nil) (fun _ _ _ _ _ => (call_ C__law_at (hr.mono (by decide)) (by rfl) (pa_cons (pv 18) (pa_cons (pv 4) pa_nil))))) pa_nil)) pa_nil))) (nomark _))
      (pss_one (ps_ret pe_bl))
      pss_nil)
    (pss_cons (ps_set (i := 10) sc.nd rfl (Or.inl rfl) (pe_callTy call_tuple_of (by rfl) m_tuple (by decide +kernel) (pa_cons (pe_op op_cat (pe_lst (pa_cons (pe_ix ix_tup (pv 13) pe_int (fun _ _ => rfl)) pa_nil)) (pe_lc (own := [("entry", 17)]) (g := gName 17) (by rfl) sc.nd (pi_tup (pe_slice sl_tupA (pv 13) (po_some pe_int) po_none)) (blkOk_by (own := [("entry", 17)]) (N := ["script", "turn", "some", "m", "t", "value", "k", "due", "forms_so", "told", "thick", "n", "wide", "form", "far", "wrong", "j", "entry", "one"]) (sc := defScope s_law) (by decide +kernel)) (fun _ _ _ _ _ => pg_name (i := 17) sc.nd rfl (Or.inl rfl)) (fun _ _ _ _ _ => pts_nil) (fun _ _ _ _ _ => (pe_op op_mulW (call_ C__law_of (hr.mono (by decide)) (by rfl) (pa_cons (pv 3) (pa_cons (pe_lst (pa_cons pe_int (pa_cons pe_int (pa_cons pe_int pa_nil)))) pa_nil))) (pe_op op_sub (pe_op op_modN (pv 17) pe_int) pe_int))))) pa_nil)))
    (pss_cons (ps_set (i := 9) sc.nd rfl (Or.inl rfl) (call_ C_lowered (hr.mono (by decide)) (by rfl) (pa_cons (pv 10) pa_nil)))
    (pss_cons (ps_if (pt_not (pt_val (callG hG C__law_like (hr.mono (by decide)) (by rfl) (pa_cons (pe_lst (pa_cons (pv 9) (pa_cons (call_ C_lowered (hr.mono (by decide)) (by rfl) (pa_cons (pv 13) pa_nil)) pa_nil))) (pa_cons (pe_lst (pa_cons (call_ C__law_lowered (hr.mono (by decide)) (by rfl) (pa_cons (pv 10) pa_nil)) (pa_cons (call_ C__law_lowered (hr.mono (by decide)) (by rfl) (pa_cons (pv 13) pa_nil)) pa_nil))) pa_nil)))))
      (pss_one (ps_ret pe_bl))
      pss_nil)
    (pss_cons (ps_set (i := 4) sc.nd rfl (Or.inr rfl) (pe_callTy call_tuple_of (by rfl) m_tuple (by decide +kernel) (pa_cons (pe_lc (own := [("j", 16)]) (g := gName 16) (by rfl) sc.nd (pi_range1 rfl m_range (pa_cons (pv 11) pa_nil)) (blkOk_by (own := [("j", 16)]) (N := ["script", "turn", "some", "m", "t", "value", "k", "due", "forms_so", "told", "thick", "n", "wide", "form", "far", "wrong", "j", "entry", "one"]) (sc := defScope s_law) (by decide +kernel)) (fun _ _ _ _ _ => pg_name (i := 16) sc.nd rfl (Or.inl rfl)) (fun _ _ _ _ _ => pts_nil) (fun _ _ _ _ _ => (pe_op op_sub (call_ C__law_draw (hr.mono (by decide)) (by rfl) (pa_cons (pv 3) (pa_cons pe_int pa_nil))) pe_int))) pa_nil)))
    (pss_one (ps_if (pt_cmpR op_ne (pe_cmpR op_ge (call_ C__law_at (hr.mono (by decide)) (by rfl) (pa_cons (pv 9) (pa_cons (pv 4) pa_nil))) pe_int (nomark _)) (pe_cmpR op_ge (call_ C__law_at (hr.mono (by decide)) (by rfl) (pa_cons (pv 10) (pa_cons (pv 4) pa_nil))) pe_int (nomark _)) (nomark _))
      (pss_one (ps_ret pe_bl))
      pss_nil)))))))))))))))))))))
    (pss_cons (ps_set (i := 2) sc.nd rfl (Or.inl rfl) (pe_lst (pa_cons (call_ C_lowered (hr.mono (by decide)) (by rfl) (pa_cons (pe_tup (pa_cons pe_int (pa_cons pe_int (pa_cons (pe_un un_neg pe_int) pa_nil)))) pa_nil)) (pa_cons (call_ C_lowered (hr.mono (by decide)) (by rfl) (pa_cons (pe_tup (pa_cons (pe_un un_neg pe_int) (pa_cons pe_int (pa_cons (pe_un un_neg pe_int) pa_nil)))) pa_nil)) (pa_cons (call_ C_lowered (hr.mono (by decide)) (by rfl) (pa_cons (pe_tup (pa_cons pe_int (pa_cons pe_int pa_nil))) pa_nil)) (pa_cons (call_ C_lowered (hr.mono (by decide)) (by rfl) (pa_cons (pe_tup (pa_cons (pe_un un_neg pe_int) pa_nil)) pa_nil)) (pa_cons (call_ C_lowered (hr.mono (by decide)) (by rfl) (pa_cons (pe_tup (pa_cons pe_int (pa_cons (pe_un un_neg pe_int) pa_nil))) pa_nil)) (pa_cons (call_ C_put_in (hr.mono (by decide)) (by rfl) (pa_cons (pe_tup (pa_cons pe_int pa_nil)) (pa_cons (pe_tup pa_nil) (pa_cons pe_int pa_nil)))) pa_nil))))))))
    (pss_cons (ps_set (i := 2) sc.nd rfl (Or.inl rfl) (pe_op op_cat (pv 2) (pe_lst (pa_cons (call_ C__law_heard (hr.mono (by decide)) (by rfl) (pa_cons (pe_tup (pa_cons pe_int (pa_cons pe_bl pa_nil))) (pa_cons pe_int pa_nil))) (pa_cons (call_ C__law_heard (hr.mono (by decide)) (by rfl) (pa_cons (pe_tup (pa_cons pe_int pa_nil)) (pa_cons pe_int pa_nil))) pa_nil)))))
    (pss_one (ps_ret (callG hG C__law_like (hr.mono (by decide)) (by rfl) (pa_cons (pv 2) (pa_cons (pe_lst (pa_cons (pe_tup (pa_cons pe_int (pa_cons pe_int (pa_cons (pe_un un_neg pe_int) pa_nil)))) (pa_cons (pe_tup (pa_cons (pe_un un_neg pe_int) (pa_cons pe_int (pa_cons (pe_un un_neg pe_int) pa_nil)))) (pa_cons (pe_tup (pa_cons pe_int (pa_cons pe_int pa_nil))) (pa_cons (pe_tup (pa_cons (pe_un un_neg pe_int) pa_nil)) (pa_cons (pe_tup (pa_cons pe_int (pa_cons (pe_un un_neg pe_int) pa_nil))) (pa_cons (pe_tup (pa_cons pe_int (pa_cons pe_int (pa_cons pe_int pa_nil)))) (pa_cons pe_int (pa_cons (pe_un un_neg pe_int) pa_nil))))))))) pa_nil)))))))), ?_⟩
    obtain ⟨j, hj, j0, j1⟩ : ∃ j : Int, j = (if (if ((ns.map V.int).length : Int) < 4 then ((ns.map V.int).length : Int) else 4) > 2 then (if ((ns.map V.int).length : Int) < 4 then ((ns.map V.int).length : Int) else 4) else 2) ∧ 0 ≤ j ∧ j ≤ 4 := ⟨_, rfl, by split <;> split <;> omega, by split <;> split <;> omega⟩
    refine ⟨.ref a0, rfl, a0, _, rfl, .inl hS, 4, _, rfl, 2, _, rfl, j, by rw [hj], by omega, by omega, ?_⟩
    clear hj
    refine for_range (lo := 0) (n := j.toNat) (fun i σ H' => (∃ y1 y2 y3 y4 y5 y6 y7 y8 y9 y10 y11 y12 y13 y14 y15 y16 y17 y18, σ = [some (.ref a0), y1, y2, y3, y4, y5, y6, y7, y8, y9, y10, y11, y12, y13, y14, y15, y16, y17, y18]) ∧ SqL K H' a0 (ns.map V.int)) ⟨⟨none, none, none, none, none, none, none, none, none, none, none, none, none, none, none, none, none, none, rfl⟩, hS⟩ ?_ ?_
    · rintro i σ H0 hi ⟨⟨y1, y2, y3, y4, y5, y6, y7, y8, y9, y10, y11, y12, y13, y14, y15, y16, y17, y18, rfl⟩, hS0⟩
      refine ⟨.ref a0, rfl, .int (0 + i), rfl, a0, 0 + i, ns, rfl, hS0, hl, by omega, by omega, fun H1 m cc s1 nm M1 => ?_⟩
      refine ⟨.ref m, rfl, m, cc, 0, 10, rfl, M1, by omega, by omega, by decide, fun H2 n' b2 M2 n0 n1 => ⟨.ref m, rfl, m, cc, 0 + 1, 5, rfl, M2, by omega, by omega, by decide, fun H3 wd' b3 M3 w0 w1 => ⟨by show 2 ≤ sizeLine; decide, fun t0 nt0 => ?_⟩⟩⟩
      obtain ⟨n, rfl⟩ := nat_of n0
      obtain ⟨wd, rfl⟩ := nat_of w0
      have S3 := sm_but nm (sm_but nm s1 b2) b3
      have s4 : Same H3 (upd H3 t0 (.tup [.int n, .int wd])) := same_new nt0
      refine ⟨t0, [.int n, .int wd], rfl, SqT.of upd_same, rfl, .int n, [.int wd], rfl, .int wd, [], rfl, rfl, ?_⟩
      have M4 := M3.same s4
      have S4 := S3.trans s4
      generalize upd H3 t0 (.tup [.int n, .int wd]) = H4 at s4 M4 S4 ⊢
      clear s4 b2 b3 M1 M2 M3 S3 nt0 s1
      refine ⟨.ref m, rfl, .int n, rfl, m, cc, n, 2, rfl, M4.mono (by omega), by omega, by omega, fun H5 f xs b5 M5 nf hf zf lf => ⟨.ref m, rfl, .int n, rfl, m, cc, n, _, rfl, M5, by omega, by omega, fun H6 fr xr b6 M6 nr hfr zr lr => ⟨by show 2 ≤ sizeLine; decide, fun t1 nt1 => ?_⟩⟩⟩
      obtain ⟨kv5, hm5⟩ := M5.m_some
      have hf := hf.but hm5 b6
      have S6 := sm_but nm (sm_but nm S4 b5) b6
      have s7 : Same H6 (upd H6 t1 (.tup [.ref f, .ref fr])) := same_new nt1
      refine ⟨t1, [.ref f, .ref fr], rfl, SqT.of upd_same, rfl, .ref f, [.ref fr], rfl, .ref fr, [], rfl, rfl, ?_⟩
      have M7 := M6.same s7
      have S7 := S6.trans s7
      have hf := hf.same s7
      have hfr := hfr.same s7
      generalize upd H6 t1 (.tup [.ref f, .ref fr]) = H7 at s7 M7 S7 hf hfr ⊢
      clear s7 b5 b6 M5 M6 S6 nt1 nf nr S4 M4 hm5
      refine ⟨.int n, rfl, (n : Int), rfl, by omega, by omega, fun D nD => ?_⟩
      rw [Int.toNat_natCast]
      refine lc_drawn (n := n) (m := m) (c := cc) (-20) 20 (small (by omega)) M7 nD ?_ ?_
      · intro i' H' Qy hi' M' hQ
        exact ⟨rfl, .ref m, rfl, m, cc, _, 41, rfl, M', by omega, by omega, by decide, fun H4 v b4 M4 v0 v1 => ⟨v, 20, rfl, rfl, hQ H4 _ b4 M4 (by omega) (by omega)⟩⟩
      intro H8 ts b8 M8 d8 lt bt
      refine ⟨D, _, rfl, .inl ⟨SqL.of d8, fun ta nta => ?_⟩⟩
      have sz : ∀ {x : Int}, -20 ≤ x ∧ x ≤ 20 → SmZ 300 x := fun h => smz_of h.1 h.2 (by decide)
      obtain ⟨kv7, hm7⟩ := M7.m_some
      have s9 : Same H8 (upd H8 ta (.tup (ts.map V.int))) := same_new nta
      have ht : Row (upd H8 ta (.tup (ts.map V.int))) ta ts := ⟨upd_same, by omega, fun x hx => sz (bt x hx)⟩
      have hf := (hf.but hm7 b8).same s9
      have hfr := (hfr.but hm7 b8).same s9
      have M9 := M8.same s9
      have S9 := (sm_but nm S7 b8).trans s9
      generalize upd H8 ta (.tup (ts.map V.int)) = H9 at s9 ht hf hfr M9 S9 ⊢
      clear s9 b8 M7 M8 S7 d8 nD nta hm7
      have lx1 : 0 < xs.length := by omega
      refine ⟨.ref f, rfl, .ref m, rfl, .ref f, rfl, m, cc, f, _, xs, rfl, M9, by omega, hf, lx1, by omega, fun H10 v1 b10 M10 K1 => ?_⟩
      obtain ⟨kv9, hm9⟩ := M9.m_some
      obtain ⟨kv10, hm10⟩ := M10.m_some
      refine ⟨.ref m, rfl, .ref f, rfl, m, cc, f, _, xs, rfl, M10, by omega, hf.but hm9 b10, lx1, by omega, fun H11 v2 b11 M11 K2 => ?_⟩
      obtain ⟨kv11, hm11⟩ := M11.m_some
      refine ⟨.ref m, rfl, .ref f, rfl, m, cc, f, _, xs, rfl, M11, by omega, (hf.but hm9 b10).but hm10 b11, lx1, by omega, fun H12 v3 b12 M12 K3 => ⟨by show 4 ≤ sizeLine; decide, fun VL nVL => ?_⟩⟩
      have B12 := (b10.trans b11).trans b12
      have hf := hf.but hm9 B12
      have hfr := hfr.but hm9 B12
      have ht := ht.but hm9 B12
      have S12 := sm_but nm S9 B12
      have K1 := K1.but (b11.trans b12)
      have K2 := K2.but b12
      obtain ⟨kv12, hm12⟩ := M12.m_some
      have K0 : Kn m H12 (.ref f) := kn_row ⟨_, hm12⟩ hf
      have s13 : Same H12 (upd H12 VL (.lst [.ref f, v1, v2, v3])) := same_new nVL
      have gV : upd H12 VL (.lst [.ref f, v1, v2, v3]) VL = some (.lst [.ref f, v1, v2, v3]) := upd_same
      have KS : ∀ e ∈ [V.ref f, v1, v2, v3], Kn m (upd H12 VL (.lst [.ref f, v1, v2, v3])) e := fun e he => by
        simp only [List.mem_cons, List.not_mem_nil, or_false] at he
        rcases he with rfl | rfl | rfl | rfl
        · exact K0.but (SameBut.of s13)
        · exact K1.but (SameBut.of s13)
        · exact K2.but (SameBut.of s13)
        · exact K3.but (SameBut.of s13)
      have M13 := M12.same s13
      have hf := hf.same s13
      have hfr := hfr.same s13
      have ht := ht.same s13
      have S13 := S12.trans s13
      generalize hxs4 : ([V.ref f, v1, v2, v3] : List V) = vs4 at gV KS s13 M13 hf hfr ht S13 ⊢
      have l4 : vs4.length = 4 := by rw [← hxs4]; rfl
      generalize upd H12 VL (.lst vs4) = H13 at s13 gV KS M13 hf hfr ht S13 ⊢
      clear hxs4 K0 K1 K2 K3 B12 b10 b11 b12 M10 M11 M12 s13 S12 S9 M9 hm9 hm10 hm11 hm12 nVL
      refine ⟨VL, rfl, ⟨_, SqL.of gV⟩, ?_⟩
      refine for_it (walk_list (K := K) (a := VL) (xs := vs4)) (fun i' σ H' => (∃ y5 y15, σ = [some (.ref a0), some (.int (0 + i)), y2, some (.ref m), some (.ref ta), y5, y6, y7, y8, y9, y10, some (.int n), some (.int wd), some (.ref f), some (.ref fr), y15, y16, y17, y18]) ∧ Same H13 H') ⟨⟨y5, y15, rfl⟩, Same.refl _⟩ (fun i' σ H' _ p => SqL.of (p.2 _ _ gV)) ?_ ?_
      · rintro i' x σ H' H'' hi' ⟨⟨z5, z15, rfl⟩, sH⟩ ⟨rfl, hx⟩
        obtain ⟨wr, zw, jw, ji, jh⟩ := judge (n := n) (by omega) (KS _ (List.mem_of_getElem? hx))
        refine ⟨x, rfl, .int n, rfl, ?_⟩
        unfold tNil
        refine jw _ _ _ sH fun H14 s14 => ?_
        have S14 := sH.trans s14
        refine ⟨x, rfl, .int n, rfl, ?_⟩
        refine ji _ _ _ S14 fun H15 s15 => ?_
        refine ⟨x, rfl, .int n, rfl, ?_⟩
        refine jh _ _ _ (S14.trans s15) fun H16 s16 => ⟨by show 2 ≤ sizeLine; decide, fun L1 nL1 => ?_⟩
        have s17 : Same H16 (upd H16 L1 (.lst [.bl wr.isNone, rH wr])) := same_new nL1
        have g17 : upd H16 L1 (.lst [.bl wr.isNone, rH wr]) L1 = some (.lst [.bl wr.isNone, rH wr]) := upd_same
        have S17 := ((S14.trans s15).trans s16).trans s17
        generalize upd H16 L1 (.lst [.bl wr.isNone, rH wr]) = H17 at s17 g17 S17 ⊢
        have fin : ∀ L2, H17 L2 = none → spLike K [.ref L1, .ref L2] (upd H17 L2 (.lst [.bl wr.isNone, rH wr])) (fun v H2 => v = .bl true ∧ Same H13 H2) (fun _ _ _ => False) := fun L2 nL2 =>
          ⟨.ref L1, .ref L2, .list [.bool wr.isNone, dH wr], rfl, .lst (SqL.of (same_new nL2 _ _ g17)) (.cons (.bl _) (.cons (dp_rH wr) .nil)), .lst (SqL.of upd_same) (.cons (.bl _) (.cons (dp_rH wr) .nil)), fit_two zw, rfl, S17.trans (same_new nL2)⟩
        cases wr with
        | none =>
          refine ⟨.non, rfl, rfl, .non, rfl, rfl, _, rfl, iteT ⟨by show 2 ≤ sizeLine; decide, fun L2 nL2 => ?_⟩⟩
          obtain ⟨x1, y1', d, e, q1, q2, q3, _, q4⟩ := fin L2 nL2
          exact ⟨x1, y1', d, e, q1, q2, q3, _, rfl, iteF ⟨⟨_, _, rfl⟩, q4⟩⟩
        | some k =>
          refine ⟨.int k, rfl, rfl, .int k, rfl, rfl, _, rfl, iteF ⟨.int k, rfl, by show 2 ≤ sizeLine; decide, fun L2 nL2 => ?_⟩⟩
          obtain ⟨x1, y1', d, e, q1, q2, q3, _, q4⟩ := fin L2 nL2
          exact ⟨x1, y1', d, e, q1, q2, q3, _, rfl, iteF ⟨⟨_, _, rfl⟩, q4⟩⟩
      rintro σ H14 ⟨⟨z5, z15, rfl⟩, s14⟩
      have M14 := M13.same s14
      have hf := hf.same s14
      have hfr := hfr.same s14
      have ht := ht.same s14
      have S14 := S13.trans s14
      clear s14 gV KS M13 S13
      obtain ⟨c, cs, rfl⟩ : ∃ c cs, xs = c :: cs := by
        cases xs with
        | nil => exact absurd lx1 (by decide)
        | cons c cs => exact ⟨c, cs, rfl⟩
      have lcs : cs.length = n := by simpa using lf
      have n9 : n ≤ 9 := by omega
      have zf1 : ∀ x ∈ cs, SmZ 70 x := fun x hx => zf x (List.mem_cons_of_mem _ hx)
      have z300 : ∀ {x : Int}, SmZ 70 x → SmZ 300 x := fun h => smz_mono h (by decide)
      refine ⟨.ref m, rfl, m, cc, _, 21, rfl, M14, by omega, by omega, by decide, fun H15 kv' b15 M15 u0 u1 => ⟨kv', 10, rfl, rfl, ?_⟩⟩
      obtain ⟨kv14, hm14⟩ := M14.m_some
      have hf := hf.but hm14 b15
      have hfr := hfr.but hm14 b15
      have ht := ht.but hm14 b15
      have S15 := sm_but nm S14 b15
      obtain ⟨k, hk⟩ : ∃ k, k = kv' - 10 := ⟨_, rfl⟩
      show gName 6 (.int (kv' - 10)) _ H15 _
      rw [← hk]
      have zk : SmZ 10 k := smz_of (b := 20) (by omega) (by omega) (by decide)
      clear hk u0 u1 b15 S14 M14 hm14
      refine ⟨.int n, rfl, n, 1, rfl, rfl, (n : Int) + 1, rfl, by omega, by omega, fun D1 nD1 => ?_⟩
      have en1 : ((n : Int) + 1).toNat = n + 1 := by omega
      rw [en1]
      refine lc_to (walk_range (lo := 0) (n := n + 1)) ((List.zipWith (· + ·) (c :: cs) xr).map V.int) (by rw [List.length_map, List.length_zipWith, List.length_cons]; omega) (small (by omega)) nD1 (fun H' s => True.intro) ?_ ?_
      · rintro i' x y H0' H1' Qy hy hi' s0 ⟨rfl, rfl⟩ hq
        obtain ⟨z, hz, rfl⟩ := map_get hy
        obtain ⟨p, r, hp, hr', rfl⟩ := zip_get hz
        exact ⟨rfl, .ref f, rfl, .int (0 + i'), rfl, f, _, 0 + i', .int p, rfl, rfl, (hf.1.same s0).t, atI_at (i := i') (by omega) (get_map hp), .ref fr, rfl, .int (0 + i'), rfl, fr, _, 0 + i', .int r, rfl, rfl, (hfr.1.same s0).t, atI_at (i := i') (by omega) (get_map hr'), p, r, rfl, rfl, hq _ (Same.refl _)⟩
      intro H16 s16 d16
      refine ⟨D1, _, rfl, .inl ⟨SqL.of d16, fun a1 na1 => ?_⟩⟩
      have s17 : Same H16 (upd H16 a1 (.tup ((List.zipWith (· + ·) (c :: cs) xr).map V.int))) := same_new na1
      have t1 : Tp (upd H16 a1 (.tup ((List.zipWith (· + ·) (c :: cs) xr).map V.int))) a1 ((List.zipWith (· + ·) (c :: cs) xr).map V.int) := upd_same
      generalize upd H16 a1 (.tup ((List.zipWith (· + ·) (c :: cs) xr).map V.int)) = H17 at s17 t1 ⊢
      have s1517 := s16.trans s17
      refine ⟨.ref f, rfl, f, rfl, ⟨_, (hf.1.same s1517).t⟩, fun D2 nD2 => ?_⟩
      refine lc_to (walk_tup (K := K) (a := f) (xs := (c :: cs).map V.int)) (((c :: cs).map (k * ·)).map V.int) (by rw [List.length_map, List.length_map, List.length_map]) (by rw [List.length_map]; exact small hf.2.1) nD2 (fun H' s => ((hf.1.same s1517).same s).t) ?_ ?_
      · rintro i' x y H0' H1' Qy hy hi' s0 ⟨rfl, hx⟩ hq
        obtain ⟨z, hz, rfl⟩ := map_get hy
        obtain ⟨p, hp, rfl⟩ := map_get hz
        obtain ⟨p', hp', rfl⟩ := map_get hx
        obtain rfl := Option.some.inj (hp.symm.trans hp')
        exact ⟨rfl, .int k, rfl, .int p, rfl, k, p, rfl, rfl, Nat.lt_trans (wide (smz_mono zk (by decide)) (hf.2.2 _ (List.mem_of_getElem? hp))) (by decide), hq _ (Same.refl _)⟩
      intro H18 s18 d18
      refine ⟨D2, _, rfl, .inl ⟨SqL.of d18, fun a2 na2 => ⟨by show 2 ≤ sizeLine; decide, fun Ld nLd => ?_⟩⟩⟩
      have s19 : Same H18 (upd H18 a2 (.tup (((c :: cs).map (k * ·)).map V.int))) := same_new na2
      have t2 : Tp (upd H18 a2 (.tup (((c :: cs).map (k * ·)).map V.int))) a2 (((c :: cs).map (k * ·)).map V.int) := upd_same
      generalize upd H18 a2 (.tup (((c :: cs).map (k * ·)).map V.int)) = H19 at s19 t2 nLd ⊢
      have s20 : Same H19 (upd H19 Ld (.lst [.ref a1, .ref a2])) := same_new nLd
      have gd : upd H19 Ld (.lst [.ref a1, .ref a2]) Ld = some (.lst [.ref a1, .ref a2]) := upd_same
      generalize upd H19 Ld (.lst [.ref a1, .ref a2]) = H20 at s20 gd ⊢
      have s1520 := ((s1517.trans s18).trans s19).trans s20
      have t1 := ((t1.same s18).same s19).same s20
      have t2 := t2.same s20
      have hf := hf.same s1520
      have hfr := hfr.same s1520
      have ht := ht.same s1520
      have M20 := M15.same s1520
      have S20 := S15.trans s1520
      clear s16 s17 s18 s19 s20 d16 d18 nD1 nD2 na1 na2 nLd s1517 s1520 S15 M15
      refine ⟨.ref f, rfl, .ref fr, rfl, f, fr, c :: cs, xr, rfl, hf, hfr, by omega, fun r1 H21 s21 u1 => ?_⟩
      refine ⟨.ref f, rfl, .int k, rfl, f, k, c :: cs, rfl, hf.same s21, smz_mono zk (by decide), fun r2 H22 s22 u2 => ⟨by show 2 ≤ sizeLine; decide, fun L1 nL1 => ?_⟩⟩
      have s23 : Same H22 (upd H22 L1 (.lst [.ref r1, .ref r2])) := same_new nL1
      have g23 : upd H22 L1 (.lst [.ref r1, .ref r2]) L1 = some (.lst [.ref r1, .ref r2]) := upd_same
      generalize upd H22 L1 (.lst [.ref r1, .ref r2]) = H23 at s23 g23 ⊢
      have s2023 := (s21.trans s22).trans s23
      have fsum : ∀ x ∈ List.zipWith (· + ·) (c :: cs) xr, SmZ 1900 x := fun x hx => by
        obtain ⟨j', hj'⟩ := List.getElem?_of_mem hx
        obtain ⟨p, r, hp, hr', rfl⟩ := zip_get hj'
        have q1 := hf.2.2 _ (List.mem_of_getElem? hp)
        have q2 := hfr.2.2 _ (List.mem_of_getElem? hr')
        unfold SmZ at *
        have := Int.natAbs_add_le p r
        exact Nat.lt_of_lt_of_le (show (p + r).natAbs < 2 ^ 300 + 2 ^ 300 by omega) (by decide)
      have fmul : ∀ x ∈ (c :: cs).map (k * ·), SmZ 1900 x := fun x hx => by
        obtain ⟨p, hp, rfl⟩ := List.mem_map.mp hx
        have q1 := hf.2.2 _ hp
        unfold SmZ at *
        show (k * p).natAbs < _
        rw [Int.natAbs_mul]
        have z : k.natAbs * p.natAbs ≤ 2 ^ 10 * 2 ^ 300 := nat_mul_le (Nat.le_of_lt zk) (Nat.le_of_lt q1)
        exact Nat.lt_of_le_of_lt z (by decide)
      refine ⟨.ref Ld, rfl, .ref L1, .ref Ld, .list [dRow (List.zipWith (· + ·) (c :: cs) xr), dRow ((c :: cs).map (k * ·))], rfl, .lst (SqL.of g23) (.cons (Tp.dp ((u1.same s22).same s23)) (.cons (Tp.dp (u2.same s23)) .nil)), .lst (SqL.of (s2023 _ _ gd)) (.cons (Tp.dp (t1.same s2023)) (.cons (Tp.dp (t2.same s2023)) .nil)), ?_, _, rfl, iteF ?_⟩
      · exact FitN.mono (FitN.list (k := 1) (n := 202) (.cons (a := 100) (b := 101) (fit_row (by rw [List.length_zipWith, List.length_cons]; omega) fsum) (.cons (a := 100) (b := 0) (fit_row (by rw [List.length_map]; exact hf.2.1) fmul) .nil (by decide)) (by decide))) (by decide) (by decide)
      have hf := hf.same s2023
      have hfr := hfr.same s2023
      have ht := ht.same s2023
      have M23 := M20.same s2023
      have S23 := S20.trans s2023
      clear s21 s22 s23 u1 u2 g23 s2023 t1 t2 gd fsum fmul nL1 M20 S20
      have a70 : ∀ {x : Int}, SmZ 70 x → x.natAbs ≤ 2 ^ 70 := fun h => Nat.le_of_lt h
      have t20 : ∀ x ∈ ts, x.natAbs ≤ 20 := fun x hx => by
        have := bt x hx
        omega
      have zval : SmZ 1900 (c + dot cs ts) := Nat.lt_of_le_of_lt (val_le (c :: cs) ts (fun x hx => a70 (zf x hx)) t20) (Nat.lt_of_le_of_lt (show _ ≤ 2 ^ 70 + 100 * (2 ^ 70 * 20) by have := hf.2.1; exact Nat.add_le_add_left (Nat.mul_le_mul_right _ this) _) (by decide))
      refine ⟨.ref f, rfl, .ref ta, rfl, f, ta, c, cs, ts, rfl, hf, ht, by omega, fun H24 s24 => ⟨.ref f, rfl, .ref ta, rfl, f, ta, c, cs, ts, rfl, hf.same s24, ht.same s24, by omega, fun H25 s25 => ?_⟩⟩
      refine ⟨.int (c + dot cs ts), .int (c + dot cs ts), .int (c + dot cs ts), rfl, .int _, .int _, FitN.int zval, _, rfl, iteF ?_⟩
      have s2325 := s24.trans s25
      have hf := hf.same s2325
      have M25 := M23.same s2325
      have S25 := S23.trans s2325
      clear s24 s25 s2325 ht zval t20 M23 S23 hfr
      refine ⟨.int n, rfl, (n : Int), rfl, by omega, by omega, fun D3 nD3 => ?_⟩
      rw [Int.toNat_natCast]
      have wd5 : wd ≤ 4 := by omega
      refine lc_rows (n := n) (wd := wd) (m := m) (c := cc) (small (by omega)) M25 nD3 ?_ ?_
      · intro i' H' Qy hi' M' hQ
        have hmul : i' * (wd + 2) ≤ 9 * 6 := Nat.mul_le_mul (by omega) (by omega)
        refine ⟨rfl, .ref m, rfl, .int wd, rfl, m, cc, wd, _, rfl, M', by omega, by omega, fun H4 p zs b4 M4 np hp zp lp => hQ H4 p zs b4 (M4.mono ?_) hp zp lp⟩
        rw [Nat.succ_mul]
        omega
      intro H26 ps rows b26 M26 d26 lps hR zR
      obtain ⟨kv25, hm25⟩ := M25.m_some
      refine ⟨D3, _, rfl, .inl ⟨SqL.of d26, fun af naf => ?_⟩⟩
      have s27 : Same H26 (upd H26 af (.tup (ps.map V.ref))) := same_new naf
      have haf : Tp (upd H26 af (.tup (ps.map V.ref))) af (ps.map V.ref) := upd_same
      have hf := (hf.but hm25 b26).same s27
      have hR := hR.same s27
      have M27 := M26.same s27
      have S27 := (sm_but nm S25 b26).trans s27
      generalize upd H26 af (.tup (ps.map V.ref)) = H27 at s27 haf hf hR M27 S27 ⊢
      have hmul : n * (wd + 2) ≤ 9 * 6 := Nat.mul_le_mul (by omega) (by omega)
      clear s27 b26 M25 M26 S25 d26 nD3 naf hm25
      refine ⟨.int wd, rfl, (wd : Int), rfl, by omega, by omega, fun D4 nD4 => ?_⟩
      rw [Int.toNat_natCast]
      refine lc_drawn (n := wd) (m := m) (c := cc) (-20) 20 (small (by omega)) M27 nD4 ?_ ?_
      · intro i' H' Qy hi' M' hQ
        exact ⟨rfl, .ref m, rfl, m, cc, _, 41, rfl, M', by omega, by omega, by decide, fun H4 v b4 M4 v0 v1 => ⟨v, 20, rfl, rfl, hQ H4 _ b4 M4 (by omega) (by omega)⟩⟩
      intro H28 tt b28 M28 d28 ltt btt
      obtain ⟨kv27, hm27⟩ := M27.m_some
      refine ⟨D4, _, rfl, .inl ⟨SqL.of d28, fun tb ntb => ?_⟩⟩
      have s29 : Same H28 (upd H28 tb (.tup (tt.map V.int))) := same_new ntb
      have htb : Row (upd H28 tb (.tup (tt.map V.int))) tb tt := ⟨upd_same, by omega, fun x hx => sz (btt x hx)⟩
      have hf := (hf.but hm27 b28).same s29
      have haf := (haf.but hm27 b28).same s29
      have hR := (hR.but hm27 b28).same s29
      have M29 := M28.same s29
      have S29 := (sm_but nm S27 b28).trans s29
      generalize upd H28 tb (.tup (tt.map V.int)) = H29 at s29 htb hf haf hR M29 S29 ⊢
      clear s29 b28 M27 M28 S27 d28 nD4 ntb hm27
      have lrow : cs.length = rows.length := by rw [lcs, ← hR.1, lps]
      have hrl : ∀ (i : Nat) (r : List Int), rows[i]? = some r → r.length = wd + 1 := fun i r hr => by
        have hi : i < rows.length := (List.getElem?_eq_some_iff.mp hr).1
        have hp : i < ps.length := by rw [hR.1]; exact hi
        exact (hR.2 i ps[i] r (List.getElem?_eq_getElem hp) hr).2
      have lT : (putI c cs rows wd cs.length).length = wd + 1 := putI_len hrl _ (by omega)
      have bT : ∀ x ∈ putI c cs rows wd cs.length, x.natAbs ≤ 2 ^ 70 + 9 * (2 ^ 70 * 2 ^ 70) := fun x hx => by
        have q1 := putI_le (c := c) (cs := cs) (rows := rows) (n := wd) (A := 2 ^ 70) (a70 (zf c List.mem_cons_self)) (fun x hx => a70 (zf1 x hx)) (fun r hr x hx => a70 (zR r hr x hx)) cs.length x hx
        exact Nat.le_trans q1 (Nat.add_le_add_left (Nat.mul_le_mul_right _ (by omega)) _)
      have zT : ∀ x ∈ putI c cs rows wd cs.length, SmZ 300 x := fun x hx => Nat.lt_of_le_of_lt (bT x hx) (by decide)
      refine ⟨.ref f, rfl, .ref af, rfl, .int wd, rfl, f, af, wd, c, cs, ps, rows, rfl, by omega, hf, haf, hR, lrow, fun tld H30 s30 u1 => ?_⟩
      refine ⟨.ref tld, rfl, .ref f, rfl, .ref af, rfl, .int wd, rfl, f, af, wd, c, cs, ps, rows, rfl, by omega, hf.same s30, haf.same s30, hR.same s30, lrow, fun tl2 H31 s31 u2 => ?_⟩
      refine ⟨.ref tld, .ref tl2, dRow (putI c cs rows wd cs.length), rfl, Tp.dp (u1.same s31), Tp.dp u2, FitN.mono (fit_row (by omega) fun x hx => smz_mono (zT x hx) (by decide)) (by decide) (by decide), _, rfl, iteF ?_⟩
      have s2931 := s30.trans s31
      have hT : Row H31 tld (putI c cs rows wd cs.length) := ⟨u1.same s31, by omega, zT⟩
      have hf := hf.same s2931
      have haf := haf.same s2931
      have hR := hR.same s2931
      have htb := htb.same s2931
      have M31 := M29.same s2931
      have S31 := S29.trans s2931
      have valT := val_putI (c := c) (cs := cs) (rows := rows) (n := wd) (t := tt) hrl lrow ltt cs.length (Nat.le_refl _)
      rw [List.take_length, lrow, List.take_length, ← lrow] at valT
      clear s30 s31 u1 u2 s2931 M29 S29 bT zT
      generalize putI c cs rows wd cs.length = T at hT lT valT ⊢
      obtain ⟨c2, cs2, rfl⟩ : ∃ c2 cs2, T = c2 :: cs2 := by
        cases T with
        | nil => exact absurd lT (by simp)
        | cons c2 cs2 => exact ⟨c2, cs2, rfl⟩
      refine ⟨.ref tld, rfl, .ref tb, rfl, tld, tb, c2, cs2, tt, rfl, hT, htb, by simp only [List.length_cons] at lT; omega, fun H32 s32 => ?_⟩
      refine ⟨.ref f, rfl, .ref af, rfl, af, rfl, ⟨_, (haf.same s32).t⟩, fun D5 nD5 => ?_⟩
      refine lc_to (walk_tup (K := K) (a := af) (xs := ps.map V.ref)) ((rows.map fun r => val r tt).map V.int) (by rw [List.length_map, List.length_map, List.length_map, hR.1]) (by rw [List.length_map, lps]; exact small (by omega)) nD5 (fun H' s => ((haf.same s32).same s).t) ?_ ?_
      · rintro i' x y H0' H1' Qy hy hi' s0 ⟨rfl, hx⟩ hq
        obtain ⟨z, hz, rfl⟩ := map_get hy
        obtain ⟨r, hr', rfl⟩ := map_get hz
        obtain ⟨p, hp, rfl⟩ := map_get hx
        obtain ⟨q1, q2⟩ := hR.2 i' p r hp hr'
        obtain ⟨c3, cs3, rfl⟩ : ∃ c3 cs3, r = c3 :: cs3 := by
          cases r with
          | nil => exact absurd q2 (by simp)
          | cons c3 cs3 => exact ⟨c3, cs3, rfl⟩
        exact ⟨rfl, .ref p, rfl, .ref tb, rfl, p, tb, c3, cs3, tt, rfl, (q1.same s32).same s0, (htb.same s32).same s0, by simp only [List.length_cons] at q2; omega, fun H4 s4 => hq _ s4⟩
      intro H33 s33 d33
      refine ⟨D5, _, rfl, .inl ⟨SqL.of d33, fun tv ntv => ?_⟩⟩
      have s34 : Same H33 (upd H33 tv (.tup ((rows.map fun r => val r tt).map V.int))) := same_new ntv
      have zV : ∀ x ∈ rows.map fun r => val r tt, SmZ 300 x := fun x hx => by
        obtain ⟨r, hr', rfl⟩ := List.mem_map.mp hx
        have lr : r.length ≤ 5 := by
          obtain ⟨i', hi'⟩ := List.getElem?_of_mem hr'
          have := hrl i' r hi'
          omega
        have q1 := val_le (A := 2 ^ 70) (B := 20) r tt (fun x hx => a70 (zR r hr' x hx)) fun y hy => by
          have := btt y hy
          omega
        exact Nat.lt_of_le_of_lt (Nat.le_trans q1 (Nat.add_le_add_left (Nat.mul_le_mul_right _ lr) _)) (by decide)
      have hv : Row (upd H33 tv (.tup ((rows.map fun r => val r tt).map V.int))) tv (rows.map fun r => val r tt) := ⟨upd_same, by rw [List.length_map]; omega, zV⟩
      have s3134 := (s32.trans s33).trans s34
      generalize upd H33 tv (.tup ((rows.map fun r => val r tt).map V.int)) = H34 at s34 hv s3134 ⊢
      refine ⟨f, tv, c, cs, _, rfl, hf.same s3134, hv, by rw [List.length_map]; omega, fun H35 s35 => ?_⟩
      have eqv : c2 + dot cs2 tt = c + dot cs (rows.map fun r => val r tt) := valT
      refine ⟨rfl, _, rfl, iteF2 (by rw [eqv, decide_eq_true rfl]; rfl) ?_⟩
      have s3135 := s3134.trans s35
      have hf := hf.same s3135
      have M35 := M31.same s3135
      have S35 := S31.trans s3135
      clear s32 s33 s34 s35 s3134 s3135 hv zV d33 ntv nD5 hT htb haf hR M31 S31 valT eqv hrl zR lrow lT
      refine ⟨.ref f, rfl, f, _, 0, .int c, rfl, rfl, hf.1.t, atI_nat (j := 0) rfl, by show 1 ≤ sizeLine; decide, fun p1 np1 => ?_⟩
      have s36 : Same H35 (upd H35 p1 (.lst [.int c])) := same_new np1
      have g36 : upd H35 p1 (.lst [.int c]) p1 = some (.lst [.int c]) := upd_same
      generalize upd H35 p1 (.lst [.int c]) = H36 at s36 g36 ⊢
      refine ⟨.ref f, rfl, 1, rfl, ?_⟩
      unfold tNoPart
      refine slice_tp (hf.1.same s36) fun rr H37 s37 hrr => ?_
      rw [List.map_cons, cut1] at hrr
      have s3537 := s36.trans s37
      have M37 := M35.same s3537
      have S37 := S35.trans s3537
      have hf := hf.same s3537
      have g37 := s37 _ _ g36
      clear s36 s37 g36 np1 s3537 M35 S35
      refine ⟨rr, rfl, ⟨_, hrr.t⟩, fun D6 nD6 => ?_⟩
      have lcv : (cs.map V.int).length = n := by rw [List.length_map, lcs]
      refine lc_drawnT (K := K) (r := rr) (vsx := cs.map V.int) (m := m) (c := cc) (-12) 12 (by rw [lcv]; exact small (by omega)) M37 hrr nD6 ?_ ?_
      · intro i' x H' Qy hx M' hQ
        have hi' : i' < n := by
          have := (List.getElem?_eq_some_iff.mp hx).1
          omega
        obtain ⟨e, he, rfl⟩ := map_get hx
        refine ⟨rfl, .ref m, rfl, by show 3 ≤ sizeLine; decide, fun L nL => ?_⟩
        refine ⟨m, cc, L, _, _, rfl, M'.same (same_new nL), by omega, upd_same, by show 0 < 3; decide, by show 3 ≤ 100; decide, fun H4 v b4 M4 hv => ?_⟩
        obtain ⟨w1, rfl, hw⟩ : ∃ w1 : Int, v = .int w1 ∧ (w1 = 2 ∨ w1 = 6) := by
          simp only [List.mem_cons, List.not_mem_nil, or_false] at hv
          rcases hv with rfl | rfl | rfl
          · exact ⟨2, rfl, .inl rfl⟩
          · exact ⟨6, rfl, .inr rfl⟩
          · exact ⟨6, rfl, .inr rfl⟩
        obtain ⟨p1', p2', p3', p4'⟩ := mod_prod (e := e) hw
        exact ⟨.int e, rfl, e, 5, rfl, rfl, (by show (5 : Int) ≠ 0; decide), Int.fmod e 5, 2, rfl, rfl, w1, Int.fmod e 5 - 2, rfl, rfl, Nat.lt_trans (wide p3' p4') (by decide), hQ H4 _ ((SameBut.of (same_new nL)).trans b4) M4 p1' p2'⟩
      intro H38 zs b38 M38 d38 lzs bzs
      rw [lcv] at lzs
      obtain ⟨kv37, hm37⟩ := M37.m_some
      have g38 : H38 p1 = some (.lst [.int c]) := b38 _ _ (ne_of g37 hm37 (by intro z; cases z)) g37
      have hf := hf.but hm37 b38
      have S38 := sm_but nm S37 b38
      clear g37 M37 S37 hrr nD6 hm37 b38
      refine ⟨p1, D6, [.int c], _, rfl, rfl, g38, d38, by rw [List.length_map]; exact Nat.le_of_lt (small (by show 1 + zs.length ≤ 100; omega)), fun p2 np2 => ?_⟩
      have s39 : Same H38 (upd H38 p2 (.lst ([.int c] ++ zs.map V.int))) := same_new np2
      refine ⟨p2, _, rfl, .inl ⟨SqL.of upd_same, fun th nth => ?_⟩⟩
      have s40 := s39.trans (same_new (o := .tup ([.int c] ++ zs.map V.int)) nth)
      have zz : ∀ x ∈ c :: zs, SmZ 300 x := fun x hx => by
        rcases List.mem_cons.mp hx with rfl | hx
        · exact z300 (zf _ List.mem_cons_self)
        · exact smz_of (b := 12) (bzs x hx).1 (bzs x hx).2 (by decide)
      have hth : Row (upd (upd H38 p2 (.lst ([.int c] ++ zs.map V.int))) th (.tup ([.int c] ++ zs.map V.int))) th (c :: zs) := ⟨upd_same, by rw [List.length_cons]; omega, zz⟩
      have hf := hf.same s40
      have M40 := M38.same s40
      have S40 := S38.trans s40
      generalize upd (upd H38 p2 (.lst ([.int c] ++ zs.map V.int))) th (.tup ([.int c] ++ zs.map V.int)) = H40 at s40 hth hf M40 S40 ⊢
      clear s39 s40 nth np2 M38 S38 g38 d38 bzs
      refine ⟨.ref th, rfl, th, c, zs, rfl, hth, fun tl H41 s41 u1 => ?_⟩
      refine ⟨.ref tl, rfl, .ref f, rfl, f, c, cs, rfl, hf.same s41, fun l2 H42 s42 u2 => ⟨by show 2 ≤ sizeLine; decide, fun L1 nL1 => ?_⟩⟩
      have s43 : Same H42 (upd H42 L1 (.lst [.ref tl, .ref l2])) := same_new nL1
      have g43 : upd H42 L1 (.lst [.ref tl, .ref l2]) L1 = some (.lst [.ref tl, .ref l2]) := upd_same
      generalize upd H42 L1 (.lst [.ref tl, .ref l2]) = H43 at s43 g43 ⊢
      have s4043 := (s41.trans s42).trans s43
      refine ⟨.ref th, rfl, th, c, zs, rfl, hth.same s4043, fun l3 H44 s44 u3 => ⟨.ref f, rfl, f, c, cs, rfl, (hf.same s4043).same s44, fun l4 H45 s45 u4 => ⟨by show 2 ≤ sizeLine; decide, fun L2 nL2 => ?_⟩⟩⟩
      have s46 : Same H45 (upd H45 L2 (.lst [.ref l3, .ref l4])) := same_new nL2
      have g46 : upd H45 L2 (.lst [.ref l3, .ref l4]) L2 = some (.lst [.ref l3, .ref l4]) := upd_same
      generalize upd H45 L2 (.lst [.ref l3, .ref l4]) = H46 at s46 g46 ⊢
      have s4346 := (s44.trans s45).trans s46
      have ztl := low_small (n := 300) zz
      refine ⟨.ref L1, .ref L2, .list [dRow (lowL (c :: zs)), dRow (lowL (c :: cs))], rfl, .lst (SqL.of (s4346 _ _ g43)) (.cons (Tp.dp (((u1.same s42).same s43).same s4346)) (.cons (Tp.dp ((u2.same s43).same s4346)) .nil)), .lst (SqL.of g46) (.cons (Tp.dp ((u3.same s45).same s46)) (.cons (Tp.dp (u4.same s46)) .nil)), ?_, _, rfl, iteF ?_⟩
      · refine FitN.mono (FitN.list (k := 1) (n := 202) (.cons (a := 100) (b := 101) (fit_row (by rw [low_len]; omega) fun x hx => smz_mono (ztl x hx) (by decide)) (.cons (a := 100) (b := 0) (fit_row (by rw [low_len]; omega) fun x hx => smz_mono (low_small (n := 300) (fun x hx => z300 (zf x hx)) x hx) (by decide)) .nil (by decide)) (by decide))) (by decide) (by decide)
      have s4046 := s4043.trans s4346
      have htl : Row H46 tl (lowL (c :: zs)) := ⟨((u1.same s42).same s43).same s4346, by rw [low_len]; omega, ztl⟩
      have hth := hth.same s4046
      have M46 := M40.same s4046
      have S46 := S40.trans s4046
      clear s41 s42 s43 s44 s45 s46 s4043 s4346 s4046 u1 u2 u3 u4 g43 g46 nL1 nL2 M40 S40 hf ztl
      refine ⟨.int n, rfl, (n : Int), rfl, by omega, by omega, fun D7 nD7 => ?_⟩
      rw [Int.toNat_natCast]
      refine lc_drawn (n := n) (m := m) (c := cc) (-10) 10 (small (by omega)) M46 nD7 ?_ ?_
      · intro i' H' Qy hi' M' hQ
        exact ⟨rfl, .ref m, rfl, m, cc, _, 21, rfl, M', by omega, by omega, by decide, fun H4 v b4 M4 v0 v1 => ⟨v, 10, rfl, rfl, hQ H4 _ b4 M4 (by omega) (by omega)⟩⟩
      intro H47 tu b47 M47 d47 ltu btu
      obtain ⟨kv46, hm46⟩ := M46.m_some
      refine ⟨D7, _, rfl, .inl ⟨SqL.of d47, fun tc ntc => ?_⟩⟩
      have s48 : Same H47 (upd H47 tc (.tup (tu.map V.int))) := same_new ntc
      have htc : Row (upd H47 tc (.tup (tu.map V.int))) tc tu := ⟨upd_same, by omega, fun x hx => sz (by have := btu x hx; omega)⟩
      have htl := (htl.but hm46 b47).same s48
      have hth := (hth.but hm46 b47).same s48
      have S48 := (sm_but nm S46 b47).trans s48
      generalize upd H47 tc (.tup (tu.map V.int)) = H48 at s48 htc htl hth S48 ⊢
      have sgn := low_sign c zs tu
      have lll := low_len c zs
      clear s48 b47 M46 M47 S46 d47 nD7 ntc hm46
      generalize lowL (c :: zs) = LL at htl sgn lll
      obtain ⟨c6, cs6, rfl⟩ : ∃ c6 cs6, LL = c6 :: cs6 := by
        cases LL with
        | nil => exact absurd lll (by simp)
        | cons c6 cs6 => exact ⟨c6, cs6, rfl⟩
      refine ⟨.ref tl, rfl, .ref tc, rfl, tl, tc, c6, cs6, tu, rfl, htl, htc, by simp only [List.length_cons] at lll; omega, fun H49 s49 => ?_⟩
      refine ⟨c6 + dot cs6 tu, 0, rfl, rfl, .ref th, rfl, .ref tc, rfl, th, tc, c, zs, tu, rfl, hth.same s49, htc.same s49, by omega, fun H50 s50 => ?_⟩
      have sgn2 : (0 ≤ c6 + dot cs6 tu) ↔ (0 ≤ c + dot zs tu) := sgn
      refine ⟨c + dot zs tu, 0, rfl, rfl, rfl, _, rfl, iteF2 ?_ ?_⟩
      · have e1 : decide (0 ≤ c6 + dot cs6 tu) = decide (0 ≤ c + dot zs tu) := decide_eq_decide.mpr sgn2
        show (!decide (V.bl (decide (0 ≤ c6 + dot cs6 tu)) = V.bl (decide (0 ≤ c + dot zs tu)))) = false
        rw [e1, decide_eq_true rfl]
        rfl
      · exact ⟨⟨_, _, _, _, _, _, _, _, _, _, _, _, _, _, _, _, _, _, rfl⟩, sql_same hS0 ((S48.trans s49).trans s50)⟩
    · rintro σ H' ⟨⟨y1, y2, y3, y4, y5, y6, y7, y8, y9, y10, y11, y12, y13, y14, y15, y16, y17, y18, rfl⟩, _⟩
      clear hS j0 j1
      refine ⟨6, rfl, by show 3 ≤ sizeLine; decide, fun p1 np1 => ?_⟩
      have sp1 : Same H' (upd H' p1 (.tup [.int 7, .int 4, .int (-6)])) := same_new np1
      have gp1 : Tp (upd H' p1 (.tup [.int 7, .int 4, .int (-6)])) p1 ([(7 : Int), 4, -6].map V.int) := upd_same
      generalize upd H' p1 (.tup [.int 7, .int 4, .int (-6)]) = A1 at sp1 gp1 ⊢
      refine ⟨p1, 7, [4, (-6)], rfl, rowc [(7 : Int), 4, -6] (by decide) (by decide) gp1, fun r1 B1 sb1 u1 => ?_⟩
      have u1 := tp_to (ys := [(3 : Int), 2, -3]) (by decide) u1
      refine ⟨7, rfl, 6, rfl, by show 3 ≤ sizeLine; decide, fun p2 np2 => ?_⟩
      have sp2 : Same B1 (upd B1 p2 (.tup [.int (-7), .int 4, .int (-6)])) := same_new np2
      have gp2 : Tp (upd B1 p2 (.tup [.int (-7), .int 4, .int (-6)])) p2 ([(-7 : Int), 4, -6].map V.int) := upd_same
      generalize upd B1 p2 (.tup [.int (-7), .int 4, .int (-6)]) = A2 at sp2 gp2 ⊢
      refine ⟨p2, (-7), [4, (-6)], rfl, rowc [(-7 : Int), 4, -6] (by decide) (by decide) gp2, fun r2 B2 sb2 u2 => ?_⟩
      have u2 := tp_to (ys := [(-4 : Int), 2, -3]) (by decide) u2
      refine ⟨by show 2 ≤ sizeLine; decide, fun p3 np3 => ?_⟩
      have sp3 : Same B2 (upd B2 p3 (.tup [.int 5, .int 0])) := same_new np3
      have gp3 : Tp (upd B2 p3 (.tup [.int 5, .int 0])) p3 ([(5 : Int), 0].map V.int) := upd_same
      generalize upd B2 p3 (.tup [.int 5, .int 0]) = A3 at sp3 gp3 ⊢
      refine ⟨p3, 5, [0], rfl, rowc [(5 : Int), 0] (by decide) (by decide) gp3, fun r3 B3 sb3 u3 => ?_⟩
      have u3 := tp_to (ys := [(5 : Int), 0]) (by decide) u3
      refine ⟨1, rfl, by show 1 ≤ sizeLine; decide, fun p4 np4 => ?_⟩
      have sp4 : Same B3 (upd B3 p4 (.tup [.int (-1)])) := same_new np4
      have gp4 : Tp (upd B3 p4 (.tup [.int (-1)])) p4 ([(-1 : Int)].map V.int) := upd_same
      generalize upd B3 p4 (.tup [.int (-1)]) = A4 at sp4 gp4 ⊢
      refine ⟨p4, (-1), [], rfl, rowc [(-1 : Int)] (by decide) (by decide) gp4, fun r4 B4 sb4 u4 => ?_⟩
      have u4 := tp_to (ys := [(-1 : Int)]) (by decide) u4
      refine ⟨3, rfl, by show 2 ≤ sizeLine; decide, fun p5 np5 => ?_⟩
      have sp5 : Same B4 (upd B4 p5 (.tup [.int 3, .int (-3)])) := same_new np5
      have gp5 : Tp (upd B4 p5 (.tup [.int 3, .int (-3)])) p5 ([(3 : Int), -3].map V.int) := upd_same
      generalize upd B4 p5 (.tup [.int 3, .int (-3)]) = A5 at sp5 gp5 ⊢
      refine ⟨p5, 3, [(-3)], rfl, rowc [(3 : Int), -3] (by decide) (by decide) gp5, fun r5 B5 sb5 u5 => ?_⟩
      have u5 := tp_to (ys := [(1 : Int), -1]) (by decide) u5
      refine ⟨by show 1 ≤ sizeLine; decide, fun p6 np6 => ?_⟩
      have sp6 : Same B5 (upd B5 p6 (.tup [.int 4])) := same_new np6
      have gp6 : Tp (upd B5 p6 (.tup [.int 4])) p6 ([(4 : Int)].map V.int) := upd_same
      generalize upd B5 p6 (.tup [.int 4]) = A6 at sp6 gp6 ⊢
      refine ⟨by show 0 ≤ sizeLine; decide, fun p7 np7 => ?_⟩
      have sp7 : Same A6 (upd A6 p7 (.tup [])) := same_new np7
      have gp7 : Tp (upd A6 p7 (.tup [])) p7 [] := upd_same
      generalize upd A6 p7 (.tup []) = A7 at sp7 gp7 ⊢
      refine ⟨p6, p7, 2, 4, [], [], [], rfl, by decide, rowc [(4 : Int)] (by decide) (by decide) (gp6.same sp7), gp7, ⟨rfl, fun i p r h => by cases h⟩, rfl, fun r6 B6 sb6 u6 => ?_⟩
      have u6 := tp_to (ys := [(4 : Int), 0, 0]) (by decide) u6
      refine ⟨by show 6 ≤ sizeLine; decide, fun S nS => ?_⟩
      have sS : Same B6 (upd B6 S (.lst [.ref r1, .ref r2, .ref r3, .ref r4, .ref r5, .ref r6])) := same_new nS
      have gS : upd B6 S (.lst [.ref r1, .ref r2, .ref r3, .ref r4, .ref r5, .ref r6]) S = some (.lst [.ref r1, .ref r2, .ref r3, .ref r4, .ref r5, .ref r6]) := upd_same
      generalize upd B6 S (.lst [.ref r1, .ref r2, .ref r3, .ref r4, .ref r5, .ref r6]) = C0 at sS gS ⊢
      have w5 := (sp6.trans sp7).trans (sb6.trans sS)
      have w4 := (sp5.trans sb5).trans w5
      have w3 := (sp4.trans sb4).trans w4
      have w2 := (sp3.trans sb3).trans w3
      have w1 := (sp2.trans sb2).trans w2
      have u1 := u1.same w1
      have u2 := u2.same w2
      have u3 := u3.same w3
      have u4 := u4.same w4
      have u5 := u5.same w5
      have u6 := u6.same sS
      clear w1 w2 w3 w4 w5 sS sp1 sp2 sp3 sp4 sp5 sp6 sp7 sb1 sb2 sb3 sb4 sb5 sb6 gp1 gp2 gp3 gp4 gp5 gp6 gp7 np1 np2 np3 np4 np5 np6 np7 nS
      refine ⟨.ref S, rfl, by show 2 ≤ sizeLine; decide, fun e1 ne1 => ?_⟩
      have se1 : Same C0 (upd C0 e1 (.tup [.int 1, .bl true])) := same_new ne1
      have ge1 : Tp (upd C0 e1 (.tup [.int 1, .bl true])) e1 [.int 1, .bl true] := upd_same
      generalize upd C0 e1 (.tup [.int 1, .bl true]) = C1 at se1 ge1 ⊢
      refine ⟨.ref e1, 1, rfl, .inr ⟨e1, [.int 1, .bl true], rfl, ge1, by decide, ?_, fun C2 sc2 => ?_⟩⟩
      · intro e he
        simp only [List.mem_cons, List.not_mem_nil, or_false] at he
        rcases he with rfl | rfl
        · exact ⟨_, .int _⟩
        · exact ⟨_, .bl _⟩
      have ew1 : wrongOf 1 [.int 1, .bl true] = some 1 := rfl
      rw [ew1]
      refine ⟨by show 1 ≤ sizeLine; decide, fun e2 ne2 => ?_⟩
      have se2 : Same C2 (upd C2 e2 (.tup [.int 1])) := same_new ne2
      have ge2 : Tp (upd C2 e2 (.tup [.int 1])) e2 [.int 1] := upd_same
      generalize upd C2 e2 (.tup [.int 1]) = C3 at se2 ge2 ⊢
      refine ⟨.ref e2, 1, rfl, .inr ⟨e2, [.int 1], rfl, ge2, by decide, ?_, fun C4 sc4 => ?_⟩⟩
      · intro e he
        rw [List.mem_singleton] at he
        subst he
        exact ⟨_, .int _⟩
      have ew2 : wrongOf 1 [.int 1] = some (-1) := rfl
      rw [ew2]
      refine ⟨by show 2 ≤ sizeLine; decide, fun S2 nS2 => ?_⟩
      have sS2 : Same C4 (upd C4 S2 (.lst [.int 1, .int (-1)])) := same_new nS2
      have gS2 : upd C4 S2 (.lst [.int 1, .int (-1)]) S2 = some (.lst [.int 1, .int (-1)]) := upd_same
      generalize upd C4 S2 (.lst [.int 1, .int (-1)]) = C5 at sS2 gS2 ⊢
      have sC := (((se1.trans sc2).trans se2).trans sc4).trans sS2
      refine ⟨S, S2, _, _, rfl, rfl, sC _ _ gS, gS2, by show 8 ≤ sizeLine; decide, fun S3 nS3 => ?_⟩
      have sS3 : Same C5 (upd C5 S3 (.lst ([.ref r1, .ref r2, .ref r3, .ref r4, .ref r5, .ref r6] ++ [.int 1, .int (-1)]))) := same_new nS3
      have gS3 : upd C5 S3 (.lst ([.ref r1, .ref r2, .ref r3, .ref r4, .ref r5, .ref r6] ++ [.int 1, .int (-1)])) S3 = some (.lst ([.ref r1, .ref r2, .ref r3, .ref r4, .ref r5, .ref r6] ++ [.int 1, .int (-1)])) := upd_same
      generalize upd C5 S3 (.lst ([.ref r1, .ref r2, .ref r3, .ref r4, .ref r5, .ref r6] ++ [.int 1, .int (-1)])) = E0 at sS3 gS3 ⊢
      have sE := sC.trans sS3
      have u1 := u1.same sE
      have u2 := u2.same sE
      have u3 := u3.same sE
      have u4 := u4.same sE
      have u5 := u5.same sE
      have u6 := u6.same sE
      clear sE sC sS3 sS2 se1 se2 sc2 sc4 ge1 ge2 ne1 ne2 gS gS2 nS2 nS3
      refine ⟨.ref S3, rfl, ?_⟩
      refine ⟨3, rfl, by show 3 ≤ sizeLine; decide, fun q1 nq1 => ?_⟩
      have sq1 : Same E0 (upd E0 q1 (.tup [.int 3, .int 2, .int (-3)])) := same_new nq1
      have gq1 : Tp (upd E0 q1 (.tup [.int 3, .int 2, .int (-3)])) q1 ([(3 : Int), 2, -3].map V.int) := upd_same
      generalize upd E0 q1 (.tup [.int 3, .int 2, .int (-3)]) = E1 at sq1 gq1 ⊢
      refine ⟨4, rfl, 3, rfl, by show 3 ≤ sizeLine; decide, fun q2 nq2 => ?_⟩
      have sq2 : Same E1 (upd E1 q2 (.tup [.int (-4), .int 2, .int (-3)])) := same_new nq2
      have gq2 : Tp (upd E1 q2 (.tup [.int (-4), .int 2, .int (-3)])) q2 ([(-4 : Int), 2, -3].map V.int) := upd_same
      generalize upd E1 q2 (.tup [.int (-4), .int 2, .int (-3)]) = E2 at sq2 gq2 ⊢
      refine ⟨by show 2 ≤ sizeLine; decide, fun q3 nq3 => ?_⟩
      have sq3 : Same E2 (upd E2 q3 (.tup [.int 5, .int 0])) := same_new nq3
      have gq3 : Tp (upd E2 q3 (.tup [.int 5, .int 0])) q3 ([(5 : Int), 0].map V.int) := upd_same
      generalize upd E2 q3 (.tup [.int 5, .int 0]) = E3 at sq3 gq3 ⊢
      refine ⟨1, rfl, by show 1 ≤ sizeLine; decide, fun q4 nq4 => ?_⟩
      have sq4 : Same E3 (upd E3 q4 (.tup [.int (-1)])) := same_new nq4
      have gq4 : Tp (upd E3 q4 (.tup [.int (-1)])) q4 ([(-1 : Int)].map V.int) := upd_same
      generalize upd E3 q4 (.tup [.int (-1)]) = E4 at sq4 gq4 ⊢
      refine ⟨1, rfl, by show 2 ≤ sizeLine; decide, fun q5 nq5 => ?_⟩
      have sq5 : Same E4 (upd E4 q5 (.tup [.int 1, .int (-1)])) := same_new nq5
      have gq5 : Tp (upd E4 q5 (.tup [.int 1, .int (-1)])) q5 ([(1 : Int), -1].map V.int) := upd_same
      generalize upd E4 q5 (.tup [.int 1, .int (-1)]) = E5 at sq5 gq5 ⊢
      refine ⟨by show 3 ≤ sizeLine; decide, fun q6 nq6 => ?_⟩
      have sq6 : Same E5 (upd E5 q6 (.tup [.int 4, .int 0, .int 0])) := same_new nq6
      have gq6 : Tp (upd E5 q6 (.tup [.int 4, .int 0, .int 0])) q6 ([(4 : Int), 0, 0].map V.int) := upd_same
      generalize upd E5 q6 (.tup [.int 4, .int 0, .int 0]) = E6 at sq6 gq6 ⊢
      refine ⟨1, rfl, by show 8 ≤ sizeLine; decide, fun S4 nS4 => ?_⟩
      have sS4 : Same E6 (upd E6 S4 (.lst [.ref q1, .ref q2, .ref q3, .ref q4, .ref q5, .ref q6, .int 1, .int (-1)])) := same_new nS4
      have gS4 : upd E6 S4 (.lst [.ref q1, .ref q2, .ref q3, .ref q4, .ref q5, .ref q6, .int 1, .int (-1)]) S4 = some (.lst [.ref q1, .ref q2, .ref q3, .ref q4, .ref q5, .ref q6, .int 1, .int (-1)]) := upd_same
      generalize upd E6 S4 (.lst [.ref q1, .ref q2, .ref q3, .ref q4, .ref q5, .ref q6, .int 1, .int (-1)]) = E7 at sS4 gS4 ⊢
      have v6 := sS4
      have v5 := sq6.trans v6
      have v4 := sq5.trans v5
      have v3 := sq4.trans v4
      have v2 := sq3.trans v3
      have v1 := sq2.trans v2
      have v0 := sq1.trans v1
      refine ⟨.ref S3, .ref S4, .list [dRow [(3 : Int), 2, -3], dRow [(-4 : Int), 2, -3], dRow [(5 : Int), 0], dRow [(-1 : Int)], dRow [(1 : Int), -1], dRow [(4 : Int), 0, 0], .int 1, .int (-1)], rfl, .lst (SqL.of (v0 _ _ gS3)) (.cons (Tp.dp (u1.same v0)) (.cons (Tp.dp (u2.same v0)) (.cons (Tp.dp (u3.same v0)) (.cons (Tp.dp (u4.same v0)) (.cons (Tp.dp (u5.same v0)) (.cons (Tp.dp (u6.same v0)) (.cons (.int _) (.cons (.int _) .nil)))))))), .lst (SqL.of gS4) (.cons (Tp.dp (gq1.same v1)) (.cons (Tp.dp (gq2.same v2)) (.cons (Tp.dp (gq3.same v3)) (.cons (Tp.dp (gq4.same v4)) (.cons (Tp.dp (gq5.same v5)) (.cons (Tp.dp (gq6.same v6)) (.cons (.int _) (.cons (.int _) .nil)))))))), ?_, k0 _⟩
      exact FitN.mono (FitN.list (k := 1) (n := 608) (.cons (a := 100) (b := 507) (fitc [(3 : Int), 2, -3] (by decide) (by decide)) (.cons (a := 100) (b := 406) (fitc [(-4 : Int), 2, -3] (by decide) (by decide)) (.cons (a := 100) (b := 305) (fitc [(5 : Int), 0] (by decide) (by decide)) (.cons (a := 100) (b := 204) (fitc [(-1 : Int)] (by decide) (by decide)) (.cons (a := 100) (b := 103) (fitc [(1 : Int), -1] (by decide) (by decide)) (.cons (a := 100) (b := 2) (fitc [(4 : Int), 0, 0] (by decide) (by decide)) (.cons (a := 0) (b := 1) (.int (Nat.lt_trans (by decide : (1 : Int).natAbs < 2) (by decide))) (.cons (a := 0) (b := 0) (.int (Nat.lt_trans (by decide : (-1 : Int).natAbs < 2) (by decide))) .nil (Nat.le_refl _)) (Nat.le_refl _)) (Nat.le_refl _)) (Nat.le_refl _)) (Nat.le_refl _)) (Nat.le_refl _)) (Nat.le_refl _)) (Nat.le_refl _))) (by decide) (by decide)
end
end K00
namespace K00
open PySem PySem.Spec PyProof.Rows L2 Vk
section
variable {P : Program} {w : World} {K : PySem.W.Frag} {mg : Str → Option Value} {base : Heap}
/-- a def of the text by its name -/
theorem cal_of {x : Str} {st : Stmt} {f : Addr} {fd : FuncData} {k : Nat} {ps : List Str} {sp : Sp} (F : Fun K x x st f fd) (g : mg x = some (.ref f)) (G : FnOk P w K mg base CX0 k f fd ps sp) (b : Binds K fd ps []) : Cal P w K mg base k x ps sp := ⟨f, fd, G, g, F.kp, b⟩
theorem calG_of {x : Str} {st : Stmt} {f : Addr} {fd : FuncData} {k : Nat} {ps : List Str} {sp : Sp} (F : Fun K x x st f fd) (g : mg x = some (.ref f)) (G : FnG P w K mg base k f fd ps sp) (b : Binds K fd ps []) : CalG P w K mg base k x ps sp := ⟨f, fd, G, g, F.kp, b⟩

theorem all_mk {l : PySem.W.OpenLaw} {h : Heap} {fa f_isn f_aren f_isform f_need f_psum f_fval f_fsum f_ftimes f_led f_putin f_cpart f_low f_begun f_draw f_of f_like f_shared f_whole f_form f_at f_wrong f_heard f_bent f_put f_llow f_law f_init CT CF CN : Addr} (X : K.In h) (G : h.Ns mainGlobals mg) (hfa : mg "law" = some (.ref fa))
    {nmC qC NC bsC bmC snC subC abC colC ddC k0C k1C k2C k3C k5C : _} {od_isn an_isn od_aren an_aren od_isform an_isform od_need an_need od_psum an_psum od_fval an_fval od_fsum an_fsum od_ftimes an_ftimes od_led an_led od_putin an_putin od_cpart an_cpart od_low an_low od_begun an_begun od_draw an_draw od_of an_of od_like an_like od_shared an_shared od_whole an_whole od_form an_form od_at an_at od_wrong an_wrong od_heard an_heard od_bent an_bent od_put an_put od_llow an_llow od_law an_law od_init an_init : Option Addr} {sl_isn sl_aren sl_isform sl_need sl_psum sl_fval sl_fsum sl_ftimes sl_led sl_putin sl_cpart sl_low sl_begun sl_draw sl_of sl_like sl_shared sl_whole sl_form sl_at sl_wrong sl_heard sl_bent sl_put sl_llow sl_law sl_init : Array (Option Value)}
    {oc_isn kV_isn dc_isn pm_isn cd_isn ct_isn oc_aren kV_aren dc_aren pm_aren cd_aren ct_aren oc_isform kV_isform dc_isform pm_isform cd_isform ct_isform oc_need kV_need dc_need pm_need cd_need ct_need oc_psum kV_psum dc_psum pm_psum cd_psum ct_psum oc_fval kV_fval dc_fval pm_fval cd_fval ct_fval oc_fsum kV_fsum dc_fsum pm_fsum cd_fsum ct_fsum oc_ftimes kV_ftimes dc_ftimes pm_ftimes cd_ftimes ct_ftimes oc_led kV_led dc_led pm_led cd_led ct_led oc_putin kV_putin dc_putin pm_putin cd_putin ct_putin oc_cpart kV_cpart dc_cpart pm_cpart cd_cpart ct_cpart oc_low kV_low dc_low pm_low cd_low ct_low oc_begun kV_begun dc_begun pm_begun cd_begun ct_begun oc_draw kV_draw dc_draw pm_draw cd_draw ct_draw oc_of kV_of dc_of pm_of cd_of ct_of oc_like kV_like dc_like pm_like cd_like ct_like oc_shared kV_shared dc_shared pm_shared cd_shared ct_shared oc_whole kV_whole dc_whole pm_whole cd_whole ct_whole oc_form kV_form dc_form pm_form cd_form ct_form oc_at kV_at dc_at pm_at cd_at ct_at oc_wrong kV_wrong dc_wrong pm_wrong cd_wrong ct_wrong oc_heard kV_heard dc_heard pm_heard cd_heard ct_heard oc_bent kV_bent dc_bent pm_bent cd_bent ct_bent oc_put kV_put dc_put pm_put cd_put ct_put oc_llow kV_llow dc_llow pm_llow cd_llow ct_llow oc_law kV_law dc_law pm_law cd_law ct_law oc_init kV_init dc_init pm_init cd_init ct_init : Value}
    (a_CT : PySem.W.nsIn K mainGlobals "TallyError" = some (some (.ref CT)))
    (a_CF : PySem.W.nsIn K mainGlobals "NotForm" = some (some (.ref CF)))
    (a_CN : PySem.W.nsIn K mainGlobals "NotFit" = some (some (.ref CN)))
    (o_cls : K.lookup CF = some (excClassObj nmC qC CF NC bsC bmC true snC subC abC colC ddC k0C k1C k2C k3C k5C "ValueError.__new__")) (o_vb : PySem.HandSPX.refsVE bmC = true) (o_sa : PySem.W.findIn K (.ref CF) "__setattr__" = some (some (.builtin "object.__setattr__"))) (e_b : PySem.W.subIn K (.ref CF) (.type "BaseException") = some true) (e_t : PySem.W.typeIn K (.ref CF) = some (.type "type")) (e_k : PySem.W.keepIn K (.ref CF) = true)
    (x_g : PySem.W.findIn K (.ref CF) "__getattribute__" = some (some (.builtin "BaseException.__getattribute__"))) (x_k : PySem.W.findIn K (.ref CF) "__getattr__" = some none) (x_d : PySem.W.hasDictIn K CF = true) (x_a : PySem.W.findIn K (.ref CF) "__class__" = some (some (.builtin "object.__class__"))) (x_n : PySem.W.specialIn K (.builtin "object.__class__") "__get__" = some (some (.builtin "getset_descriptor.__get__"))) (x_t : PySem.W.takesIn K (.builtin "object.__class__") = some true) (x_m : PySem.W.mroIn K CF (.type "object") = some true) (x_p : PySem.W.findIn K (.ref CF) "place" = some none)
    (y_e : PySem.W.exmOne K (.ref CF) (.ref CT) = some true) (y_V : PySem.W.kitOne K (.ref CF) (.type "ValueError") = some true) (y_F : PySem.W.kitOne K (.ref CF) (.ref CF) = some true) (y_N : PySem.W.kitOne K (.ref CF) (.ref CN) = some false)
    (a_isn : PySem.W.nsIn K mainGlobals "is_number" = some (some (.ref f_isn))) (l_isn : K.lookup f_isn = some ⟨oc_isn, od_isn, .func (PySem.W.fnOf "is_number" "is_number" (defArgs s_isn) (defBody s_isn) (defScope s_isn) .none kV_isn dc_isn pm_isn an_isn cd_isn ct_isn), sl_isn⟩) (c_isn : PySem.W.codeIn K cd_isn "is_number" = true) (k_isn : PySem.W.keepIn K (.ref f_isn) = true)
    (a_aren : PySem.W.nsIn K mainGlobals "are_numbers" = some (some (.ref f_aren))) (l_aren : K.lookup f_aren = some ⟨oc_aren, od_aren, .func (PySem.W.fnOf "are_numbers" "are_numbers" (defArgs s_aren) (defBody s_aren) (defScope s_aren) .none kV_aren dc_aren pm_aren an_aren cd_aren ct_aren), sl_aren⟩) (c_aren : PySem.W.codeIn K cd_aren "are_numbers" = true) (k_aren : PySem.W.keepIn K (.ref f_aren) = true)
    (a_isform : PySem.W.nsIn K mainGlobals "is_form" = some (some (.ref f_isform))) (l_isform : K.lookup f_isform = some ⟨oc_isform, od_isform, .func (PySem.W.fnOf "is_form" "is_form" (defArgs s_isform) (defBody s_isform) (defScope s_isform) .none kV_isform dc_isform pm_isform an_isform cd_isform ct_isform), sl_isform⟩) (c_isform : PySem.W.codeIn K cd_isform "is_form" = true) (k_isform : PySem.W.keepIn K (.ref f_isform) = true)
    (a_need : PySem.W.nsIn K mainGlobals "need_form" = some (some (.ref f_need))) (l_need : K.lookup f_need = some ⟨oc_need, od_need, .func (PySem.W.fnOf "need_form" "need_form" (defArgs s_need) (defBody s_need) (defScope s_need) .none kV_need dc_need pm_need an_need cd_need ct_need), sl_need⟩) (c_need : PySem.W.codeIn K cd_need "need_form" = true) (k_need : PySem.W.keepIn K (.ref f_need) = true)
    (a_psum : PySem.W.nsIn K mainGlobals "product_sum" = some (some (.ref f_psum))) (l_psum : K.lookup f_psum = some ⟨oc_psum, od_psum, .func (PySem.W.fnOf "product_sum" "product_sum" (defArgs s_psum) (defBody s_psum) (defScope s_psum) .none kV_psum dc_psum pm_psum an_psum cd_psum ct_psum), sl_psum⟩) (c_psum : PySem.W.codeIn K cd_psum "product_sum" = true) (k_psum : PySem.W.keepIn K (.ref f_psum) = true)
    (a_fval : PySem.W.nsIn K mainGlobals "form_value" = some (some (.ref f_fval))) (l_fval : K.lookup f_fval = some ⟨oc_fval, od_fval, .func (PySem.W.fnOf "form_value" "form_value" (defArgs s_fval) (defBody s_fval) (defScope s_fval) .none kV_fval dc_fval pm_fval an_fval cd_fval ct_fval), sl_fval⟩) (c_fval : PySem.W.codeIn K cd_fval "form_value" = true) (k_fval : PySem.W.keepIn K (.ref f_fval) = true)
    (a_fsum : PySem.W.nsIn K mainGlobals "form_sum" = some (some (.ref f_fsum))) (l_fsum : K.lookup f_fsum = some ⟨oc_fsum, od_fsum, .func (PySem.W.fnOf "form_sum" "form_sum" (defArgs s_fsum) (defBody s_fsum) (defScope s_fsum) .none kV_fsum dc_fsum pm_fsum an_fsum cd_fsum ct_fsum), sl_fsum⟩) (c_fsum : PySem.W.codeIn K cd_fsum "form_sum" = true) (k_fsum : PySem.W.keepIn K (.ref f_fsum) = true)
    (a_ftimes : PySem.W.nsIn K mainGlobals "form_times" = some (some (.ref f_ftimes))) (l_ftimes : K.lookup f_ftimes = some ⟨oc_ftimes, od_ftimes, .func (PySem.W.fnOf "form_times" "form_times" (defArgs s_ftimes) (defBody s_ftimes) (defScope s_ftimes) .none kV_ftimes dc_ftimes pm_ftimes an_ftimes cd_ftimes ct_ftimes), sl_ftimes⟩) (c_ftimes : PySem.W.codeIn K cd_ftimes "form_times" = true) (k_ftimes : PySem.W.keepIn K (.ref f_ftimes) = true)
    (a_led : PySem.W.nsIn K mainGlobals "led_form" = some (some (.ref f_led))) (l_led : K.lookup f_led = some ⟨oc_led, od_led, .func (PySem.W.fnOf "led_form" "led_form" (defArgs s_led) (defBody s_led) (defScope s_led) .none kV_led dc_led pm_led an_led cd_led ct_led), sl_led⟩) (c_led : PySem.W.codeIn K cd_led "led_form" = true) (k_led : PySem.W.keepIn K (.ref f_led) = true)
    (a_putin : PySem.W.nsIn K mainGlobals "put_in" = some (some (.ref f_putin))) (l_putin : K.lookup f_putin = some ⟨oc_putin, od_putin, .func (PySem.W.fnOf "put_in" "put_in" (defArgs s_putin) (defBody s_putin) (defScope s_putin) .none kV_putin dc_putin pm_putin an_putin cd_putin ct_putin), sl_putin⟩) (c_putin : PySem.W.codeIn K cd_putin "put_in" = true) (k_putin : PySem.W.keepIn K (.ref f_putin) = true)
    (a_cpart : PySem.W.nsIn K mainGlobals "common_part" = some (some (.ref f_cpart))) (l_cpart : K.lookup f_cpart = some ⟨oc_cpart, od_cpart, .func (PySem.W.fnOf "common_part" "common_part" (defArgs s_cpart) (defBody s_cpart) (defScope s_cpart) .none kV_cpart dc_cpart pm_cpart an_cpart cd_cpart ct_cpart), sl_cpart⟩) (c_cpart : PySem.W.codeIn K cd_cpart "common_part" = true) (k_cpart : PySem.W.keepIn K (.ref f_cpart) = true)
    (a_low : PySem.W.nsIn K mainGlobals "lowered" = some (some (.ref f_low))) (l_low : K.lookup f_low = some ⟨oc_low, od_low, .func (PySem.W.fnOf "lowered" "lowered" (defArgs s_low) (defBody s_low) (defScope s_low) .none kV_low dc_low pm_low an_low cd_low ct_low), sl_low⟩) (c_low : PySem.W.codeIn K cd_low "lowered" = true) (k_low : PySem.W.keepIn K (.ref f_low) = true)
    (a_begun : PySem.W.nsIn K mainGlobals "_law_begun" = some (some (.ref f_begun))) (l_begun : K.lookup f_begun = some ⟨oc_begun, od_begun, .func (PySem.W.fnOf "_law_begun" "_law_begun" (defArgs s_begun) (defBody s_begun) (defScope s_begun) .none kV_begun dc_begun pm_begun an_begun cd_begun ct_begun), sl_begun⟩) (c_begun : PySem.W.codeIn K cd_begun "_law_begun" = true) (k_begun : PySem.W.keepIn K (.ref f_begun) = true)
    (a_draw : PySem.W.nsIn K mainGlobals "_law_draw" = some (some (.ref f_draw))) (l_draw : K.lookup f_draw = some ⟨oc_draw, od_draw, .func (PySem.W.fnOf "_law_draw" "_law_draw" (defArgs s_draw) (defBody s_draw) (defScope s_draw) .none kV_draw dc_draw pm_draw an_draw cd_draw ct_draw), sl_draw⟩) (c_draw : PySem.W.codeIn K cd_draw "_law_draw" = true) (k_draw : PySem.W.keepIn K (.ref f_draw) = true)
    (a_of : PySem.W.nsIn K mainGlobals "_law_of" = some (some (.ref f_of))) (l_of : K.lookup f_of = some ⟨oc_of, od_of, .func (PySem.W.fnOf "_law_of" "_law_of" (defArgs s_of) (defBody s_of) (defScope s_of) .none kV_of dc_of pm_of an_of cd_of ct_of), sl_of⟩) (c_of : PySem.W.codeIn K cd_of "_law_of" = true) (k_of : PySem.W.keepIn K (.ref f_of) = true)
    (a_like : PySem.W.nsIn K mainGlobals "_law_like" = some (some (.ref f_like))) (l_like : K.lookup f_like = some ⟨oc_like, od_like, .func (PySem.W.fnOf "_law_like" "_law_like" (defArgs s_like) (defBody s_like) (defScope s_like) .none kV_like dc_like pm_like an_like cd_like ct_like), sl_like⟩) (c_like : PySem.W.codeIn K cd_like "_law_like" = true) (k_like : PySem.W.keepIn K (.ref f_like) = true)
    (a_shared : PySem.W.nsIn K mainGlobals "_law_shared" = some (some (.ref f_shared))) (l_shared : K.lookup f_shared = some ⟨oc_shared, od_shared, .func (PySem.W.fnOf "_law_shared" "_law_shared" (defArgs s_shared) (defBody s_shared) (defScope s_shared) .none kV_shared dc_shared pm_shared an_shared cd_shared ct_shared), sl_shared⟩) (c_shared : PySem.W.codeIn K cd_shared "_law_shared" = true) (k_shared : PySem.W.keepIn K (.ref f_shared) = true)
    (a_whole : PySem.W.nsIn K mainGlobals "_law_is_whole" = some (some (.ref f_whole))) (l_whole : K.lookup f_whole = some ⟨oc_whole, od_whole, .func (PySem.W.fnOf "_law_is_whole" "_law_is_whole" (defArgs s_whole) (defBody s_whole) (defScope s_whole) .none kV_whole dc_whole pm_whole an_whole cd_whole ct_whole), sl_whole⟩) (c_whole : PySem.W.codeIn K cd_whole "_law_is_whole" = true) (k_whole : PySem.W.keepIn K (.ref f_whole) = true)
    (a_form : PySem.W.nsIn K mainGlobals "_law_form" = some (some (.ref f_form))) (l_form : K.lookup f_form = some ⟨oc_form, od_form, .func (PySem.W.fnOf "_law_form" "_law_form" (defArgs s_form) (defBody s_form) (defScope s_form) .none kV_form dc_form pm_form an_form cd_form ct_form), sl_form⟩) (c_form : PySem.W.codeIn K cd_form "_law_form" = true) (k_form : PySem.W.keepIn K (.ref f_form) = true)
    (a_at : PySem.W.nsIn K mainGlobals "_law_at" = some (some (.ref f_at))) (l_at : K.lookup f_at = some ⟨oc_at, od_at, .func (PySem.W.fnOf "_law_at" "_law_at" (defArgs s_at) (defBody s_at) (defScope s_at) .none kV_at dc_at pm_at an_at cd_at ct_at), sl_at⟩) (c_at : PySem.W.codeIn K cd_at "_law_at" = true) (k_at : PySem.W.keepIn K (.ref f_at) = true)
    (a_wrong : PySem.W.nsIn K mainGlobals "_law_wrong" = some (some (.ref f_wrong))) (l_wrong : K.lookup f_wrong = some ⟨oc_wrong, od_wrong, .func (PySem.W.fnOf "_law_wrong" "_law_wrong" (defArgs s_wrong) (defBody s_wrong) (defScope s_wrong) .none kV_wrong dc_wrong pm_wrong an_wrong cd_wrong ct_wrong), sl_wrong⟩) (c_wrong : PySem.W.codeIn K cd_wrong "_law_wrong" = true) (k_wrong : PySem.W.keepIn K (.ref f_wrong) = true)
    (a_heard : PySem.W.nsIn K mainGlobals "_law_heard" = some (some (.ref f_heard))) (l_heard : K.lookup f_heard = some ⟨oc_heard, od_heard, .func (PySem.W.fnOf "_law_heard" "_law_heard" (defArgs s_heard) (defBody s_heard) (defScope s_heard) .none kV_heard dc_heard pm_heard an_heard cd_heard ct_heard), sl_heard⟩) (c_heard : PySem.W.codeIn K cd_heard "_law_heard" = true) (k_heard : PySem.W.keepIn K (.ref f_heard) = true)
    (a_bent : PySem.W.nsIn K mainGlobals "_law_bent" = some (some (.ref f_bent))) (l_bent : K.lookup f_bent = some ⟨oc_bent, od_bent, .func (PySem.W.fnOf "_law_bent" "_law_bent" (defArgs s_bent) (defBody s_bent) (defScope s_bent) .none kV_bent dc_bent pm_bent an_bent cd_bent ct_bent), sl_bent⟩) (c_bent : PySem.W.codeIn K cd_bent "_law_bent" = true) (k_bent : PySem.W.keepIn K (.ref f_bent) = true)
    (a_put : PySem.W.nsIn K mainGlobals "_law_put" = some (some (.ref f_put))) (l_put : K.lookup f_put = some ⟨oc_put, od_put, .func (PySem.W.fnOf "_law_put" "_law_put" (defArgs s_put) (defBody s_put) (defScope s_put) .none kV_put dc_put pm_put an_put cd_put ct_put), sl_put⟩) (c_put : PySem.W.codeIn K cd_put "_law_put" = true) (k_put : PySem.W.keepIn K (.ref f_put) = true)
    (a_llow : PySem.W.nsIn K mainGlobals "_law_lowered" = some (some (.ref f_llow))) (l_llow : K.lookup f_llow = some ⟨oc_llow, od_llow, .func (PySem.W.fnOf "_law_lowered" "_law_lowered" (defArgs s_llow) (defBody s_llow) (defScope s_llow) .none kV_llow dc_llow pm_llow an_llow cd_llow ct_llow), sl_llow⟩) (c_llow : PySem.W.codeIn K cd_llow "_law_lowered" = true) (k_llow : PySem.W.keepIn K (.ref f_llow) = true)
    (a_law : PySem.W.nsIn K mainGlobals "law" = some (some (.ref f_law))) (l_law : K.lookup f_law = some ⟨oc_law, od_law, .func (PySem.W.fnOf "law" "law" (defArgs s_law) (defBody s_law) (defScope s_law) .none kV_law dc_law pm_law an_law cd_law ct_law), sl_law⟩) (c_law : PySem.W.codeIn K cd_law "law" = true) (k_law : PySem.W.keepIn K (.ref f_law) = true)
    (a_init : PySem.W.findIn K (.ref CF) "__init__" = some (some (.ref f_init))) (l_init : K.lookup f_init = some ⟨oc_init, od_init, .func (PySem.W.fnOf "__init__" "NotForm.__init__" (defArgs s_init) (defBody s_init) (defScope s_init) .none kV_init dc_init pm_init an_init cd_init ct_init), sl_init⟩) (c_init : PySem.W.codeIn K cd_init "NotForm.__init__" = true) (k_init : PySem.W.keepIn K (.ref f_init) = true)
    (t_init : PySem.W.typeIn K (.ref f_init) = some (.type "function"))
    (g_gcd : PySem.W.nsIn K mainGlobals "gcd" = some (some (.builtin "math.gcd")))
    (m_isinstance : PySem.W.nsIn K mainGlobals "isinstance" = some none)
    (m_int : PySem.W.nsIn K mainGlobals "int" = some none)
    (m_bool : PySem.W.nsIn K mainGlobals "bool" = some none)
    (m_tuple : PySem.W.nsIn K mainGlobals "tuple" = some none)
    (m_len : PySem.W.nsIn K mainGlobals "len" = some none)
    (m_abs : PySem.W.nsIn K mainGlobals "abs" = some none)
    (m_list : PySem.W.nsIn K mainGlobals "list" = some none)
    (m_repr : PySem.W.nsIn K mainGlobals "repr" = some none)
    (m_range : PySem.W.nsIn K mainGlobals "range" = some none)
    (m_ValueError : PySem.W.nsIn K mainGlobals "ValueError" = some none)
    (m_all : PySem.W.nsIn K mainGlobals "all" = some none)
    (m_sum : PySem.W.nsIn K mainGlobals "sum" = some none)
    (m_zip : PySem.W.nsIn K mainGlobals "zip" = some none)
    (m_enumerate : PySem.W.nsIn K mainGlobals "enumerate" = some none)
    (m_max : PySem.W.nsIn K mainGlobals "max" = some none)
    (m_min : PySem.W.nsIn K mainGlobals "min" = some none) :
    ∃ fd : FuncData, (∀ (s : Shared) (u : Value), BindsTo s fd ⟨[u], []⟩ [("script", u)]) ∧ ∀ base : Heap, K.In base → base.Ns mainGlobals mg → FnG l.prog w K mg base 5 fa fd ["script"] (spLaw K) := by
  obtain rfl := Value.ref.inj (Option.some.inj (hfa.symm.trans (PySem.W.mg_of X G a_law)))
  have F_isn := fun_mk (st := s_isn) l_isn c_isn k_isn
  have G_isn := PySem.W.mg_of X G a_isn
  have B_isn := F_isn.binds (ps := ["value"]) fun _ _ _ _ _ _ us hl => match us, hl with | [_], _ => rfl
  have F_aren := fun_mk (st := s_aren) l_aren c_aren k_aren
  have G_aren := PySem.W.mg_of X G a_aren
  have B_aren := F_aren.binds (ps := ["value", "count"]) fun _ _ _ _ _ _ us hl => match us, hl with | [_, _], _ => rfl
  have F_isform := fun_mk (st := s_isform) l_isform c_isform k_isform
  have G_isform := PySem.W.mg_of X G a_isform
  have B_isform := F_isform.binds (ps := ["value", "m"]) fun _ _ _ _ _ _ us hl => match us, hl with | [_, _], _ => rfl
  have F_need := fun_mk (st := s_need) l_need c_need k_need
  have G_need := PySem.W.mg_of X G a_need
  have B_need := F_need.binds (ps := ["value", "m"]) fun _ _ _ _ _ _ us hl => match us, hl with | [_, _], _ => rfl
  have F_psum := fun_mk (st := s_psum) l_psum c_psum k_psum
  have G_psum := PySem.W.mg_of X G a_psum
  have B_psum := F_psum.binds (ps := ["one", "other"]) fun _ _ _ _ _ _ us hl => match us, hl with | [_, _], _ => rfl
  have F_fval := fun_mk (st := s_fval) l_fval c_fval k_fval
  have G_fval := PySem.W.mg_of X G a_fval
  have B_fval := F_fval.binds (ps := ["form", "t"]) fun _ _ _ _ _ _ us hl => match us, hl with | [_, _], _ => rfl
  have F_fsum := fun_mk (st := s_fsum) l_fsum c_fsum k_fsum
  have G_fsum := PySem.W.mg_of X G a_fsum
  have B_fsum := F_fsum.binds (ps := ["one", "other"]) fun _ _ _ _ _ _ us hl => match us, hl with | [_, _], _ => rfl
  have F_ftimes := fun_mk (st := s_ftimes) l_ftimes c_ftimes k_ftimes
  have G_ftimes := PySem.W.mg_of X G a_ftimes
  have B_ftimes := F_ftimes.binds (ps := ["form", "n"]) fun _ _ _ _ _ _ us hl => match us, hl with | [_, _], _ => rfl
  have F_led := fun_mk (st := s_led) l_led c_led k_led
  have F_putin := fun_mk (st := s_putin) l_putin c_putin k_putin
  have G_led := PySem.W.mg_of X G a_led
  have G_putin := PySem.W.mg_of X G a_putin
  have B_led := F_led.binds (ps := ["form", "forms", "n"]) fun _ _ _ _ _ _ us hl => match us, hl with | [_, _, _], _ => rfl
  have B_putin := F_putin.binds (ps := ["form", "forms", "n"]) fun _ _ _ _ _ _ us hl => match us, hl with | [_, _, _], _ => rfl
  have F_cpart := fun_mk (st := s_cpart) l_cpart c_cpart k_cpart
  have G_cpart := PySem.W.mg_of X G a_cpart
  have B_cpart := F_cpart.binds (ps := ["numbers"]) fun _ _ _ _ _ _ us hl => match us, hl with | [_], _ => rfl
  have F_low := fun_mk (st := s_low) l_low c_low k_low
  have G_low := PySem.W.mg_of X G a_low
  have B_low := F_low.binds (ps := ["form"]) fun _ _ _ _ _ _ us hl => match us, hl with | [_], _ => rfl
  have F_begun := fun_mk (st := s_begun) l_begun c_begun k_begun
  have G_begun := PySem.W.mg_of X G a_begun
  have B_begun := F_begun.binds (ps := ["script", "k"]) fun _ _ _ _ _ _ us hl => match us, hl with | [_, _], _ => rfl
  have F_draw := fun_mk (st := s_draw) l_draw c_draw k_draw
  have G_draw := PySem.W.mg_of X G a_draw
  have B_draw := F_draw.binds (ps := ["m", "bound"]) fun _ _ _ _ _ _ us hl => match us, hl with | [_, _], _ => rfl
  have F_of := fun_mk (st := s_of) l_of c_of k_of
  have G_of := PySem.W.mg_of X G a_of
  have B_of := F_of.binds (ps := ["m", "some"]) fun _ _ _ _ _ _ us hl => match us, hl with | [_, _], _ => rfl
  have F_like := fun_mk (st := s_like) l_like c_like k_like
  have G_like := PySem.W.mg_of X G a_like
  have B_like := F_like.binds (ps := ["got", "due"]) fun _ _ _ _ _ _ us hl => match us, hl with | [_, _], _ => rfl
  have F_shared := fun_mk (st := s_shared) l_shared c_shared k_shared
  have G_shared := PySem.W.mg_of X G a_shared
  have B_shared := F_shared.binds (ps := ["a", "b"]) fun _ _ _ _ _ _ us hl => match us, hl with | [_, _], _ => rfl
  have F_whole := fun_mk (st := s_whole) l_whole c_whole k_whole
  have G_whole := PySem.W.mg_of X G a_whole
  have B_whole := F_whole.binds (ps := ["x"]) fun _ _ _ _ _ _ us hl => match us, hl with | [_], _ => rfl
  have F_form := fun_mk (st := s_form) l_form c_form k_form
  have G_form := PySem.W.mg_of X G a_form
  have B_form := F_form.binds (ps := ["m", "n"]) fun _ _ _ _ _ _ us hl => match us, hl with | [_, _], _ => rfl
  have F_at := fun_mk (st := s_at) l_at c_at k_at
  have G_at := PySem.W.mg_of X G a_at
  have B_at := F_at.binds (ps := ["form", "t"]) fun _ _ _ _ _ _ us hl => match us, hl with | [_, _], _ => rfl
  have F_wrong := fun_mk (st := s_wrong) l_wrong c_wrong k_wrong
  have G_wrong := PySem.W.mg_of X G a_wrong
  have B_wrong := F_wrong.binds (ps := ["value", "n"]) fun _ _ _ _ _ _ us hl => match us, hl with | [_, _], _ => rfl
  have F_heard := fun_mk (st := s_heard) l_heard c_heard k_heard
  have G_heard := PySem.W.mg_of X G a_heard
  have B_heard := F_heard.binds (ps := ["value", "n"]) fun _ _ _ _ _ _ us hl => match us, hl with | [_, _], _ => rfl
  have F_bent := fun_mk (st := s_bent) l_bent c_bent k_bent
  have G_bent := PySem.W.mg_of X G a_bent
  have B_bent := F_bent.binds (ps := ["m", "form"]) fun _ _ _ _ _ _ us hl => match us, hl with | [_, _], _ => rfl
  have F_put := fun_mk (st := s_put) l_put c_put k_put
  have G_put := PySem.W.mg_of X G a_put
  have B_put := F_put.binds (ps := ["form", "forms", "n"]) fun _ _ _ _ _ _ us hl => match us, hl with | [_, _, _], _ => rfl
  have F_llow := fun_mk (st := s_llow) l_llow c_llow k_llow
  have G_llow := PySem.W.mg_of X G a_llow
  have B_llow := F_llow.binds (ps := ["form"]) fun _ _ _ _ _ _ us hl => match us, hl with | [_], _ => rfl
  have F_law := fun_mk (st := s_law) l_law c_law k_law
  have G_law := PySem.W.mg_of X G a_law
  have B_law := F_law.binds (ps := ["script"]) fun _ _ _ _ _ _ us hl => match us, hl with | [_], _ => rfl
  have F_init := fun_mk (st := s_init) l_init c_init k_init
  have B_init := F_init.binds (ps := ["self", "place"]) fun _ _ _ _ _ _ us hl => match us, hl with | [_, _], _ => rfl
  have M_isinstance := PySem.W.mg_none_of X G m_isinstance
  have M_int := PySem.W.mg_none_of X G m_int
  have M_bool := PySem.W.mg_none_of X G m_bool
  have M_tuple := PySem.W.mg_none_of X G m_tuple
  have M_len := PySem.W.mg_none_of X G m_len
  have M_abs := PySem.W.mg_none_of X G m_abs
  have M_list := PySem.W.mg_none_of X G m_list
  have M_repr := PySem.W.mg_none_of X G m_repr
  have M_range := PySem.W.mg_none_of X G m_range
  have M_ValueError := PySem.W.mg_none_of X G m_ValueError
  have M_all := PySem.W.mg_none_of X G m_all
  have M_sum := PySem.W.mg_none_of X G m_sum
  have M_zip := PySem.W.mg_none_of X G m_zip
  have M_enumerate := PySem.W.mg_none_of X G m_enumerate
  have M_max := PySem.W.mg_none_of X G m_max
  have M_min := PySem.W.mg_none_of X G m_min
  have gg := PySem.W.mg_of X G g_gcd
  have OC : OexC K CF := ⟨⟨_, _, _, _, _, _, _, _, _, _, _, _, _, _, _, o_cls, o_vb⟩, o_sa, e_b, e_t, e_k⟩
  have EX : Exs K mg CT CF CN := ⟨PySem.W.mg_of X G a_CT, PySem.W.mg_of X G a_CF, PySem.W.mg_of X G a_CN, ⟨x_g, x_k, e_b, x_d, x_a, x_n, x_t, x_m⟩, ⟨x_g, x_k, e_b, x_d⟩, x_p, y_e, y_V, y_F, y_N⟩
  refine ⟨PySem.W.fnOf "law" "law" (defArgs s_law) (defBody s_law) (defScope s_law) .none kV_law dc_law pm_law an_law cd_law ct_law, fun s v => .of_eq rfl, fun base KB NB => ?_⟩
  have NF : NfT l.prog w K mg base CF := ⟨PySem.W.mg_of X G a_CF, OC, f_init, _, a_init, t_init, ok_init F_init OC x_p, B_init⟩
  have C_isn := cal_of (P := l.prog) (w := w) (base := base) F_isn G_isn (ok_isn F_isn M_isinstance M_int M_bool) B_isn
  have C_aren := cal_of (P := l.prog) (w := w) (base := base) F_aren G_aren (ok_aren F_aren C_isn M_isinstance M_tuple M_len M_all) B_aren
  have C_isform := cal_of (P := l.prog) (w := w) (base := base) F_isform G_isform (ok_isform F_isform C_aren) B_isform
  have C_psum := cal_of (P := l.prog) (w := w) (base := base) F_psum G_psum (ok_psum F_psum M_sum M_zip) B_psum
  have C_fval := cal_of (P := l.prog) (w := w) (base := base) F_fval G_fval (ok_fval F_fval C_psum) B_fval
  have C_fsum := cal_of (P := l.prog) (w := w) (base := base) F_fsum G_fsum (ok_fsum F_fsum M_tuple M_zip) B_fsum
  have C_ftimes := cal_of (P := l.prog) (w := w) (base := base) F_ftimes G_ftimes (ok_ftimes F_ftimes M_tuple) B_ftimes
  have C_led := cal_of (P := l.prog) (w := w) (base := base) F_led G_led (ok_led F_led M_tuple M_zip) B_led
  have C_putin := cal_of (P := l.prog) (w := w) (base := base) F_putin G_putin (ok_putin F_putin C_led) B_putin
  have C_cpart := cal_of (P := l.prog) (w := w) (base := base) F_cpart G_cpart (ok_cpart F_cpart gg) B_cpart
  have C_low := cal_of (P := l.prog) (w := w) (base := base) F_low G_low (ok_low F_low C_cpart) B_low
  have C_begun := cal_of (P := l.prog) (w := w) (base := base) F_begun G_begun (ok_begun F_begun M_int) B_begun
  have C_draw := cal_of (P := l.prog) (w := w) (base := base) F_draw G_draw (ok_draw F_draw M_int M_len) B_draw
  have C_of := cal_of (P := l.prog) (w := w) (base := base) F_of G_of (ok_of F_of C_draw M_len) B_of
  have C_like := calG_of (P := l.prog) (w := w) (base := base) F_like G_like (ok_like F_like M_repr) B_like
  have C_shared := cal_of (P := l.prog) (w := w) (base := base) F_shared G_shared (ok_shared F_shared M_abs M_int) B_shared
  have C_whole := cal_of (P := l.prog) (w := w) (base := base) F_whole G_whole (ok_whole F_whole M_isinstance M_int M_bool) B_whole
  have C_form := cal_of (P := l.prog) (w := w) (base := base) F_form G_form (ok_form F_form C_of C_draw M_tuple M_range) B_form
  have C_at := cal_of (P := l.prog) (w := w) (base := base) F_at G_at (ok_at F_at M_sum M_len M_range) B_at
  have C_wrong := cal_of (P := l.prog) (w := w) (base := base) F_wrong G_wrong (ok_wrong F_wrong C_whole M_isinstance M_tuple M_len M_range) B_wrong
  have C_heard := cal_of (P := l.prog) (w := w) (base := base) F_heard G_heard (ok_heard F_heard EX (ok_need F_need NF C_isn M_isinstance M_tuple M_len M_enumerate) G_need F_need.kp B_need M_isinstance M_ValueError) B_heard
  have C_bent := cal_of (P := l.prog) (w := w) (base := base) F_bent G_bent (ok_bent F_bent C_draw C_of M_len M_list) B_bent
  have C_put := cal_of (P := l.prog) (w := w) (base := base) F_put G_put (ok_put F_put M_tuple M_len M_range) B_put
  have C_llow := cal_of (P := l.prog) (w := w) (base := base) F_llow G_llow (ok_llow F_llow C_shared M_tuple) B_llow
  exact ok_law F_law C_begun C_draw C_form C_bent C_wrong C_isform C_heard C_fsum C_ftimes C_fval C_at C_putin C_put C_low C_llow C_of C_like M_range M_max M_min M_len M_tuple
end
end K00
open PySem PySem.W PyProof.Rows
set_option maxHeartbeats 0 in
theorem PySem.Challenge.cw_pointtally_k00_whole_forms_holds : PySem.Challenge.rw_pointtally_k00_whole_forms.Holds := by
  w_on; o_law; k_head; (case hw => w_witness2)
  k_fill
  refine Vk.walk_ofG (l := PySem.Challenge.rw_pointtally_k00_whole_forms) (n := 63) (k := 5) (x := "script") (sp := fun K => K00.spLaw K) rfl (by decide) rfl ⟨rfl, by decide, by decide⟩ (fun w h Y => PySem.W.kIn_of Y) ?F (fun K H a ns hl _ hS => ⟨a, ns, rfl, hS, hl, fun _ => rfl⟩)
  case F =>
    intro w mg fa h KX G hmg
    refine' K00.all_mk KX G hmg ?a_CT ?a_CF ?a_CN ?o_cls ?o_vb ?o_sa ?e_b ?e_t ?e_k ?x_g ?x_k ?x_d ?x_a ?x_n ?x_t ?x_m ?x_p ?y_e ?y_V ?y_F ?y_N ?a_isn ?l_isn ?c_isn ?k_isn ?a_aren ?l_aren ?c_aren ?k_aren ?a_isform ?l_isform ?c_isform ?k_isform ?a_need ?l_need ?c_need ?k_need ?a_psum ?l_psum ?c_psum ?k_psum ?a_fval ?l_fval ?c_fval ?k_fval ?a_fsum ?l_fsum ?c_fsum ?k_fsum ?a_ftimes ?l_ftimes ?c_ftimes ?k_ftimes ?a_led ?l_led ?c_led ?k_led ?a_putin ?l_putin ?c_putin ?k_putin ?a_cpart ?l_cpart ?c_cpart ?k_cpart ?a_low ?l_low ?c_low ?k_low ?a_begun ?l_begun ?c_begun ?k_begun ?a_draw ?l_draw ?c_draw ?k_draw ?a_of ?l_of ?c_of ?k_of ?a_like ?l_like ?c_like ?k_like ?a_shared ?l_shared ?c_shared ?k_shared ?a_whole ?l_whole ?c_whole ?k_whole ?a_form ?l_form ?c_form ?k_form ?a_at ?l_at ?c_at ?k_at ?a_wrong ?l_wrong ?c_wrong ?k_wrong ?a_heard ?l_heard ?c_heard ?k_heard ?a_bent ?l_bent ?c_bent ?k_bent ?a_put ?l_put ?c_put ?k_put ?a_llow ?l_llow ?c_llow ?k_llow ?a_law ?l_law ?c_law ?k_law ?a_init ?l_init ?c_init ?k_init ?t_init ?g_gcd ?m_isinstance ?m_int ?m_bool ?m_tuple ?m_len ?m_abs ?m_list ?m_repr ?m_range ?m_ValueError ?m_all ?m_sum ?m_zip ?m_enumerate ?m_max ?m_min
    (case a_CT => k_is)
    (case a_CF => k_is)
    (case a_CN => k_is)
    (case o_cls => k_is)
    (case o_vb => kernel_rfl)
    (case o_sa => k_is)
    (case e_b => k_is)
    (case e_t => k_is)
    (case e_k => k_is)
    (case x_g => k_is)
    (case x_k => k_is)
    (case x_d => k_is)
    (case x_a => k_is)
    (case x_n => k_is)
    (case x_t => k_is)
    (case x_m => k_is)
    (case x_p => k_is)
    (case y_e => kernel_rfl)
    (case y_V => kernel_rfl)
    (case y_F => kernel_rfl)
    (case y_N => kernel_rfl)
    (case a_isn => k_is)
    (case l_isn => k_is)
    (case c_isn => k_is)
    (case k_isn => k_is)
    (case a_aren => k_is)
    (case l_aren => k_is)
    (case c_aren => k_is)
    (case k_aren => k_is)
    (case a_isform => k_is)
    (case l_isform => k_is)
    (case c_isform => k_is)
    (case k_isform => k_is)
    (case a_need => k_is)
    (case l_need => k_is)
    (case c_need => k_is)
    (case k_need => k_is)
    (case a_psum => k_is)
    (case l_psum => k_is)
    (case c_psum => k_is)
    (case k_psum => k_is)
    (case a_fval => k_is)
    (case l_fval => k_is)
    (case c_fval => k_is)
    (case k_fval => k_is)
    (case a_fsum => k_is)
    (case l_fsum => k_is)
    (case c_fsum => k_is)
    (case k_fsum => k_is)
    (case a_ftimes => k_is)
    (case l_ftimes => k_is)
    (case c_ftimes => k_is)
    (case k_ftimes => k_is)
    (case a_led => k_is)
    (case l_led => k_is)
    (case c_led => k_is)
    (case k_led => k_is)
    (case a_putin => k_is)
    (case l_putin => k_is)
    (case c_putin => k_is)
    (case k_putin => k_is)
    (case a_cpart => k_is)
    (case l_cpart => k_is)
    (case c_cpart => k_is)
    (case k_cpart => k_is)
    (case a_low => k_is)
    (case l_low => k_is)
    (case c_low => k_is)
    (case k_low => k_is)
    (case a_begun => k_is)
    (case l_begun => k_is)
    (case c_begun => k_is)
    (case k_begun => k_is)
    (case a_draw => k_is)
    (case l_draw => k_is)
    (case c_draw => k_is)
    (case k_draw => k_is)
    (case a_of => k_is)
    (case l_of => k_is)
    (case c_of => k_is)
    (case k_of => k_is)
    (case a_like => k_is)
    (case l_like => k_is)
    (case c_like => k_is)
    (case k_like => k_is)
    (case a_shared => k_is)
    (case l_shared => k_is)
    (case c_shared => k_is)
    (case k_shared => k_is)
    (case a_whole => k_is)
    (case l_whole => k_is)
    (case c_whole => k_is)
    (case k_whole => k_is)
    (case a_form => k_is)
    (case l_form => k_is)
    (case c_form => k_is)
    (case k_form => k_is)
    (case a_at => k_is)
    (case l_at => k_is)
    (case c_at => k_is)
    (case k_at => k_is)
    (case a_wrong => k_is)
    (case l_wrong => k_is)
    (case c_wrong => k_is)
    (case k_wrong => k_is)
    (case a_heard => k_is)
    (case l_heard => k_is)
    (case c_heard => k_is)
    (case k_heard => k_is)
    (case a_bent => k_is)
    (case l_bent => k_is)
    (case c_bent => k_is)
    (case k_bent => k_is)
    (case a_put => k_is)
    (case l_put => k_is)
    (case c_put => k_is)
    (case k_put => k_is)
    (case a_llow => k_is)
    (case l_llow => k_is)
    (case c_llow => k_is)
    (case k_llow => k_is)
    (case a_law => k_is)
    (case l_law => k_is)
    (case c_law => k_is)
    (case k_law => k_is)
    (case a_init => k_is)
    (case l_init => k_is)
    (case c_init => k_is)
    (case k_init => k_is)
    (case t_init => k_is)
    (case g_gcd => k_is)
    (case m_isinstance => k_is)
    (case m_int => k_is)
    (case m_bool => k_is)
    (case m_tuple => k_is)
    (case m_len => k_is)
    (case m_abs => k_is)
    (case m_list => k_is)
    (case m_repr => k_is)
    (case m_range => k_is)
    (case m_ValueError => k_is)
    (case m_all => k_is)
    (case m_sum => k_is)
    (case m_zip => k_is)
    (case m_enumerate => k_is)
    (case m_max => k_is)
    (case m_min => k_is)
